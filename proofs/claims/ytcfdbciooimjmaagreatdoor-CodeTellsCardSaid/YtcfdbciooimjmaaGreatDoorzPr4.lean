/- Layer 7: the document's Text. -/
import Derived.Test.YtcfdbciooimjmaaGreatDoorzPr1
import Derived.Test.YtcfdbciooimjmaaGreatDoorzPr3
namespace Go.Proofs.YtcfdbciooimjmaaGreatDoor
set_option linter.unusedVariables false
set_option linter.unusedSimpArgs false
open Go.RowKit Go.ChangeShapes Go.WideShapes Go.ChangeAt Go.Sort

theorem lineT_len {x : PLine} (h : okL x = true) : (lineT x).length ≤ 16 := by
  cases x with
  | head a l s =>
    obtain ⟨⟨a0, a1⟩, ⟨l0, l1⟩, s0, s1⟩ := (headB_iff a l s).1 h
    have n0 := dgI_len a0 (show a < 1000 by omega)
    have n1 := dgI_len l0 (show l < 1000 by omega)
    have n2 := dgI_len s0 (show s < 1000 by omega)
    have he : lineT (.head a l s) = funcW ++ 32 :: (dgI a ++ 32 :: (dgI l ++ 32 :: dgI s)) := rfl
    rw [he]
    simp [funcW]
    omega
  | ins o a b =>
    obtain ⟨⟨a0, a1⟩, ⟨b0, b1⟩, _, _, f0, f2⟩ := row_bounds h
    have n0 := dgI_len a0 a1
    have n1 := dgI_len b0 b1
    have hns : (nmL o).length ≤ 5 := by
      obtain ⟨k, hk, rfl⟩ := may_in h
      rw [nmL_in hk]
      have := (size_ok k hk).2.1
      simpa using this
    have he : lineT (.ins o a b) = joinC 32 (nmL o :: (if (rz o).f < 1 then [] else if (rz o).f < 2 then [dgI a] else [dgI a, dgI b])) := rfl
    rw [he]
    split
    · simp [joinC]; omega
    · split
      · simp [joinC]; omega
      · simp [joinC]; omega
/-- The text of lines. -/
def flatT (xs : List PLine) : List UInt8 := flatC 10 (xs.map lineT)
theorem flatT_snoc (xs : List PLine) (x : PLine) : flatT (xs ++ [x]) = flatT xs ++ lineT x ++ [10] := by
  unfold flatT
  rw [List.map_append, flatC_app]
  simp [flatC]
theorem flatT_len : ∀ {xs : List PLine}, (∀ x ∈ xs, okL x = true) → (flatT xs).length ≤ 17 * xs.length
  | [], _ => by simp [flatT, flatC]
  | x :: xs, h => by
    have h1 := lineT_len (h x (by simp))
    have h2 := flatT_len (xs := xs) (fun y hy => h y (by simp [hy]))
    unfold flatT at *
    rw [List.map_cons, flatC_cons]
    simp
    omega
theorem linesP_small {p : List Fun} (h : mayP p = true) : (linesP p).length ≤ 3216 := by
  obtain ⟨_, h2, h3⟩ := (mayP_iff p).1 h
  have h1 : ∀ (q : List Fun), (∀ f ∈ q, mayF f = true) → (linesP q).length ≤ 201 * q.length := by
    intro q
    induction q with
    | nil => simp [linesP]
    | cons f q ih =>
      intro hq
      have := ((mayF_iff f).1 (hq f (by simp))).2.2.1
      have := ih (fun g hg => hq g (by simp [hg]))
      rw [linesP_cons]
      simp [linesF]
      omega
  have := h1 p h3
  omega
/-- The lines ahead of an instruction of a program. -/
def upTo (p : List Fun) (k : Nat) (f : Fun) (j : Nat) : List PLine := linesP (p.take k) ++ (.head f.ar f.lo f.sl :: (f.code.take j).map fun x => .ins x.1 x.2.1 x.2.2)
theorem upTo_ok {p : List Fun} (h : mayP p = true) {k : Nat} (hk : k < p.length) {j : Nat} : (∀ x ∈ upTo p k p[k] j, okL x = true) ∧ (upTo p k p[k] j).length ≤ 3216 := by
  obtain ⟨_, h2, h3⟩ := (mayP_iff p).1 h
  have hall := linesP_ok h3
  have hs := linesP_small h
  have e1 : p = p.take k ++ p[k] :: p.drop (k + 1) := by
    rw [← List.drop_eq_getElem_cons hk, List.take_append_drop]
  have e2 : linesP p = linesP (p.take k) ++ (linesF p[k] ++ linesP (p.drop (k + 1))) := by
    conv => lhs; rw [e1]
    rw [linesP_app, linesP_cons]
  have hpre : ∃ r, linesP p = upTo p k p[k] j ++ r := by
    rw [e2]
    refine ⟨((p[k].code.drop j).map fun x => .ins x.1 x.2.1 x.2.2) ++ linesP (p.drop (k + 1)), ?_⟩
    unfold upTo linesF
    simp only [List.append_assoc, List.cons_append]
    congr 2
    rw [← List.append_assoc, ← List.map_append, List.take_append_drop]
  obtain ⟨r, hr⟩ := hpre
  refine ⟨fun x hx => hall x (by rw [hr]; simp [hx]), ?_⟩
  rw [hr, List.length_append] at hs
  omega
theorem upTo_zero (p : List Fun) (k : Nat) (f : Fun) : upTo p k f 0 = linesP (p.take k) ++ [.head f.ar f.lo f.sl] := by simp [upTo]
theorem upTo_succ (p : List Fun) (k : Nat) (f : Fun) (j : Nat) (hj : j < f.code.length) : upTo p k f (j + 1) = upTo p k f j ++ [.ins f.code[j].1 f.code[j].2.1 f.code[j].2.2] := by
  unfold upTo
  rw [List.take_succ_eq_append_getElem hj, List.map_append]
  simp
theorem upTo_all (p : List Fun) (k : Nat) (hk : k < p.length) : upTo p k p[k] p[k].code.length = linesP (p.take (k + 1)) := by
  unfold upTo
  rw [List.take_length, List.take_succ_eq_append_getElem hk, linesP_app]
  simp [linesP, linesF]

set_option maxHeartbeats 4000000 in
set_option maxRecDepth 100000 in
theorem ptext_any {B : Nat} {A : Option Addr} {p : List Fun} (c : Nat) (w : World) (h : ProgAt w B A p) (hz : SizedP p) (hB : B ≤ w.heap.size) :
    Calls Tryz.prog 18 #[.slice A p.length c] w fun e w' => e = .returned (.string ⟨(textP p).toArray⟩) ∧ Below w.heap.size w w' := by
  have M := Lib.hid (pmay_any c w h hz hB)
  have HA := Lib.hid h
  clear h
  cases hm : mayP p
  · have ht : textP p = [] := by unfold textP; rw [if_neg (by rw [hm]; simp)]
    rw [hm] at M
    have HT := Lib.hid ht
    clear ht hm hz
    go_enter Tryz.func18, Tryz.ntmps18
    go_wp2_with (go_at_call 16; (with_reducible refine M.out.mono ?_); rintro e v ⟨rfl, hb⟩)
    go_ret
    rw [HT.out]
    exact ⟨rfl, hb⟩
  · have ht : textP p = flatT (linesP p) := text_eq hm
    rw [hm] at M
    have HT := Lib.hid ht
    have hzp := ((mayP_iff p).1 hm).2.1
    have hU := fun k (hk : k < p.length) j => upTo_ok hm hk (j := j)
    have hP3 := ((mayP_iff p).1 hm).2.2
    have hpl := fun k => (show (linesP (p.take k)).length ≤ 3216 ∧ ∀ x ∈ linesP (p.take k), okL x = true from by
      have e : linesP p = linesP (p.take k) ++ linesP (p.drop k) := by rw [← linesP_app, List.take_append_drop]
      have h1 := linesP_small hm
      rw [e, List.length_append] at h1
      exact ⟨by omega, fun x hx => linesP_ok hP3 x (by rw [e]; simp [hx])⟩)
    have HU := Lib.hid hU
    have HP3 := Lib.hid hP3
    have HPL := Lib.hid hpl
    clear ht hm hz hU hP3 hpl
    go_enter Tryz.func18, Tryz.ntmps18
    go_wp2_with (go_at_call 16; (with_reducible refine M.out.mono ?_); rintro e w0 ⟨rfl, hb0⟩)
    go_loopw [3, 4] (fun s i W => ∃ k : Nat, k ≤ p.length ∧ i = .int .i64 k ∧ s = .string ⟨(flatT (linesP (p.take k))).toArray⟩ ∧ Below w.heap.size w W) (fun _ i _ => p.length - (intOf i).toNat)
    case atStart => exact ⟨0, by omega, rfl, by simp [linesP, flatT, flatC], hb0⟩
    case round =>
      obtain ⟨k, hk, rfl, rfl, hw⟩ := hrel
      obtain ⟨wo, rfl⟩ : ∃ wo, wo = wr := ⟨_, rfl⟩
      by_cases hlt : k < p.length
      · obtain ⟨b, off, rfl, hbl, hc⟩ := (HA.out.below hw hB) (by omega)
        have hF := hc k hlt
        clear hc
        have hmf := HP3.out _ (List.getElem_mem hlt)
        have hl1 := flatT_len (HPL.out k).2
        have hl2 := (HPL.out k).1
        have hu0 := upTo_zero p k p[k]
        have hus := upTo_succ p k p[k]
        have hua := upTo_all p k hlt
        have huo := HU.out k hlt
        generalize p[k] = f at *
        have HUS := Lib.hid hus
        have HUA := Lib.hid hua
        have HUO := Lib.hid huo
        have hfs : flatT (upTo p k f 0) = flatT (linesP (p.take k)) ++ lineT (.head f.ar f.lo f.sl) ++ [10] := by rw [hu0, flatT_snoc]
        obtain ⟨hh, _, hcl, hall⟩ := (mayF_iff f).1 hmf
        have hln := lineT_len (x := .head f.ar f.lo f.sl) hh
        have HALL := Lib.hid hall
        have HFS := Lib.hid hfs
        obtain ⟨f0, f1, f2, A2, c2, f3, hcode⟩ := hF
        have HC := Lib.hid hcode
        have TP := ptop_in (.slice A2 f.code.length c2) hh
        have hwz := hw.size
        have hbo : b < wo.heap.size := by omega
        have hBo : B ≤ wo.heap.size := by omega
        clear hcode hus hua huo hu0 hfs hmf hall hh
        generalize flatT (linesP (p.take k)) = acc at *
        generalize lineT (.head f.ar f.lo f.sl) = ln at *
        have hs : acc.length + (ln.length + 1) ≤ 9223372036854775807 := by omega
        clear hl1 hl2
        go_wp2_with (go_at_call 46; (with_reducible refine (TP.go _).mono ?_); rintro e v ⟨rfl, hb⟩; replace f3 := (hb.cell hbo).trans f3)
        have hwv := Below.step hw hb
        have hvz := hb.size
        have hbv : b < v.heap.size := by omega
        have hBv : B ≤ v.heap.size := by omega
        go_loopw [3, 5] (fun s i W => ∃ j : Nat, j ≤ f.code.length ∧ i = .int .i64 j ∧ s = .string ⟨(flatT (upTo p k f j)).toArray⟩ ∧ Below v.heap.size v W) (fun _ i _ => f.code.length - (intOf i).toNat)
        case atStart => exact ⟨0, by omega, rfl, by rw [HFS.out]; apply congrArg Value.string; apply ByteArray.ext; simp, Below.refl _ _⟩
        case round =>
          obtain ⟨j, hj, rfl, rfl, hwi⟩ := hrel
          have e3 := (hwi.cell hbv).trans f3
          have hwiz := hwi.size
          by_cases hltj : j < f.code.length
          · obtain ⟨b2, off2, rfl, hbl2, hd⟩ := ((HC.out.below hb hBo).below hwi hBv) (by omega)
            obtain ⟨d0, d1, d2⟩ := hd j hltj
            clear hd
            have hx := HALL.out _ (List.getElem_mem hltj)
            have hst := HUS.out j hltj
            have hl1 := flatT_len (HUO.out j).1
            have hl2 := (HUO.out j).2
            generalize f.code[j] = x at *
            obtain ⟨xo, xa, xb⟩ := x
            simp only at hx hst d0 d1 d2
            have LN := pline_in hx
            have hln2 := lineT_len (x := .ins xo xa xb) hx
            have hfl : flatT (upTo p k f (j + 1)) = flatT (upTo p k f j) ++ lineT (.ins xo xa xb) ++ [10] := by rw [hst, flatT_snoc]
            have HFL := Lib.hid hfl
            clear hfl hst hx
            generalize flatT (upTo p k f j) = acc2 at *
            generalize lineT (.ins xo xa xb) = ln2 at *
            have hs2 : acc2.length + (ln2.length + 1) ≤ 9223372036854775807 := by omega
            clear hl1 hl2
            go_wp2_with (go_at_call 47; (with_reducible refine (LN.go _).mono ?_); rintro e v1 ⟨rfl, hb1⟩; replace hwi := Below.step hwi hb1; clear hb1)
            go_roundw
            case rel => exact ⟨j + 1, by omega, by go_num, by rw [HFL.out]; apply congrArg Value.string; apply ByteArray.ext; simp, hwi⟩
            case measure => simp [intOf]; omega
          · obtain rfl : j = f.code.length := by omega
            rw [HUA.out]
            go_wp2_with fail
            go_roundw
            case rel => exact ⟨k + 1, by omega, by go_num, rfl, Below.step hwv hwi⟩
            case measure => simp [intOf]; omega
      · obtain rfl : k = p.length := by omega
        rw [List.take_length, ← HT.out] at *
        go_wp2_with fail
        go_ret
        exact ⟨rfl, hw⟩
end Go.Proofs.YtcfdbciooimjmaaGreatDoor

