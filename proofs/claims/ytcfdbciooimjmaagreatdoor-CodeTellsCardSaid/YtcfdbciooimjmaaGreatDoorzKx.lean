/- Layer 7's code: Text. -/
import Derived.Test.YtcfdbciooimjmaaGreatDoorzBf
import Derived.Test.YtcfdbciooimjmaaGreatDoorzPr4
namespace Go.Proofs.YtcfdbciooimjmaaGreatDoor
set_option linter.unusedVariables false
set_option linter.unusedSimpArgs false
open Go.RowKit Go.ChangeShapes Go.WideShapes Go.ChangeAt Go.Sort

theorem lineT_head (a l s : Int) : lineT (.head a l s) = funcW ++ [a, l, s].flatMap blankN := by simp [lineT, wordsL, joinC, blankN]
theorem lineT_ins (o a b : Int) : lineT (.ins o a b) = nmL o ++ (flds o a b).flatMap blankN := by
  show joinC 32 (nmL o :: (if (rz o).f < 1 then [] else if (rz o).f < 2 then [dgI a] else [dgI a, dgI b])) = _
  unfold flds
  split
  · simp [joinC]
  · split
    · simp [joinC, blankN]
    · simp [joinC, blankN]
theorem flds_in {o a b : Int} (h : mayZ o a b = true) : ∀ n ∈ flds o a b, 0 ≤ n ∧ n < 1000 := by
  obtain ⟨⟨a0, a1⟩, ⟨b0, b1⟩, _⟩ := row_bounds h
  unfold flds
  split
  · simp
  · split
    · simp; omega
    · simp; omega
theorem flds_len (o a b : Int) : (flds o a b).length ≤ 2 := by
  unfold flds
  split
  · simp
  · split <;> simp
theorem blankN_len {n : Int} (h0 : 0 ≤ n) (h1 : n < 1000) : (blankN n).length ≤ 16 := by
  have := dgI_len h0 h1
  unfold blankN
  rw [List.length_cons]
  omega
theorem flatG_len {G : Int → List UInt8} : ∀ {ns : List Int}, (∀ n ∈ ns, (G n).length ≤ 16) → (ns.flatMap G).length ≤ 16 * ns.length
  | [], _ => by simp
  | n :: ns, h => by
    have h1 := h n (by simp)
    have h2 := flatG_len (ns := ns) (fun m hm => h m (by simp [hm]))
    rw [List.flatMap_cons, List.length_append, List.length_cons]
    omega
theorem flatT_bd {p : List Fun} {k : Nat} (h : (linesP (p.take k)).length ≤ 3216 ∧ ∀ x ∈ linesP (p.take k), okL x = true) : (flatT (linesP (p.take k))).length ≤ 54672 := by
  have := flatT_len h.2
  omega
/-- The call of the closure that Text makes. -/
theorem spillT (w0 : World) (hT0 : TT w0) {ns : List Int} (n : Nat) (hn : ns.length = n) (hns : ∀ n ∈ ns, 0 ≤ n ∧ n < 1000) (hl : n ≤ 10)
    {b : Nat} {acc : List UInt8} (hacc : acc.length ≤ 1000000) {A : Option Addr} {c k0 k1 : Nat} (w : World) (hw : Below w0.heap.size w0 w) (hB : Bd w w0.heap.size b acc)
    (h0 : Held w k0 65 #[.pointer (some ⟨b, 0, none⟩)]) (h1 : Held w k1 71 #[fnv 39]) (hA : IntsAt w A ns) :
    Calls Tryz.prog 69 #[.slice A n c, .pointer (some ⟨k0, 0, none⟩), .pointer (some ⟨k1, 0, none⟩)] w fun e w' => e = .returned (.tuple #[]) ∧ Bd w' w0.heap.size b (acc ++ ns.flatMap blankN) ∧ KeepT w w' ∧ Below w0.heap.size w0 w' := by
  subst hn
  exact spill_any w0 hT0 (fun n hn W hT => cblank_in (hns n hn).1 (hns n hn).2 W hT) (fun n hn => blankN_len (hns n hn).1 (hns n hn).2) hl (enters_of Tryz.func39 (by kernel_rfl) rfl) hacc w hw hB h0 h1 hA
theorem ints3 (w : World) (a l s : Int) : IntsAt (w.alloc (.cells #[.int .i64 a, .int .i64 l, .int .i64 s] 3)) (some ⟨w.heap.size, 0, none⟩) [a, l, s] := fun _ => ⟨_, _, rfl, Held.new _ _ _, fun j h => by
  match j, h with
  | 0, _ => rfl
  | 1, _ => rfl
  | 2, _ => rfl⟩

set_option maxHeartbeats 4000000 in
set_option maxRecDepth 100000 in
theorem ctext_any {B : Nat} {A : Option Addr} {p : List Fun} (c : Nat) (w : World) (hT : TT w) (h : ProgAt w B A p) (hz : SizedP p) (hB : B ≤ w.heap.size) :
    Calls Tryz.prog 17 #[.slice A p.length c] w fun e w' => e = .returned (.string ⟨(textP p).toArray⟩) ∧ Below w.heap.size w w' := by
  have M := Lib.hid (cmay_any c w hT h hz hB)
  have HA := Lib.hid h
  clear h
  cases hm : mayP p
  · have ht : textP p = [] := by unfold textP; rw [if_neg (by rw [hm]; simp)]
    rw [hm] at M
    have HT := Lib.hid ht
    clear ht hm hz
    go_enter Tryz.func17, Tryz.ntmps17
    go_wp2_with (go_at_call 15; (with_reducible refine M.out.mono ?_); rintro e v ⟨rfl, hb⟩)
    go_ret
    rw [HT.out]
    exact ⟨rfl, hb⟩
  · have ht : textP p = flatT (linesP p) := text_eq hm
    rw [hm] at M
    have HT := Lib.hid ht
    have hzp := ((mayP_iff p).1 hm).2.1
    have hU := fun k (hk : k < p.length) j => upTo_ok hm hk (j := j)
    have hP3 := ((mayP_iff p).1 hm).2.2
    have hpl := fun k => (show (linesP (p.take k)).length ≤ 3216 ∧ ∀ x ∈ linesP (p.take k), okL x = true from by
      have e : linesP p = linesP (p.take k) ++ linesP (p.drop k) := by rw [← linesP_app, List.take_append_drop]
      have h1 := linesP_small hm
      rw [e, List.length_append] at h1
      exact ⟨by omega, fun x hx => linesP_ok hP3 x (by rw [e]; simp [hx])⟩)
    have HU := Lib.hid hU
    have HP3 := Lib.hid hP3
    have HPL := Lib.hid hpl
    clear ht hm hz hU hP3 hpl
    go_enter Tryz.func17, Tryz.ntmps17
    go_wp2_with (first
      | (go_at_call 15; (with_reducible refine M.out.mono ?_); rintro e w0 ⟨rfl, hb0⟩)
      | (go_at_call 38; (with_reducible refine (into_any2 _ _ _).mono ?_); rintro e w1 ⟨k0, k1, rfl, hK0, hK1, hb1⟩))
    have hT0 := hT.below hb0
    have hB1 := (Bd.fresh w0).below hb1
    have hw1 := below_laid hb1
    have hB0 : B ≤ w0.heap.size := Nat.le_trans hB hb0.size
    clear hb1
    go_loopw [15] (fun i W => ∃ k : Nat, k ≤ p.length ∧ i = .int .i64 k ∧ Bd W w0.heap.size w0.heap.size (flatT (linesP (p.take k))) ∧ Held W k0 65 #[.pointer (some ⟨w0.heap.size, 0, none⟩)] ∧ Held W k1 71 #[fnv 39] ∧ Below w0.heap.size w0 W) (fun i _ => p.length - (intOf i).toNat)
    case atStart => exact ⟨0, by omega, rfl, hB1, hK0, hK1, hw1⟩
    case round =>
      clear hB1 hK0 hK1 hw1
      obtain ⟨k, hk, rfl, hBd, hK0, hK1, hw⟩ := hrel
      by_cases hlt : k < p.length
      · obtain ⟨b, off, rfl, hbl, hc⟩ := (HA.out.below hb0 hB) (by omega)
        have hF := hc k hlt
        clear hc
        have hmf := HP3.out _ (List.getElem_mem hlt)
        have hacc := flatT_bd (HPL.out k)
        have hu0 := upTo_zero p k p[k]
        have hus := upTo_succ p k p[k]
        have hua := upTo_all p k hlt
        have huo := HU.out k hlt
        generalize p[k] = f at *
        have HUS := Lib.hid hus
        have HUA := Lib.hid hua
        have HUO := Lib.hid huo
        have hfs : flatT (upTo p k f 0) = flatT (linesP (p.take k)) ++ (funcW ++ [f.ar, f.lo, f.sl].flatMap blankN) ++ [10] := by rw [hu0, flatT_snoc, lineT_head]
        obtain ⟨hh, _, hcl, hall⟩ := (mayF_iff f).1 hmf
        obtain ⟨⟨r0, r1⟩, ⟨r2, r3⟩, r4, r5⟩ := (headB_iff _ _ _).1 hh
        have HR : Hid (∀ n ∈ [f.ar, f.lo, f.sl], 0 ≤ n ∧ n < 1000) := Lib.hid (by simp; omega)
        have hfl : ([f.ar, f.lo, f.sl].flatMap blankN).length ≤ 100 := by
          have := dgI_len r0 (show f.ar < 1000 by omega)
          have := dgI_len r2 (show f.lo < 1000 by omega)
          have := dgI_len r4 (show f.sl < 1000 by omega)
          simp [blankN]
          omega
        have HALL := Lib.hid hall
        have HFS := Lib.hid hfs
        obtain ⟨f0, f1, f2, A2, c2, f3, hcode⟩ := hF
        have HC := Lib.hid hcode
        have hwz := hw.size
        have hbw0 : b < w0.heap.size := by omega
        replace f0 := (hw.cell (p := ⟨b, off + k * 4, none⟩) hbw0).trans f0
        replace f1 := (hw.cell (p := ⟨b, off + k * 4 + 1, none⟩) hbw0).trans f1
        replace f2 := (hw.cell (p := ⟨b, off + k * 4 + 2, none⟩) hbw0).trans f2
        replace f3 := (hw.cell (p := ⟨b, off + k * 4 + 3, none⟩) hbw0).trans f3
        clear hcode hus hua huo hu0 hfs hmf hall hh r0 r1 r2 r3 r4 r5
        generalize f.ar = fa at *
        generalize f.lo = fl at *
        generalize f.sl = fs at *
        generalize flatT (linesP (p.take k)) = acc at *
        have HBd := Lib.hid hBd
        have HK0 := Lib.hid hK0
        have HK1 := Lib.hid hK1
        have HT0 := Lib.hid hT0
        clear hBd hK0 hK1 hT0
        go_wp2_with (first
          | (go_at_call 41; refine (writeStringK _ (HBd.out.alloc _) (by rw [show (⟨#[102, 117, 110, 99]⟩ : ByteArray).size = 4 from rfl]; omega) (by simp; omega)).mono ?_; rintro e w2 ⟨rfl, hB2, hb2, hk2⟩; have hf2 := hk2.held (Held.new wr 39 _) (by decide) (by decide); have HK0 := Lib.hid (hk2.held (HK0.out.alloc _) (by decide) (by decide)); have HK1 := Lib.hid (hk2.held (HK1.out.alloc _) (by decide) (by decide)); have g0 := hf2.cell 0; have g1 := hf2.cell 1; have g2 := hf2.cell 2; have gl := hf2.lt; have hw2 := (hw.alloc hwz _).trans hb2; have hz2 := hw2.size; simp at g0 g1 g2)
          | (go_at_call 69; refine (spillT w0 HT0.out (ns := [fa, fl, fs]) 3 rfl HR.out (by omega) (by rw [List.length_append]; show acc.length + 4 ≤ _; omega) _ (hw2.alloc hz2 _) (hB2.alloc _) (HK0.out.alloc _) (HK1.out.alloc _) (ints3 _ _ _ _)).mono ?_; rintro e w3 ⟨rfl, hB3, hk3, hw3⟩; have hf3 := hk3.held (hf2.alloc _) (by decide) (by decide); have HK0 := Lib.hid (hk3.held (HK0.out.alloc _) (by decide) (by decide)); have HK1 := Lib.hid (hk3.held (HK1.out.alloc _) (by decide) (by decide)); clear g0 g1 g2)
          | (go_at_call 42; refine (writeNL hB3 (by rw [List.length_append, List.length_append]; show acc.length + 4 + _ + 1 ≤ _; omega) hw3.size).mono ?_; rintro e w4 ⟨rfl, hB4, hb4, hk4⟩; have hf4 := hk4.held hf3 (by decide) (by decide); have HK0 := Lib.hid (hk4.held HK0.out (by decide) (by decide)); have HK1 := Lib.hid (hk4.held HK1.out (by decide) (by decide)); have g3 := hf4.cell 3; simp at g3))
        have hw4 := hw3.trans hb4
        have hBd4 : Bd w4 w0.heap.size w0.heap.size (flatT (upTo p k f 0)) := by
          rw [HFS.out, ← List.append_assoc]
          exact hB4
        clear hB2 hB3 hB4 hk2 hk3 hk4 hf2 hf3 hw2 hw3 hb2 hb4 g3 gl hz2 f0 f1 f2 f3
        go_loopw [33] (fun i W => ∃ j : Nat, j ≤ f.code.length ∧ i = .int .i64 j ∧ Bd W w0.heap.size w0.heap.size (flatT (upTo p k f j)) ∧ KeepT w4 W ∧ Below w0.heap.size w0 W) (fun i _ => f.code.length - (intOf i).toNat)
        case atStart => exact ⟨0, by omega, rfl, hBd4, KeepT.refl _, hw4⟩
        case round =>
          clear hBd4
          obtain ⟨j, hj, rfl, hBj, hkj, hwj⟩ := hrel
          by_cases hltj : j < f.code.length
          · obtain ⟨b2, off2, rfl, hbl2, hd⟩ := (HC.out.below hwj hB0) (by omega)
            obtain ⟨d0, d1, d2⟩ := hd j hltj
            clear hd
            have hx := HALL.out _ (List.getElem_mem hltj)
            have hst := HUS.out j hltj
            have hl1 := flatT_len (HUO.out j).1
            have hl2 := (HUO.out j).2
            generalize f.code[j] = x at *
            obtain ⟨xo, xa, xb⟩ := x
            simp only at hx hst d0 d1 d2
            have hnm : (rz xo).nm.data.toList = nmL xo := rfl
            have hnl : (rz xo).nm.size ≤ 16 := by
              obtain ⟨k', hk', rfl⟩ := may_in hx
              have := (size_ok k' hk').2.1
              rw [nmL_in hk'] at hnm
              have e : (rz (k' : Int)).nm.size = (rz (k' : Int)).nm.data.toList.length := by simp
              rw [e, hnm]
              simpa using Nat.le_trans this (by omega)
            obtain ⟨_, _, _, _, q0, q2⟩ := row_bounds hx
            have CF := fun W hT => Lib.hid (cfields_any xa xb q0 q2 W hT)
            have CN := fun W hT => Lib.hid (name_any xo W hT)
            have HI := Lib.hid (flds_in hx)
            have hfn := flds_len xo xa xb
            have hfg := flatG_len (G := blankN) (fun n hn => blankN_len (HI.out n hn).1 (HI.out n hn).2)
            have hfl2 : flatT (upTo p k f (j + 1)) = flatT (upTo p k f j) ++ (nmL xo ++ (flds xo xa xb).flatMap blankN) ++ [10] := by rw [hst, flatT_snoc, lineT_ins]
            rw [← hnm] at hfl2
            have HFL := Lib.hid hfl2
            clear hfl2 hst hx hnm q0 q2
            generalize flatT (upTo p k f j) = acc2 at *
            generalize flds xo xa xb = ns at *
            generalize (rz xo).nm = nm at *
            have hs2 : acc2.length ≤ 60000 := by omega
            have hnl2 : nm.data.toList.length ≤ 16 := by simpa using hnl
            clear hl1 hl2
            have hjz := hwj.size
            have hf5 := hkj.held hf4 (by decide) (by decide)
            have HK0 := Lib.hid (hkj.held HK0.out (by decide) (by decide))
            have HK1 := Lib.hid (hkj.held HK1.out (by decide) (by decide))
            have HBj := Lib.hid hBj
            have HT2 := Lib.hid (HT0.out.below hwj)
            clear hBj hf4
            go_wp2_with (first
              | (go_at_call 43; (with_reducible refine (CN _ (HT2.out.below ((Below.refl _ _).alloc (Nat.le_refl _) _)).op).out.mono ?_); rintro e v1 ⟨rfl, hb1⟩; have hx1 := (Held.new wr 64 _).below hb1; have hv1 := below_laid hb1; clear hb1; have hz1 := hv1.size)
              | (go_at_call 41; refine (writeStringK _ (HBj.out.below hv1) (by omega) (by omega)).mono ?_; rintro e v2 ⟨rfl, hB2, hb2, hk2⟩; have hx2 := hk2.held hx1 (by decide) (by decide); have hkA := (KeepT.of_below hv1).trans hk2; have hwA := (hwj.trans (hv1.mono hjz)).trans hb2; have i0 := hx2.cell 0; have i1 := hx2.cell 1; have i2 := hx2.cell 2; have il := hx2.lt; simp at i0 i1 i2)
              | (go_at_call 44; (with_reducible refine (CF _ (HT0.out.below hwA)).out.mono ?_); rintro e v3 ⟨A3, c3, rfl, hA3, hb3⟩; have hkB := hkA.trans (KeepT.of_below hb3); have hwB := hwA.trans (hb3.mono hwA.size); have hB3 := hB2.below hb3)
              | (go_at_call 69; refine (spillT w0 HT0.out (ns := ns) ns.length rfl HI.out (by omega) (by rw [List.length_append]; simp; omega) _ hwB hB3 (hkB.held HK0.out (by decide) (by decide)) (hkB.held HK1.out (by decide) (by decide)) hA3).mono ?_; rintro e v4 ⟨rfl, hB4, hk4, hw4b⟩)
              | (go_at_call 42; refine (writeNL hB4 (by rw [List.length_append, List.length_append]; omega) hw4b.size).mono ?_; rintro e v5 ⟨rfl, hB5, hb5, hk5⟩))
            have hwn := hw4b.trans hb5
            have hkn := (hkj.trans ((hkB.trans hk4).trans hk5))
            have hf6 := hk5.held (hk4.held (hkB.held hf5 (by decide) (by decide)) (by decide) (by decide)) (by decide) (by decide)
            go_roundw
            case rel => exact ⟨j + 1, by omega, by go_num, by rw [HFL.out, ← List.append_assoc]; exact hB5, hkn, hwn⟩
            case measure => simp [intOf]; omega
          · obtain rfl : j = f.code.length := by omega
            rw [HUA.out] at hBj
            have HK0 := hkj.held HK0.out (by decide) (by decide)
            have HK1 := hkj.held HK1.out (by decide) (by decide)
            go_wp2_with fail
            go_roundw
            case rel => exact ⟨k + 1, by omega, by go_num, hBj, HK0, HK1, hwj⟩
            case measure => simp [intOf]; omega
      · obtain rfl : k = p.length := by omega
        rw [List.take_length, ← HT.out] at *
        go_wp2_with (go_at_call 45; refine (string_any hBd hw.size).mono ?_; rintro e w2 ⟨rfl, hb5⟩)
        go_ret
        exact ⟨rfl, Below.step hb0 (hw.trans hb5)⟩
end Go.Proofs.YtcfdbciooimjmaaGreatDoor

