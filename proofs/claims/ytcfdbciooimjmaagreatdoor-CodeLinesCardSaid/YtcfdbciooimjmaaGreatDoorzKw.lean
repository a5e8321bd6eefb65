/- Layer 7's code: a line's words. -/
import Derived.Test.YtcfdbciooimjmaaGreatDoorzGb
import Derived.Test.YtcfdbciooimjmaaGreatDoorzBc
import Derived.Test.YtcfdbciooimjmaaGreatDoorzGc
import Derived.Lib.SmallJoins
namespace Go.Proofs.YtcfdbciooimjmaaGreatDoor
set_option linter.unusedVariables false
set_option linter.unusedSimpArgs false
open Go.RowKit Go.ChangeShapes Go.WideShapes Go.ChangeAt Go.Sort

theorem ccut_any (l : List UInt8) (hl : l.length ≤ 1000000) (w : World) (hT : TT w) :
    Calls Tryz.prog 25 #[.string ⟨l.toArray⟩, .string ⟨#[10]⟩] w fun e w' => e = .returned (.tuple #[.string ⟨(Lib.cut l [10]).1.toArray⟩, .string ⟨(Lib.cut l [10]).2.1.toArray⟩, .bool (Lib.cut l [10]).2.2]) ∧ Below w.heap.size w w' := by
  obtain ⟨m, hm⟩ := hT.most
  refine (Tryz.strings_Cut ⟨l.toArray⟩ ⟨#[10]⟩ m w (by rw [strb_size]; omega) hm).mono fun e w' ⟨he, n, hw⟩ => ⟨?_, ?_⟩
  · rw [he]
  · rw [hw]
    exact below_drewN (Below.refl _ _) n

theorem csplit_any (l : List UInt8) (hl : l.length ≤ 1000000) (w : World) (hT : TT w) :
    Calls Tryz.prog 80 #[.string ⟨l.toArray⟩, .string ⟨#[32]⟩, .int .i64 4] w fun e w' => ∃ c cs, e = .returned (.slice (some ⟨w.heap.size, 0, none⟩) (partsC l).length c) ∧ (partsC l).length ≤ c ∧ c ≤ 4 ∧ Held w' w.heap.size 9 cs ∧
      (∀ j (h : j < (partsC l).length), cs[j]? = some (.string ⟨(partsC l)[j].toArray⟩)) ∧ Below w.heap.size w w' := by
  obtain ⟨m, hm⟩ := hT.most
  have hs : (⟨l.toArray⟩ : ByteArray).size = l.length := strb_size l
  refine (Tryz.strings_SplitN ⟨l.toArray⟩ ⟨#[32]⟩ 4 m w (by rw [hs]; omega) hm (by decide) (by decide) (by decide)).mono fun e w' ⟨he, hw⟩ => ?_
  have hd := Lib.splitB_data ⟨#[32]⟩ 0 (min 4 (l.length + 1) - 1) ⟨l.toArray⟩
  rw [hs] at he hw
  have hle := Lib.splitB_length_le ⟨#[32]⟩ 0 (min 4 (l.length + 1) - 1) ⟨l.toArray⟩
  have hp : partsC l = (Lib.splitB ⟨#[32]⟩ 0 (min 4 (l.length + 1) - 1) ⟨l.toArray⟩).map (·.data.toList) := by
    rw [hd]
    simp [partsC]
  rw [hp]
  subst hw
  generalize Lib.splitB ⟨#[32]⟩ 0 (min 4 (l.length + 1) - 1) ⟨l.toArray⟩ = ps at *
  refine ⟨min 4 (l.length + 1), _, by rw [he, List.length_map], by rw [List.length_map]; omega, by omega, Held.new _ _ _, fun j h => ?_, (Below.refl _ _).alloc (Nat.le_refl _) _⟩
  have hj : j < ps.length := by simpa using h
  unfold Lib.cellsOf
  rw [List.getElem?_toArray, List.getElem?_append_left (by simpa using hj)]
  simp [hj]

/-- strconv.Atoi: a number, or an error. -/
theorem catoi_any (l : List UInt8) (hl : l.length ≤ 1000000) (w : World) (hT : TT w) :
    Calls Tryz.prog 81 #[.string ⟨l.toArray⟩] w fun e w' => ∃ v E, e = .returned (.tuple #[.int .i64 v, E]) ∧ ((Lib.atoiAll l = .ok v ∧ E = .nilIface) ∨ ((∀ x, Lib.atoiAll l ≠ .ok x) ∧ ∃ te pe, E = .iface te pe)) ∧ Below w.heap.size w w' := by
  have hs : (⟨l.toArray⟩ : ByteArray).size = l.length := strb_size l
  have hd : (⟨l.toArray⟩ : ByteArray).data.toList = l := by simp
  cases ha : Lib.atoiAll l with
  | ok v =>
    refine (Tryz.strconv_Atoi_ok ⟨l.toArray⟩ (by rw [hs]; omega) v (by rw [hd]; exact ha) w).mono fun e w' ⟨he, hw⟩ => ⟨v, .nilIface, he, .inl ⟨rfl, rfl⟩, ?_⟩
    rcases hw with rfl | ⟨t, rfl⟩
    · exact Below.refl _ _
    · exact Go.Joins.below_bytesWorld _ _ _ _ (Nat.le_refl _)
  | range =>
    obtain ⟨te, pe, hc⟩ := hT.rng
    refine (Tryz.strconv_Atoi_range ⟨l.toArray⟩ (by rw [hs]; omega) (by rw [hd]; exact ha) (.iface te pe) w hc (.inr ⟨te, pe, rfl⟩)).mono fun e w' ⟨N, he, _, _, hb⟩ => ⟨_, _, he, .inr ⟨fun x h => (by cases h), _, _, rfl⟩, hb⟩
  | _ =>
    obtain ⟨te, pe, hc⟩ := hT.syn
    refine (Tryz.strconv_Atoi_syntax ⟨l.toArray⟩ (by rw [hs]; omega) (by rw [hd, ha]; exact ⟨fun x h => (by cases h), fun h => (by cases h)⟩) (.iface te pe) w hc (.inr ⟨te, pe, rfl⟩)).mono fun e w' ⟨N, he, _, _, hb⟩ => ⟨0, _, he, .inr ⟨fun x h => (by cases h), _, _, rfl⟩, hb⟩

theorem catoi_ok {l : List UInt8} {n : Int} (hl : l.length ≤ 1000000) (ha : Lib.atoiAll l = .ok n) (w : World) (hT : TT w) :
    Calls Tryz.prog 81 #[.string ⟨l.toArray⟩] w fun e w' => e = .returned (.tuple #[.int .i64 n, .nilIface]) ∧ Below w.heap.size w w' :=
  (catoi_any l hl w hT).mono fun e w' ⟨v, E, he, hc, hb⟩ => by
    rcases hc with ⟨h1, rfl⟩ | ⟨h1, _⟩
    · rw [ha] at h1
      cases h1
      exact ⟨he, hb⟩
    · exact absurd ha (h1 n)
theorem catoi_bad {l : List UInt8} (hl : l.length ≤ 1000000) (ha : ∀ x, Lib.atoiAll l ≠ .ok x) (w : World) (hT : TT w) :
    Calls Tryz.prog 81 #[.string ⟨l.toArray⟩] w fun e w' => ∃ n te pe, e = .returned (.tuple #[.int .i64 n, .iface te pe]) ∧ Below w.heap.size w w' :=
  (catoi_any l hl w hT).mono fun e w' ⟨v, E, he, hc, hb⟩ => by
    rcases hc with ⟨h1, _⟩ | ⟨_, te, pe, rfl⟩
    · exact absurd h1 (ha v)
    · exact ⟨v, te, pe, he, hb⟩

/-- What the call of words gives. -/
def wC (l : List UInt8) : Bool × List UInt8 × List Int := match wordsC l with
  | none => (false, [], [])
  | some x => (true, x.1, x.2)
theorem OwnV.ints {w : World} {B : Nat} {v : Value} {ns : List Int} (h : OwnV w B 3 v (ns.map fun n => .int .i64 n)) : ∃ A c, v = .slice A ns.length c ∧ IntsAt w A ns := by
  unfold OwnV at h
  rw [List.length_map] at h
  have hcl := fun g hg => h.cells (g := g) hg
  rcases h.2 with ⟨rfl, h0⟩ | ⟨g, cap, cur, rfl, hg, hb, hx⟩
  · exact ⟨none, 0, by rw [h0], fun h1 => by omega⟩
  · have hc := hcl g rfl
    refine ⟨_, _, rfl, fun _ => ⟨g, _, rfl, hb, fun j hj => ?_⟩⟩
    have k1 := hc j (.int .i64 ns[j]) (by simp [hj])
    have a1 : (⟨g, 0, none⟩ : Addr).add j = ⟨g, j, none⟩ := by unfold Addr.add; split <;> simp [*]
    rw [a1] at k1
    have k2 := (Held.cell (show Held w g 3 cur from hb) j).symm.trans k1
    exact k2
theorem numsC_snoc (w : List UInt8) : ∀ (ws : List (List UInt8)) (ns : List Int), numsC ws = some ns → numsC (ws ++ [w]) = (numC w).map fun n => ns ++ [n]
  | [], ns, h => by
    cases h
    simp only [List.nil_append]
    rw [numsC]
    cases numC w <;> rfl
  | v :: ws, ns, h => by
    rw [numsC] at h
    rw [List.cons_append, numsC]
    split at h
    · cases h
    · rename_i n hn
      try rw [hn]
      try simp only
      cases hm : numsC ws with
      | none => rw [hm] at h; cases h
      | some ms =>
        rw [hm] at h
        cases h
        rw [numsC_snoc w ws ms hm]
        cases numC w <;> rfl
theorem numsC_none {w : List UInt8} : ∀ {ws : List (List UInt8)}, w ∈ ws → numC w = none → numsC ws = none
  | [], h, _ => by simp at h
  | v :: ws, h, hw => by
    rw [numsC]
    rcases List.mem_cons.1 h with rfl | h
    · rw [hw]
    · rw [numsC_none h hw]
      split <;> rfl
theorem numC_no {l : List UInt8} (h : ∀ x, Lib.atoiAll l ≠ .ok x) : numC l = none := by
  unfold numC
  split
  · rename_i v hv
    exact absurd hv (h v)
  · rfl
theorem numC_ok {l : List UInt8} {v : Int} (h : Lib.atoiAll l = .ok v) : numC l = if Lib.itoa v = l then some v else none := by unfold numC; rw [h]
theorem joinC_mem_len (c : UInt8) : ∀ (ws : List (List UInt8)) (w : List UInt8), w ∈ ws → w.length ≤ (joinC c ws).length
  | [], w, h => by simp at h
  | [v], w, h => by
    obtain rfl := List.mem_singleton.1 h
    exact Nat.le_refl _
  | v :: u :: ws, w, h => by
    rw [joinC, List.length_append, List.length_cons]
    rcases List.mem_cons.1 h with rfl | h
    · omega
    · have := joinC_mem_len c (u :: ws) w h
      omega
theorem strs_ne {a b : List UInt8} (h : a ≠ b) : ((⟨a.toArray⟩ : ByteArray).toList != (⟨b.toArray⟩ : ByteArray).toList) = true := by
  rw [bne, eqS_toList]
  unfold eqS
  rw [decide_eq_false]
  · rfl
  · intro e
    apply h
    have := congrArg (fun x : ByteArray => x.data.toList) e
    simpa using this
theorem infoInt : (Tryz.prog.info? 3).map (fun i => (i.zero, i.size, i.bytes)) = some (some (.int .i64 0), 1, 8) := by kernel_rfl
theorem citoa_all {n : Int} (h0 : -9223372036854775808 ≤ n) (h1 : n ≤ 9223372036854775807) (W : World) (hT : TT W) : Calls Tryz.prog 40 #[.int .i64 n] W fun e w' => e = .returned (.string ⟨(Lib.itoa n).toArray⟩) ∧ Below W.heap.size W w' :=
  (Tryz.strconv_Itoa n h0 h1 W hT.pow).mono fun e w' ⟨he, k, os, hw⟩ => ⟨he, by rw [hw]; exact below_regrown W (W.drawn + k) os⟩

/-- The same, out of the pieces. -/
def wS (p0 : List UInt8) (ps : List (List UInt8)) : Bool × List UInt8 × List Int := match numsC ps with
  | none => (false, [], [])
  | some ns => (true, p0, ns)
theorem wS_no {p0 : List UInt8} {ps : List (List UInt8)} (h : numsC ps = none) : wS p0 ps = (false, [], []) := by unfold wS; rw [h]
theorem wS_ok {p0 : List UInt8} {ps : List (List UInt8)} {ns : List Int} (h : numsC ps = some ns) : wS p0 ps = (true, p0, ns) := by unfold wS; rw [h]
set_option maxHeartbeats 4000000 in
set_option maxRecDepth 100000 in
theorem cwords_any (l : List UInt8) (hl : l.length ≤ 1000000) (w : World) (hT : TT w) :
    Calls Tryz.prog 56 #[.string ⟨l.toArray⟩] w fun e w' => ∃ A c, e = .returned (.tuple #[.string ⟨(wC l).2.1.toArray⟩, .slice A (wC l).2.2.length c, .bool (wC l).1]) ∧ IntsAt w' A (wC l).2.2 ∧ Below w.heap.size w w' := by
  have S := Lib.hid (csplit_any l hl w hT)
  have hp : ∃ p0 ps, partsC l = p0 :: ps := by
    cases h : partsC l with
    | nil => exact absurd h (splitK_ne 32 _ l)
    | cons p0 ps => exact ⟨p0, ps, rfl⟩
  obtain ⟨p0, ps, hp⟩ := hp
  have hwc : wC l = wS p0 ps := by
    unfold wC wordsC wS
    rw [hp]
    simp only
    cases numsC ps <;> rfl
  have hpl : ∀ p ∈ ps, p.length ≤ 1000000 := fun p hm => by
    have h1 := joinC_mem_len 32 (p0 :: ps) p (by simp [hm])
    rw [← hp, show partsC l = Lib.splitK [32] 0 (min 4 (l.length + 1) - 1) l from rfl, join_splitK] at h1
    omega
  rw [hp] at S
  rw [hwc]
  have HPL := Lib.hid hpl
  clear hwc hp hpl
  have HT := Lib.hid hT
  clear hT
  by_cases hps : ps = []
  · subst hps
    rw [wS_ok (show numsC [] = some [] from rfl)]
    go_enter Tryz.func56, Tryz.ntmps56
    go_wp2_with (go_at_call 80; (with_reducible refine S.out.mono ?_); rintro e v ⟨c, cs, rfl, hc1, hc2, hH, hcs, hb⟩; rw [List.length_cons] at hc1; have hcl : 1 ≤ c := (by omega))
    all_goals
      go_loop [6, 16] (fun a i => a = .slice none 0 0 ∧ i = .int .i64 0) (fun _ _ => 0)
      case atStart => exact ⟨rfl, rfl⟩
      case round =>
        obtain ⟨rfl, rfl⟩ := hrel
        have k0 := hH.cell 0
        have kl := hH.lt
        rw [hcs 0 (by simp)] at k0
        simp at k0
        go_wp2_with fail
        go_returns
        first
          | exact ⟨none, ⟨0, rfl⟩, fun h => absurd h (by simp), hb⟩
          | exact ⟨none, 0, rfl, fun h => absurd h (by simp), hb⟩
  · have hpp : 0 < ps.length := by
      rcases Nat.eq_zero_or_pos ps.length with h | h
      · exact absurd (List.eq_nil_of_length_eq_zero h) hps
      · exact h
    clear hps
    go_enter Tryz.func56, Tryz.ntmps56
    go_wp2_with (go_at_call 80; (with_reducible refine S.out.mono ?_); rintro e v ⟨c, cs, rfl, hc1, hc2, hH, hcs, hb⟩; rw [List.length_cons] at hc1; have hcl : 1 ≤ c := (by omega); have hcn : ¬ c = 1 := (by omega))
    go_loopw [6, 16] (fun a i W => ∃ j ns, j ≤ ps.length ∧ i = .int .i64 ((j : Nat) : Int) ∧ numsC (ps.take j) = some ns ∧ OwnV W v.heap.size 3 a (ns.map fun n => .int .i64 n) ∧ Below v.heap.size v W) (fun _ i _ => ps.length - (intOf i).toNat)
    case atStart => exact ⟨0, [], by omega, rfl, rfl, OwnV.nil _ _ _, Below.refl _ _⟩
    case round =>
      obtain ⟨j, ns, hj, rfl, hns, hO, hw⟩ := hrel
      have hT := (HT.out.below hb).below hw
      have hH2 := hH.below hw
      have hwz := hw.size
      have hbw := Below.step hb hw
      by_cases hlt : j < ps.length
      · have k1 : wr.cell? ⟨w.heap.size, 1 + j, none⟩ = some (.string ⟨ps[j].toArray⟩) := by
          have h1 := hH2.cell (j + 1)
          rw [hcs (j + 1) (by simp; omega)] at h1
          rw [Nat.add_comm]
          simpa using h1
        have hkl := hH2.lt
        have hmem : ps[j] ∈ ps := List.getElem_mem hlt
        have htk : ps.take (j + 1) = ps.take j ++ [ps[j]] := List.take_succ_eq_append_getElem hlt
        have hpl := HPL.out _ hmem
        generalize ps[j] = p at *
        have hsn := numsC_snoc p _ _ hns
        rw [← htk] at hsn
        by_cases ha : ∃ n, Lib.atoiAll p = .ok n
        · obtain ⟨n, ha⟩ := ha
          have hbd := Lib.atoiAll_bounds ha
          have CA := Lib.hid (catoi_ok hpl ha wr hT)
          have hnc := numC_ok ha
          have CI := fun W h => Lib.hid (citoa_all hbd.1 hbd.2 W h)
          by_cases he : Lib.itoa n = p
          · rw [if_pos he] at hnc
            rw [hnc] at hsn
            rw [he] at CI
            have HSN := Lib.hid hsn
            have HO := Lib.hid hO
            have hnl : ns.length ≤ 4 := by
              have := congrArg List.length (numsC_of hns)
              rw [List.length_take, List.length_map] at this
              omega
            clear hnc hsn ha he hmem htk hns hO hbd
            go_wp2_with (first
              | (go_at_call 81; (with_reducible refine CA.out.mono ?_); rintro e u ⟨rfl, hbu⟩)
              | (go_at_call 40; (with_reducible refine (CI _ (hT.below hbu)).out.mono ?_); rintro e u2 ⟨rfl, hbu2⟩; have hw3 := Below.step hbu hbu2; have hwn := Below.step hw hw3; have HO2 := Lib.hid (HO.out.below hw3); have hz3 := hwn.size)
              | (at_builtin; refine wpList_append_vals rfl _ _ 77 rfl 3 (.int .i64 0) 8 Tryz.underlying77 infoInt rfl v.heap.size u2 _ (ns.map fun n => .int .i64 n) #[.int .i64 n] 1 rfl rfl rfl HO2.out rfl ?_ (by rw [List.length_map]; unfold maxLen; omega) (by rw [List.length_map]; omega) (by omega) ?_))
            · first
                | rfl
                | (intro x hx; simp at hx; subst hx; rfl)
            · intro v' w2 ho2 hb2
              have hwe := hwn.trans hb2
              have ho3 : OwnV w2 v.heap.size 3 v' ((ns ++ [n]).map fun n => .int .i64 n) := by rw [List.map_append]; exact ho2
              have HO3 := Lib.hid ho3
              clear ho2 ho3
              go_wp2_with fail
              go_roundw
              case rel => exact ⟨j + 1, ns ++ [n], by omega, by go_num, HSN.out, HO3.out, hwe⟩
              case measure => simp [intOf]; omega
          · rw [if_neg he] at hnc
            have hfin := wS_no (p0 := p0) (numsC_none hmem hnc)
            have HF := Lib.hid hfin
            have hne : (Lib.itoa n == p) = false := by simpa using he
            clear hnc hsn ha he hmem htk hns hfin hbd
            go_wp2_with (first
              | (go_at_call 81; (with_reducible refine CA.out.mono ?_); rintro e u ⟨rfl, hbu⟩)
              | (go_at_call 40; (with_reducible refine (CI _ (hT.below hbu)).out.mono ?_); rintro e u2 ⟨rfl, hbu2⟩; have hw3 := Below.step hbu hbu2))
            go_returns
            rw [HF.out]
            first
              | exact ⟨none, ⟨0, rfl⟩, fun h => absurd h (by simp), Below.step hbw hw3⟩
              | exact ⟨none, 0, rfl, fun h => absurd h (by simp), Below.step hbw hw3⟩
        · have ha2 : ∀ x, Lib.atoiAll p ≠ .ok x := fun x h => ha ⟨x, h⟩
          have CA := Lib.hid (catoi_bad hpl ha2 wr hT)
          have hfin := wS_no (p0 := p0) (numsC_none hmem (numC_no ha2))
          have HF := Lib.hid hfin
          clear ha ha2 hsn hmem htk hns hfin
          go_wp2_with (go_at_call 81; (with_reducible refine CA.out.mono ?_); rintro e u ⟨n, te, pe, rfl, hbu⟩)
          go_returns
          rw [HF.out]
          first
            | exact ⟨none, ⟨0, rfl⟩, fun h => absurd h (by simp), Below.step hbw hbu⟩
            | exact ⟨none, 0, rfl, fun h => absurd h (by simp), Below.step hbw hbu⟩
      · obtain rfl : j = ps.length := by omega
        rw [List.take_length] at hns
        have k0 := hH2.cell 0
        have hkl := hH2.lt
        rw [hcs 0 (by simp)] at k0
        simp only [List.getElem_cons_zero] at k0
        obtain ⟨A, c4, rfl, hI⟩ := hO.ints
        have HNS := Lib.hid (wS_ok (p0 := p0) hns)
        have HI := Lib.hid hI
        clear hns hI hO
        go_wp2_with fail
        go_returns
        rw [HNS.out]
        first
          | exact ⟨A, ⟨c4, rfl⟩, HI.out, hbw⟩
          | exact ⟨A, c4, rfl, HI.out, hbw⟩
end Go.Proofs.YtcfdbciooimjmaaGreatDoor

