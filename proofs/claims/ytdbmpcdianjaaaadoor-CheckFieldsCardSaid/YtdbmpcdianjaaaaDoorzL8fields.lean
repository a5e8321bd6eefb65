/- Layer 8: CheckFields: an instruction that does not lay, take, go on or spawn otherwise than another one can stand in its place. For all programs. -/
import Derived.Test.YtdbmpcdianjaaaaDoorzL8fp
import Derived.Test.YtdbmpcdianjaaaaDoorzL8tail
import Derived.Test.YtdbmpcdianjaaaaDoorzVal
import Derived.Test.YtdbmpcdianjaaaaDoorzPs2
namespace Go.Proofs.YtdbmpcdianjaaaaDoor.checkFields
set_option linter.unusedVariables false
set_option linter.unusedSimpArgs false
open Go.ChangeShapes Go.WideShapes Go.ChangeAt Go.RowKit Go.Sort
open checkTail (box4 qcells qcell)

/-- A code whose first instructions were changed. -/
def lstC (a b : Int) (c : List (Int × Int × Int)) (i : Nat) : List (Int × Int × Int) := (c.take i).map (chgI a b) ++ c.drop i
theorem lst_zero (a b : Int) (c : List (Int × Int × Int)) : lstC a b c 0 = c := by simp [lstC]
theorem lst_all (a b : Int) (c : List (Int × Int × Int)) : lstC a b c c.length = c.map (chgI a b) := by simp [lstC]
theorem lst_len (a b : Int) (c : List (Int × Int × Int)) {i : Nat} (h : i ≤ c.length) : (lstC a b c i).length = c.length := by simp [lstC]; omega
theorem lst_at (a b : Int) {c : List (Int × Int × Int)} {i : Nat} (h : i < c.length) {h2 : i < (lstC a b c i).length} : (lstC a b c i)[i] = c[i] := by
  have : (lstC a b c i)[i]? = some c[i] := by
    unfold lstC
    rw [List.getElem?_append_right (by simp; omega)]
    simp only [List.length_map, List.length_take, Nat.min_eq_left (Nat.le_of_lt h), Nat.sub_self, List.getElem?_drop, Nat.add_zero]
    exact List.getElem?_eq_getElem h
  rw [List.getElem?_eq_getElem h2] at this
  exact Option.some.inj this
theorem lst_set (a b : Int) {c : List (Int × Int × Int)} {i : Nat} (h : i < c.length) : (lstC a b c i).set i (chgI a b c[i]) = lstC a b c (i + 1) := by
  unfold lstC
  rw [List.set_append_right _ _ (by simp; omega), List.take_succ_eq_append_getElem h, List.map_append, List.drop_eq_getElem_cons h]
  simp only [List.length_map, List.length_take, Nat.min_eq_left (Nat.le_of_lt h), Nat.sub_self, List.set_cons_zero, List.map_cons, List.map_nil, List.append_assoc, List.singleton_append]
theorem lst_same (a b : Int) {c : List (Int × Int × Int)} {i : Nat} (h : i < c.length) (he : chgI a b c[i] = c[i]) : lstC a b c (i + 1) = lstC a b c i := by
  rw [← lst_set a b h, he]
  apply List.ext_getElem?
  intro j
  rw [List.getElem?_set]
  by_cases hij : i = j
  · subst hij
    have hl := lst_len a b c (i := i) (Nat.le_of_lt h)
    have h3 : i < (lstC a b c i).length := by omega
    rw [if_pos rfl, if_pos h3, List.getElem?_eq_getElem h3, lst_at a b h]
  · rw [if_neg hij]
theorem own_cells {w : World} {B g cap m i : Nat} {L : List Ins} {x0 x1 x2 : Value} (h : OwnC w B (.slice (some ⟨g, 0, none⟩) m cap) L) (hl : L.length = m) (e0 : (flatI L)[i * 3]? = some x0) (e1 : (flatI L)[i * 3 + 1]? = some x1) (e2 : (flatI L)[i * 3 + 2]? = some x2) (hi : i < m) :
    w.cell? ⟨g, i * 3, none⟩ = some x0 ∧ w.cell? ⟨g, i * 3 + 1, none⟩ = some x1 ∧ w.cell? ⟨g, i * 3 + 2, none⟩ = some x2 ∧ w.frozen? ⟨g, i * 3, none⟩ = false ∧ w.frozen? ⟨g, i * 3 + 1, none⟩ = false ∧ w.frozen? ⟨g, i * 3 + 2, none⟩ = false ∧ g < w.heap.size := by
  unfold OwnC at h
  rw [hl] at h
  exact ⟨(h.cellAt _ (by omega)).trans e0, (h.cellAt _ (by omega)).trans e1, (h.cellAt _ (by omega)).trans e2, h.frozenAt _, h.frozenAt _, h.frozenAt _, (h.lt g rfl).2⟩
set_option maxHeartbeats 4000000 in
set_option maxRecDepth 100000 in
theorem out {A : Option Addr} {p : List Fun} (c : Nat) (a b : Int) (n : Int) (w : World) (hT : Otab w) (ha : ProgAt w w.heap.size A p) (hz : SizedP p) (h : smallP p 300 = false ∨ n < 0 ∨ (p.length : Int) ≤ n ∨ a < 0 ∨ 250 < a ∨ b < 0 ∨ 250 < b) :
    Calls Tryd.prog 7 #[.slice A p.length c, gv a b, .int .i64 n] w fun e w' => e = .returned (.bool true) ∧ Below w.heap.size w w' := by
  have hw : Below w.heap.size w w := Below.refl _ _
  have S1 := fun W (h : ProgAt W W.heap.size A p) => Lib.hid (psmall_any c 300 W h)
  have HA := Lib.hid ha
  clear ha
  by_cases h1 : smallP p 300 = false
  · rw [h1] at S1
    clear h h1
    go_enter Tryd.func7, Tryd.ntmps7
    go_wp2_with (first
      | (go_at_call 10; (with_reducible refine (fixed8 _ (hT.below (by go_grown))).mono ?_); rintro e u ⟨rfl, hb⟩; have hvb := ((Held.new w 43 #[.int .i64 a, .int .i64 b]).below hb); have hb := below_laid hb; replace HA := Lib.hid ((HA.out.below hb (Nat.le_refl _)).more hb.size); replace hT := hT.below hb; replace hw := Below.step hw hb; have x0 := hvb.cell 0; have x1 := hvb.cell 1; have xl := hvb.lt; simp at x0 x1; clear hb)
      | (go_at_call 10; (with_reducible refine (fixed8 _ hT).mono ?_); rintro e u ⟨rfl, hb⟩; replace HA := Lib.hid ((HA.out.below hb (Nat.le_refl _)).more hb.size); replace hT := hT.below hb; replace hw := Below.step hw hb; have hvb := hvb.below hb; clear hb)
      | (go_at_call 9; (with_reducible refine (S1 _ HA.out).out.mono ?_); rintro e v ⟨rfl, rfl⟩))
    go_ret
    exact ⟨rfl, hw⟩
  have h1' : smallP p 300 = true := by simpa using h1
  rw [h1'] at S1
  by_cases h2 : n < 0
  · clear h h1 h1'
    go_enter Tryd.func7, Tryd.ntmps7
    go_wp2_with (first
      | (go_at_call 10; (with_reducible refine (fixed8 _ (hT.below (by go_grown))).mono ?_); rintro e u ⟨rfl, hb⟩; have hvb := ((Held.new w 43 #[.int .i64 a, .int .i64 b]).below hb); have hb := below_laid hb; replace HA := Lib.hid ((HA.out.below hb (Nat.le_refl _)).more hb.size); replace hT := hT.below hb; replace hw := Below.step hw hb; have x0 := hvb.cell 0; have x1 := hvb.cell 1; have xl := hvb.lt; simp at x0 x1; clear hb)
      | (go_at_call 10; (with_reducible refine (fixed8 _ hT).mono ?_); rintro e u ⟨rfl, hb⟩; replace HA := Lib.hid ((HA.out.below hb (Nat.le_refl _)).more hb.size); replace hT := hT.below hb; replace hw := Below.step hw hb; have hvb := hvb.below hb; clear hb)
      | (go_at_call 9; (with_reducible refine (S1 _ HA.out).out.mono ?_); rintro e v ⟨rfl, rfl⟩))
    go_ret
    exact ⟨rfl, hw⟩
  by_cases h3 : (p.length : Int) ≤ n
  · clear h h1 h1'
    go_enter Tryd.func7, Tryd.ntmps7
    go_wp2_with (first
      | (go_at_call 10; (with_reducible refine (fixed8 _ (hT.below (by go_grown))).mono ?_); rintro e u ⟨rfl, hb⟩; have hvb := ((Held.new w 43 #[.int .i64 a, .int .i64 b]).below hb); have hb := below_laid hb; replace HA := Lib.hid ((HA.out.below hb (Nat.le_refl _)).more hb.size); replace hT := hT.below hb; replace hw := Below.step hw hb; have x0 := hvb.cell 0; have x1 := hvb.cell 1; have xl := hvb.lt; simp at x0 x1; clear hb)
      | (go_at_call 10; (with_reducible refine (fixed8 _ hT).mono ?_); rintro e u ⟨rfl, hb⟩; replace HA := Lib.hid ((HA.out.below hb (Nat.le_refl _)).more hb.size); replace hT := hT.below hb; replace hw := Below.step hw hb; have hvb := hvb.below hb; clear hb)
      | (go_at_call 9; (with_reducible refine (S1 _ HA.out).out.mono ?_); rintro e v ⟨rfl, rfl⟩))
    go_ret
    exact ⟨rfl, hw⟩
  by_cases h4 : a < 0
  · clear h h1 h1'
    go_enter Tryd.func7, Tryd.ntmps7
    go_wp2_with (first
      | (go_at_call 10; (with_reducible refine (fixed8 _ (hT.below (by go_grown))).mono ?_); rintro e u ⟨rfl, hb⟩; have hvb := ((Held.new w 43 #[.int .i64 a, .int .i64 b]).below hb); have hb := below_laid hb; replace HA := Lib.hid ((HA.out.below hb (Nat.le_refl _)).more hb.size); replace hT := hT.below hb; replace hw := Below.step hw hb; have x0 := hvb.cell 0; have x1 := hvb.cell 1; have xl := hvb.lt; simp at x0 x1; clear hb)
      | (go_at_call 10; (with_reducible refine (fixed8 _ hT).mono ?_); rintro e u ⟨rfl, hb⟩; replace HA := Lib.hid ((HA.out.below hb (Nat.le_refl _)).more hb.size); replace hT := hT.below hb; replace hw := Below.step hw hb; have hvb := hvb.below hb; clear hb)
      | (go_at_call 9; (with_reducible refine (S1 _ HA.out).out.mono ?_); rintro e v ⟨rfl, rfl⟩))
    go_ret
    exact ⟨rfl, hw⟩
  by_cases h5 : 250 < a
  · clear h h1 h1'
    go_enter Tryd.func7, Tryd.ntmps7
    go_wp2_with (first
      | (go_at_call 10; (with_reducible refine (fixed8 _ (hT.below (by go_grown))).mono ?_); rintro e u ⟨rfl, hb⟩; have hvb := ((Held.new w 43 #[.int .i64 a, .int .i64 b]).below hb); have hb := below_laid hb; replace HA := Lib.hid ((HA.out.below hb (Nat.le_refl _)).more hb.size); replace hT := hT.below hb; replace hw := Below.step hw hb; have x0 := hvb.cell 0; have x1 := hvb.cell 1; have xl := hvb.lt; simp at x0 x1; clear hb)
      | (go_at_call 10; (with_reducible refine (fixed8 _ hT).mono ?_); rintro e u ⟨rfl, hb⟩; replace HA := Lib.hid ((HA.out.below hb (Nat.le_refl _)).more hb.size); replace hT := hT.below hb; replace hw := Below.step hw hb; have hvb := hvb.below hb; clear hb)
      | (go_at_call 9; (with_reducible refine (S1 _ HA.out).out.mono ?_); rintro e v ⟨rfl, rfl⟩))
    go_ret
    exact ⟨rfl, hw⟩
  by_cases h6 : b < 0
  · clear h h1 h1'
    go_enter Tryd.func7, Tryd.ntmps7
    go_wp2_with (first
      | (go_at_call 10; (with_reducible refine (fixed8 _ (hT.below (by go_grown))).mono ?_); rintro e u ⟨rfl, hb⟩; have hvb := ((Held.new w 43 #[.int .i64 a, .int .i64 b]).below hb); have hb := below_laid hb; replace HA := Lib.hid ((HA.out.below hb (Nat.le_refl _)).more hb.size); replace hT := hT.below hb; replace hw := Below.step hw hb; have x0 := hvb.cell 0; have x1 := hvb.cell 1; have xl := hvb.lt; simp at x0 x1; clear hb)
      | (go_at_call 10; (with_reducible refine (fixed8 _ hT).mono ?_); rintro e u ⟨rfl, hb⟩; replace HA := Lib.hid ((HA.out.below hb (Nat.le_refl _)).more hb.size); replace hT := hT.below hb; replace hw := Below.step hw hb; have hvb := hvb.below hb; clear hb)
      | (go_at_call 9; (with_reducible refine (S1 _ HA.out).out.mono ?_); rintro e v ⟨rfl, rfl⟩))
    go_ret
    exact ⟨rfl, hw⟩
  · have h7 : 250 < b := by
      rcases h with h | h | h | h | h | h | h
      · exact absurd h h1
      · exact absurd h h2
      · exact absurd h h3
      · exact absurd h h4
      · exact absurd h h5
      · exact absurd h h6
      · exact h
    clear h h1 h1'
    go_enter Tryd.func7, Tryd.ntmps7
    go_wp2_with (first
      | (go_at_call 10; (with_reducible refine (fixed8 _ (hT.below (by go_grown))).mono ?_); rintro e u ⟨rfl, hb⟩; have hvb := ((Held.new w 43 #[.int .i64 a, .int .i64 b]).below hb); have hb := below_laid hb; replace HA := Lib.hid ((HA.out.below hb (Nat.le_refl _)).more hb.size); replace hT := hT.below hb; replace hw := Below.step hw hb; have x0 := hvb.cell 0; have x1 := hvb.cell 1; have xl := hvb.lt; simp at x0 x1; clear hb)
      | (go_at_call 10; (with_reducible refine (fixed8 _ hT).mono ?_); rintro e u ⟨rfl, hb⟩; replace HA := Lib.hid ((HA.out.below hb (Nat.le_refl _)).more hb.size); replace hT := hT.below hb; replace hw := Below.step hw hb; have hvb := hvb.below hb; clear hb)
      | (go_at_call 9; (with_reducible refine (S1 _ HA.out).out.mono ?_); rintro e v ⟨rfl, rfl⟩))
    go_ret
    exact ⟨rfl, hw⟩
set_option maxHeartbeats 4000000 in
set_option maxRecDepth 100000 in
theorem good {A : Option Addr} {p : List Fun} (c : Nat) (a b : Int) (k : Nat) (hk : k < p.length) (w : World) (hT : Otab w) (ha : ProgAt w w.heap.size A p) (hz : SizedP p) (h1 : smallP p 300 = true) (ha0 : 0 ≤ a ∧ a ≤ 250) (hb0 : 0 ≤ b ∧ b ≤ 250) (hn2 : p[k].code.length ≤ 300) (hp20 : p.length ≤ 20) :
    Calls Tryd.prog 7 #[.slice A p.length c, gv a b, .int .i64 k] w fun e w' => e = .returned (.bool true) ∧ Below w.heap.size w w' := by
  have hw : Below w.heap.size w w := Below.refl _ _
  have S1 := fun W (h : ProgAt W W.heap.size A p) => Lib.hid (psmall_any c 300 W h)
  have HA := Lib.hid ha
  rw [h1] at S1
  have hk2 : (k : Int) < p.length := by omega
  have hp1 : 1 ≤ p.length := by omega
  obtain ⟨a1, a2⟩ := ha0
  obtain ⟨b1, b2⟩ := hb0
  clear ha h1
  go_enter Tryd.func7, Tryd.ntmps7
  go_upto_region 6 with (first
    | (go_at_call 10; (with_reducible refine (fixed8 _ (hT.below (by go_grown))).mono ?_); rintro e v ⟨rfl, hb⟩; have hvb := ((Held.new w 43 #[.int .i64 a, .int .i64 b]).below hb); have hb := below_laid hb; replace HA := Lib.hid ((HA.out.below hb (Nat.le_refl _)).more hb.size); replace hT := hT.below hb; replace hw := Below.step hw hb; have x0 := hvb.cell 0; have x1 := hvb.cell 1; have xl := hvb.lt; simp at x0 x1; have HVB := Lib.hid hvb; clear hb hvb)
    | (go_at_call 9; (with_reducible refine (S1 _ HA.out).out.mono ?_); rintro e v ⟨rfl, rfl⟩)
    | (at_builtin; refine wpList_append_prog _ Tryd.underlying23 rfl _ _ rfl _ _ [] rfl (OwnQ.made _) rfl (HA.out.below ((Below.refl _ _).alloc (Nat.le_refl _) _) (Nat.le_refl _)) hp1 (by simp; omega) (by simp) ?_; intro v1 u1 l1 e1 ho1 hb1; replace hb1 := Below.trans ((Below.refl _ _).alloc (Nat.le_refl _) _) hb1; obtain ⟨g, cap, A1, c1, rfl, hgB, hgl, hrow, hlies, hcode, k0, k1, k2, k3⟩ := copy_open e1 ho1 hk; have HRW := Lib.hid hrow; have HLI := Lib.hid hlies; have HCD := Lib.hid hcode; have HE1 := Lib.hid e1; clear ho1 hrow hlies hcode e1)
    | (at_builtin; refine wpList_append_code0 rfl _ _ rfl u1 _ rfl rfl rfl (HCD.out.below ((Below.refl v.heap.size _).alloc hb1.size _ |>.alloc (by simp; have := hb1.size; omega) _) (Nat.le_refl _)) (by omega) ?_; intro hh cap2 u2 ho2 hb2 hhB hhl; have hx2 : Held u2 u1.heap.size 34 #[.int .i64 p[k].ar, .int .i64 p[k].lo, .int .i64 p[k].sl, .slice A1 p[k].code.length c1] := (hb2.block u1.heap.size (by omega)).trans ((Held.new u1 34 #[.int .i64 p[k].ar, .int .i64 p[k].lo, .int .i64 p[k].sl, .slice A1 p[k].code.length c1]).alloc (.cells #[] 36)); have hg2 : u2.heap[g]? = u1.heap[g]? := (hb2.block g (by omega)).trans ((Below.heap_alloc _ _ g (by simp; omega)).trans (Below.heap_alloc _ _ g hgl)); have hr2 := row_heap HRW.out hg2; obtain ⟨z0, z1, z2, z3, y3, hxl⟩ := box4 hx2; have HO2 := Lib.hid ho2; have HX2 := Lib.hid hx2; have HR2 := Lib.hid hr2; have HB2 := Lib.hid hb2; have HG2 := Lib.hid hg2; clear ho2 hr2 hx2 hg2 hb2))
  have hst0 : Below v.heap.size u2 (u2.setCell ⟨u1.heap.size, 3, none⟩ (.slice (some ⟨hh, 0, none⟩) p[k].code.length cap2)) := (Below.refl _ _).setCell hb1.size _
  have hvu : Below v.heap.size u1 u2 := (((Below.refl v.heap.size u1).alloc hb1.size _).alloc (by simp; have := hb1.size; omega) _).trans (HB2.out.mono (by have := hb1.size; omega))
  have hvU := hb1.trans (hvu.trans hst0)
  have hx0 : Held (u2.setCell ⟨u1.heap.size, 3, none⟩ (.slice (some ⟨hh, 0, none⟩) p[k].code.length cap2)) u1.heap.size 34 #[.int .i64 p[k].ar, .int .i64 p[k].lo, .int .i64 p[k].sl, .slice (some ⟨hh, 0, none⟩) p[k].code.length cap2] := HX2.out.set_at 3 _
  have ho0 := HO2.out.grown (grown_set u2 u1.heap.size 3 (.slice (some ⟨hh, 0, none⟩) p[k].code.length cap2)) (fun b hb h => by simp [Value.ownBlock] at hb; cases h; omega)
  have hr0 := row_heap HR2.out (Below.heap_setCell u2 ⟨u1.heap.size, 3, none⟩ (.slice (some ⟨hh, 0, none⟩) p[k].code.length cap2) g (by show g ≠ u1.heap.size; omega))
  have hl0 := (HLI.out.below hvu (Nat.le_refl _)).below hst0 (Nat.le_refl _)
  have HQ := Lib.hid (qcells HG2.out (Below.heap_setCell u2 ⟨u1.heap.size, 3, none⟩ (.slice (some ⟨hh, 0, none⟩) p[k].code.length cap2) g (by show g ≠ u1.heap.size; omega)) k0 k1 k2 k3 hr0)
  have HVU := Lib.hid hvU
  have HV0 := Lib.hid (HVB.out.below hvU)
  have HX0 := Lib.hid hx0
  have HO0 := Lib.hid ho0
  have HR0 := Lib.hid hr0
  have HL0 := Lib.hid hl0
  have hx1 : u1.heap.size + 1 ≤ (u2.setCell ⟨u1.heap.size, 3, none⟩ (.slice (some ⟨hh, 0, none⟩) p[k].code.length cap2)).heap.size := by simp [World.setCell]; omega
  have hvx : v.heap.size ≤ u1.heap.size := hb1.size
  clear hst0 hvu hvU hx0 ho0 hr0 hl0 z0 z1 z2 z3 y3 hxl k0 k1 k2 k3 x0 x1 HB2 HX2 HO2 HR2 HCD HRW HLI hb1
  generalize u2.setCell ⟨u1.heap.size, 3, none⟩ (.slice (some ⟨hh, 0, none⟩) p[k].code.length cap2) = U at *
  have hta : a.tmod 240 = a % 240 := Int.tmod_eq_emod_of_nonneg a1
  have htb : b.tmod 4 = b % 4 := Int.tmod_eq_emod_of_nonneg b1
  have hta1 : 0 ≤ a.tmod 240 := by omega
  have hta2 : a.tmod 240 < 240 := by omega
  have htb1 : 0 ≤ b.tmod 4 := by omega
  have htb2 : b.tmod 4 < 4 := by omega
  have HTA := Lib.hid hta
  have HTB := Lib.hid htb
  have hn3 : (p[k].code.length : Int) ≤ 300 := by omega
  have hwx : w.heap.size < u1.heap.size + 1 := by have := hw.size; omega
  clear hta htb
  go_wp2_with fail
  go_loopw [9] (fun iv W => ∃ i : Nat, iv = .int .i64 i ∧ i ≤ p[k].code.length ∧ OwnC W (u1.heap.size + 1) (.slice (some ⟨hh, 0, none⟩) p[k].code.length cap2) (lstC a b p[k].code i) ∧ Below (u1.heap.size + 1) U W ∧ ∀ x ∈ p[k].code.take i, mayZ x.1 x.2.1 x.2.2 = true) (fun iv _ => p[k].code.length - (intOf iv).toNat)
  case atStart => exact ⟨0, rfl, by omega, by rw [lst_zero]; exact HO0.out, Below.refl _ _, by simp⟩
  case round =>
    obtain ⟨i, rfl, hi, hoc, hbw, hall⟩ := hrel
    have hxw := (hbw.block u1.heap.size (by omega)).trans HX0.out
    have hxw' : Held wr u1.heap.size 34 #[.int .i64 p[k].ar, .int .i64 p[k].lo, .int .i64 p[k].sl, .slice (some ⟨hh, 0, none⟩) p[k].code.length cap2] := hxw
    obtain ⟨z0, z1, z2, z3, _, hxl⟩ := box4 hxw'
    by_cases hlt : i < p[k].code.length
    · have hll := lst_len a b p[k].code (i := i) hi
      obtain ⟨e0, e1, e2⟩ := flatI_at (lstC a b p[k].code i) i (by omega)
      rw [lst_at a b hlt] at e0 e1 e2
      have HOC := Lib.hid hoc
      have HBW := Lib.hid hbw
      have hwr : u1.heap.size + 1 ≤ wr.heap.size := Nat.le_trans hx1 hbw.size
      have MC := rmay_any p[k].code[i].1 p[k].code[i].2.1 p[k].code[i].2.2
      have htk : p[k].code.take (i + 1) = p[k].code.take i ++ [p[k].code[i]] := List.take_succ_eq_append_getElem hlt
      have hls := lst_set a b hlt
      have hsm := lst_same a b hlt
      have hhx : hh ≠ u1.heap.size := by omega
      have HALL := Lib.hid hall
      have HTK := Lib.hid htk
      have HLS := Lib.hid hls
      have HSM := Lib.hid hsm
      have HLL := Lib.hid hll
      generalize p[k].code[i] = x at *
      obtain ⟨xo, xa, xb⟩ := x
      simp only at e0 e1 e2 MC
      obtain ⟨o0, o1, o2, _, _, _, ohl⟩ := own_cells hoc hll e0 e1 e2 hlt
      have E0 := Lib.hid e0
      have E1 := Lib.hid e1
      have E2 := Lib.hid e2
      clear hall htk hls hsm hoc hll e0 e1 e2 hbw hxw
      cases hm : mayZ xo xa xb with
      | false =>
        rw [hm] at MC
        clear hm
        go_wp2_with (go_at_call 20; (with_reducible refine (MC.go _).mono ?_); rintro _ W1 ⟨rfl, hbm⟩)
        go_ret
        exact ⟨rfl, (hw.trans (HVU.out.mono hw.size)).trans ((HBW.out.trans (hbm.mono hwr)).mono (Nat.le_of_lt hwx))⟩
      | true =>
        rw [hm] at MC
        have HM := Lib.hid hm
        clear hm
        by_cases g0 : xo = 0
        · subst g0
          have HST : (lstC a b p[k].code i).set i (0, a, b) = lstC a b p[k].code (i + 1) := HLS.out
          go_wp2_with (go_at_call 20; (with_reducible refine (MC.go _).mono ?_); rintro _ W1 ⟨rfl, hbm⟩; have HO1 := Lib.hid (HOC.out.below hbm); obtain ⟨z0, z1, z2, z3, _, hxl⟩ := box4 (hxw'.below hbm); obtain ⟨o0, o1, o2, y0, y1, y2, ohl⟩ := own_cells HO1.out HLL.out E0.out E1.out E2.out hlt; have HB1 := Lib.hid (HBW.out.trans (hbm.mono hwr)); have hv1 : Held W1 w.heap.size 43 #[.int .i64 a, .int .i64 b] := (HB1.out.block w.heap.size hwx).trans HV0.out; have vb0 := hv1.cell 0; have vb1 := hv1.cell 1; have vbl := hv1.lt; simp at vb0 vb1; clear hbm hv1)
          go_roundw
          case rel =>
            refine ⟨i + 1, by go_num, by omega, by have h := HO1.out.set HLL.out i (0, a, b) (by rw [HLL.out]; exact hlt); rw [HST] at h; exact h, ((HB1.out.setCell (p := ⟨hh, i * 3, none⟩) hhB _).setCell (p := ⟨hh, i * 3 + 1, none⟩) hhB _).setCell (p := ⟨hh, i * 3 + 2, none⟩) hhB _, fun y hy => ?_⟩
            rw [HTK.out] at hy
            rcases List.mem_append.1 hy with hy | hy
            · exact HALL.out y hy
            · simp only [List.mem_singleton] at hy
              subst hy
              exact HM.out
          case measure => simp [intOf]; omega
        by_cases g16 : xo = 16
        · subst g16
          have HST : (lstC a b p[k].code i).set i (16, 16 + a % 240, 0) = lstC a b p[k].code (i + 1) := HLS.out
          go_wp2_with (go_at_call 20; (with_reducible refine (MC.go _).mono ?_); rintro _ W1 ⟨rfl, hbm⟩; have HO1 := Lib.hid (HOC.out.below hbm); obtain ⟨z0, z1, z2, z3, _, hxl⟩ := box4 (hxw'.below hbm); obtain ⟨o0, o1, o2, y0, y1, y2, ohl⟩ := own_cells HO1.out HLL.out E0.out E1.out E2.out hlt; have HB1 := Lib.hid (HBW.out.trans (hbm.mono hwr)); have hv1 : Held W1 w.heap.size 43 #[.int .i64 a, .int .i64 b] := (HB1.out.block w.heap.size hwx).trans HV0.out; have vb0 := hv1.cell 0; have vb1 := hv1.cell 1; have vbl := hv1.lt; simp at vb0 vb1; clear hbm hv1)
          go_roundw
          case rel =>
            refine ⟨i + 1, by go_num, by omega, by have h := HO1.out.set HLL.out i (16, 16 + a % 240, 0) (by rw [HLL.out]; exact hlt); rw [HST] at h; exact h, ((HB1.out.setCell (p := ⟨hh, i * 3, none⟩) hhB _).setCell (p := ⟨hh, i * 3 + 1, none⟩) hhB _).setCell (p := ⟨hh, i * 3 + 2, none⟩) hhB _, fun y hy => ?_⟩
            rw [HTK.out] at hy
            rcases List.mem_append.1 hy with hy | hy
            · exact HALL.out y hy
            · simp only [List.mem_singleton] at hy
              subst hy
              exact HM.out
          case measure => simp [intOf]; omega
        by_cases g3 : xo = 3 ∨ xo = 4 ∨ xo = 5 ∨ xo = 6
        · have HST : (lstC a b p[k].code i).set i (3 + b % 4, 0, 0) = lstC a b p[k].code (i + 1) := by
            rw [← HLS.out]
            congr 1
            unfold chgI
            rw [if_neg g0, if_neg g16, if_pos g3]
          clear g0 g16
          rcases g3 with rfl | rfl | rfl | rfl
          all_goals
            go_wp2_with (go_at_call 20; (with_reducible refine (MC.go _).mono ?_); rintro _ W1 ⟨rfl, hbm⟩; have HO1 := Lib.hid (HOC.out.below hbm); obtain ⟨z0, z1, z2, z3, _, hxl⟩ := box4 (hxw'.below hbm); obtain ⟨o0, o1, o2, y0, y1, y2, ohl⟩ := own_cells HO1.out HLL.out E0.out E1.out E2.out hlt; have HB1 := Lib.hid (HBW.out.trans (hbm.mono hwr)); have hv1 : Held W1 w.heap.size 43 #[.int .i64 a, .int .i64 b] := (HB1.out.block w.heap.size hwx).trans HV0.out; have vb0 := hv1.cell 0; have vb1 := hv1.cell 1; have vbl := hv1.lt; simp at vb0 vb1; clear hbm hv1)
            go_roundw
            case rel =>
              refine ⟨i + 1, by go_num, by omega, by have h := HO1.out.set HLL.out i (3 + b % 4, 0, 0) (by rw [HLL.out]; exact hlt); rw [HST] at h; exact h, ((HB1.out.setCell (p := ⟨hh, i * 3, none⟩) hhB _).setCell (p := ⟨hh, i * 3 + 1, none⟩) hhB _).setCell (p := ⟨hh, i * 3 + 2, none⟩) hhB _, fun y hy => ?_⟩
              rw [HTK.out] at hy
              rcases List.mem_append.1 hy with hy | hy
              · exact HALL.out y hy
              · simp only [List.mem_singleton] at hy
                subst hy
                exact HM.out
            case measure => simp [intOf]; omega
        · have HST : lstC a b p[k].code (i + 1) = lstC a b p[k].code i := HSM.out (by unfold chgI; rw [if_neg g0, if_neg g16, if_neg g3])
          have t0 : (xo == 0) = false := by simpa using g0
          have t1 : (xo == 16) = false := by simpa using g16
          have t2 : (xo == 3) = false := by simp; omega
          have t3 : (xo == 4) = false := by simp; omega
          have t4 : (xo == 5) = false := by simp; omega
          have t5 : (xo == 6) = false := by simp; omega
          clear g0 g16 g3
          go_wp2_with (go_at_call 20; (with_reducible refine (MC.go _).mono ?_); rintro _ W1 ⟨rfl, hbm⟩; have HO1 := Lib.hid (HOC.out.below hbm); obtain ⟨z0, z1, z2, z3, _, hxl⟩ := box4 (hxw'.below hbm); obtain ⟨o0, o1, o2, y0, y1, y2, ohl⟩ := own_cells HO1.out HLL.out E0.out E1.out E2.out hlt; have HB1 := Lib.hid (HBW.out.trans (hbm.mono hwr)); have hv1 : Held W1 w.heap.size 43 #[.int .i64 a, .int .i64 b] := (HB1.out.block w.heap.size hwx).trans HV0.out; have vb0 := hv1.cell 0; have vb1 := hv1.cell 1; have vbl := hv1.lt; simp at vb0 vb1; clear hbm hv1)
          go_roundw
          case rel =>
            refine ⟨i + 1, by go_num, by omega, by rw [HST]; exact HO1.out, HB1.out, fun y hy => ?_⟩
            rw [HTK.out] at hy
            rcases List.mem_append.1 hy with hy | hy
            · exact HALL.out y hy
            · simp only [List.mem_singleton] at hy
              subst hy
              exact HM.out
          case measure => simp [intOf]; omega
    · obtain rfl : i = p[k].code.length := by omega
      rw [List.take_length] at hall
      rw [lst_all] at hoc
      obtain ⟨q0, q1, q2, q3, _, _, _, _, _⟩ := HQ.out
      have hgx1 : g < u1.heap.size + 1 := by omega
      replace q0 := (hbw.cell (p := ⟨g, k * 4, none⟩) hgx1).trans q0
      replace q1 := (hbw.cell (p := ⟨g, k * 4 + 1, none⟩) hgx1).trans q1
      replace q2 := (hbw.cell (p := ⟨g, k * 4 + 2, none⟩) hgx1).trans q2
      replace q3 := (hbw.cell (p := ⟨g, k * 4 + 3, none⟩) hgx1).trans q3
      have hr3 := row_heap HR0.out (hbw.block g hgx1)
      have r0 := hr3.frozenAt (k * 4)
      have r1 := hr3.frozenAt (k * 4 + 1)
      have r2 := hr3.frozenAt (k * 4 + 2)
      have r3 := hr3.frozenAt (k * 4 + 3)
      have hgl3 := (hr3.lt g rfl).2
      have hvw : Below v.heap.size U wr := hbw.mono (by omega)
      have hst := after_store2 (x := u1.heap.size) HE1.out hr3 (HL0.out.below hvw (Nat.le_refl _)) hk (chgF a b p[k]) (A := some ⟨hh, 0, none⟩) (c := cap2) (by show OwnC wr _ (.slice (some ⟨hh, 0, none⟩) (p[k].code.map (chgI a b)).length cap2) (p[k].code.map (chgI a b)); rw [List.length_map]; exact hoc) hgl hgB (Nat.le_trans HVU.out.size hvw.size)
      obtain ⟨hs1, hs2⟩ := hst
      have hcl : (chgF a b p[k]).code.length = p[k].code.length := by simp [chgF]
      rw [hcl] at hs1 hs2
      have hck := chg_ok hk (a := a) (b := b) ⟨a1, a2⟩ ⟨b1, b2⟩ hall
      have hsw := HVU.out.trans hvw
      have HS1 := Lib.hid hs1
      have HS2 := Lib.hid hs2
      have HCK := Lib.hid hck
      have HSW := Lib.hid hsw
      have hgx : g ≠ u1.heap.size := by omega
      clear hr3 hvw hs1 hs2 hcl hck hsw hall hoc hbw hxw hxw' HQ HR0 HL0 HO0 HX0
      go_upto_region 22 with (fail)
      obtain ⟨V, hV⟩ : ∃ V, V = ((((wr.setCell ⟨g, k * 4, none⟩ (.int .i64 p[k].ar)).setCell ⟨g, k * 4 + 1, none⟩ (.int .i64 p[k].lo)).setCell ⟨g, k * 4 + 2, none⟩ (.int .i64 p[k].sl)).setCell ⟨g, k * 4 + 3, none⟩ (.slice (some ⟨hh, 0, none⟩) p[k].code.length cap2)) := ⟨_, rfl⟩
      have hpq : ProgAt V V.heap.size (some ⟨g, 0, none⟩) (p.set k (chgF a b p[k])) := by rw [hV]; exact HS1.out
      have hvV : Below v.heap.size v V := HSW.out.trans (by rw [hV]; exact HS2.out)
      rw [← hV]
      obtain ⟨ht1, ht2⟩ := HCK.out
      have hsz : SizedP (p.set k (chgF a b p[k])) := ⟨by rw [List.length_set]; exact hz.1, fun f hf => by
        rcases List.mem_or_eq_of_mem_set hf with hf | rfl
        · exact hz.2 f hf
        · show (p[k].code.map (chgI a b)).length ≤ maxLen
          rw [List.length_map]
          exact hz.2 _ (List.getElem_mem hk)⟩
      have hlq : (p.set k (chgF a b p[k])).length = p.length := List.length_set
      have CQ := fun W (hb : Below V.heap.size V W) => Lib.hid (check_any cap W ((hT.below hvV).below hb) (hpq.below hb (Nat.le_refl _)) hsz hb.size)
      have DQ := fun W (hb : Below V.heap.size V W) => Lib.hid (depths_any cap k W ((hT.below hvV).below hb) (hpq.below hb (Nat.le_refl _)) hsz hb.size)
      have CP := fun W (hb : Below V.heap.size V W) => Lib.hid (check_any c W ((hT.below hvV).below hb) ((HA.out.below hvV (Nat.le_refl _)).below (hb.mono hvV.size) (Nat.le_refl _)) hz (Nat.le_trans hvV.size hb.size))
      have DP := fun W (hb : Below V.heap.size V W) => Lib.hid (depths_any c k W ((hT.below hvV).below hb) ((HA.out.below hvV (Nat.le_refl _)).below (hb.mono hvV.size) (Nat.le_refl _)) hz (Nat.le_trans hvV.size hb.size))
      rw [hlq, ht1] at CQ
      rw [hlq, ht2] at DQ
      have hD2 := checkTells.depths_len p k
      generalize checkP p = R at *
      obtain ⟨s1, s2, s3⟩ := R
      simp only at CQ CP
      generalize depthsP p k = D at *
      have HWV := Lib.hid (hw.trans (hvV.mono hw.size))
      have e1 : (s1 == s1) = true := by simp
      have e2 : (s2 == s2) = true := by simp
      have e3 : (s3 == s3) = true := by simp
      have HD2 := Lib.hid hD2
      clear hV hpq hvV ht1 ht2 hsz hlq hD2 z0 z1 z2 z3 hxl q0 q1 q2 q3 r0 r1 r2 r3 hgl3 hgx hgB hgl hw hT HCK
      go_wp2_with (first
        | (go_at_call 11; (with_reducible refine (CP _ (Below.refl _ _)).out.mono ?_); rintro _ V1 ⟨rfl, hv1⟩)
        | (go_at_call 11; (with_reducible refine (CQ _ hv1).out.mono ?_); rintro _ V2 ⟨rfl, hb2⟩; have hv2 := hv1.trans (hb2.mono hv1.size); clear hb2)
        | (go_at_call 14; (with_reducible refine (DP _ hv2).out.mono ?_); rintro _ V3 ⟨x3, rfl, hL3, hb3⟩; have hv3 := hv2.trans (hb3.mono hv2.size); clear hb3)
        | (go_at_call 14; (with_reducible refine (DQ _ hv3).out.mono ?_); rintro _ V4 ⟨x4, rfl, hL4, hb4⟩; have hL3' := hL3.below hb4; have hv4 := hv3.trans (hb4.mono hv3.size); clear hb4)
        | (go_at_call 13; (refine (ints_any _ hL3' hL4 HD2.out).mono ?_); rintro _ V5 ⟨rfl, hb5⟩; have hv5 := hv4.trans (hb5.mono hv4.size); clear hb5))
      go_ret
      exact ⟨by simp, HWV.out.trans (hv5.mono HWV.out.size)⟩
theorem walk {A : Option Addr} {p : List Fun} (c : Nat) (a b : Int) (n : Int) (w : World) (hT : Otab w) (ha : ProgAt w w.heap.size A p) (hz : SizedP p) (hs : ∀ f ∈ p, f.code.length * 24 ≤ reachBytes) :
    Calls Tryd.prog 7 #[.slice A p.length c, gv a b, .int .i64 n] w fun e w' => e = .returned (.bool true) ∧ Below w.heap.size w w' := by
  by_cases h : smallP p 300 = false ∨ n < 0 ∨ (p.length : Int) ≤ n ∨ a < 0 ∨ 250 < a ∨ b < 0 ∨ 250 < b
  · exact out c a b n w hT ha hz h
  · have h1 : smallP p 300 = true := by
      cases hs : smallP p 300
      · exact absurd (.inl hs) h
      · rfl
    have h2 : ¬ n < 0 := fun e => h (.inr (.inl e))
    have h3 : ¬ (p.length : Int) ≤ n := fun e => h (.inr (.inr (.inl e)))
    have h4 : ¬ a < 0 := fun e => h (.inr (.inr (.inr (.inl e))))
    have h5 : ¬ 250 < a := fun e => h (.inr (.inr (.inr (.inr (.inl e)))))
    have h6 : ¬ b < 0 := fun e => h (.inr (.inr (.inr (.inr (.inr (.inl e))))))
    have h7 : ¬ 250 < b := fun e => h (.inr (.inr (.inr (.inr (.inr (.inr e))))))
    obtain ⟨k, rfl⟩ := Int.eq_ofNat_of_zero_le (show 0 ≤ n by omega)
    have hk : k < p.length := by omega
    obtain ⟨g1, g2⟩ := small_codes (m := 300) (by omega) h1 hs
    exact good c a b k hk w hT ha hz h1 ⟨by omega, by omega⟩ ⟨by omega, by omega⟩ (g2 _ (List.getElem_mem hk)) g1
theorem entry {H : Type} {enc : TypeId × Value → H} (W : World) (base : Nat) (v0 v1 v2 : Value) (d0 d1 d2 : DataW H) (p0 p1 p2 : List MemPlace)
    (k0 : Value.okWide Tryd.prog W .any base 23 v0)
    (k1 : Value.okWide Tryd.prog W .any base 43 v1)
    (k2 : Value.okWide Tryd.prog W .any base 3 v2)
    (h0 : DataW.Trod enc Tryd.prog W 0 (fun _ => true) true 23 v0 d0 p0)
    (h1 : DataW.Trod enc Tryd.prog W 0 (fun _ => true) true 43 v1 d1 p1)
    (h2 : DataW.Trod enc Tryd.prog W 0 (fun _ => true) true 3 v2 d2 p2)
    (hw : ∀ n ∈ d0.weights Tryd.prog 23, n ≤ reachBytes)
    (hT : Otab W) : Calls Tryd.prog 7 #[v0, v1, v2] W fun e w' => e = .returned (.bool true) ∧ Below W.heap.size W w' := by
  obtain ⟨A0, c0, ps0, rfl, hp0, hz0⟩ := open_prog k0 h0
  obtain ⟨x, y, rfl, _, _⟩ := open_val k1 h1
  obtain ⟨a2, rfl, rfl, rfl, w2⟩ := open_int Tryd.underlying3 k2 h2
  exact walk c0 x y a2 W hT hp0 hz0 (codes_sized h0 rfl hp0 hw)
end Go.Proofs.YtdbmpcdianjaaaaDoor.checkFields

