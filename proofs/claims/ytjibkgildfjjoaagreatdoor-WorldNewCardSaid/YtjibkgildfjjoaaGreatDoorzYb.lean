/- Layer 12: what a call leaves; New; whether a ref has a cell. -/
import Derived.Test.YtjibkgildfjjoaaGreatDoorzRs
import Derived.Test.YtjibkgildfjjoaaGreatDoorzYn
import Derived.Test.YtjibkgildfjjoaaGreatDoorzQt
import Derived.Deep.RegionHeld3
import Derived.BigQuiet
import Derived.Test.YtjibkgildfjjoaaGreatDoorzRw
import Derived.Test.YtjibkgildfjjoaaGreatDoorzHd
namespace Go.Proofs.YtjibkgildfjjoaaGreatDoor
set_option linter.unusedVariables false
set_option linter.unusedSimpArgs false
open Go.RowKit Go.ChangeShapes Go.WideShapes Go.ChangeAt Go.Sort

theorem load_pen {w : World} {g : Nat} {cs : Array Value} (h : Held w g 32 cs) (hs : cs.size = 3) : (loadVar 32 ⟨g, 0, none⟩).run Tryz.prog w = .ok (.agg cs) w :=
  run_loadVar_row (P := Tryz.prog) _ g 32 32 _ (0, 0) _ h Tryz.underlying32 rfl (by rw [hs]; kernel_rfl)
theorem load_frm {w : World} {g : Nat} {cs : Array Value} (h : Held w g 60 cs) (hs : cs.size = 16) : (loadVar 60 ⟨g, 0, none⟩).run Tryz.prog w = .ok (.agg cs) w :=
  run_loadVar_row (P := Tryz.prog) _ g 60 60 _ (0, 0) _ h Tryz.underlying60 rfl (by rw [hs]; kernel_rfl)
abbrev refc (x y : Int) : Array Value := #[.int .i64 x, .int .i64 y]
abbrev fzc : Array Value := #[.int .i64 0, .int .i64 0, .slice none 0 0, .slice none 0 0, .slice none 0 0, .int .i64 0, .int .i64 0, .int .i64 0, .int .i64 0, .int .i64 0, .int .i64 0, .int .i64 0, .int .i64 0, .int .i64 0, .int .i64 0, .int .i64 0]
/-- What stands in a pen's place, with its cells known. -/
theorem has_of {p : Zp} {j : Nat} (hj : j < p.cells.length) (x : Int) : hasZ p ((j : Int), x) = (p.cells[j].used && decide (p.cells[j].gen = x)) := by
  rw [Bool.eq_iff_iff, hasZ_iff]
  simp only [Bool.and_eq_true, decide_eq_true_eq]
  constructor
  · rintro ⟨i, hi, e, h1, h2⟩
    obtain rfl : i = j := by simp only at e; omega
    exact ⟨h1, h2⟩
  · rintro ⟨h1, h2⟩
    exact ⟨j, hj, rfl, h1, h2⟩
theorem has_low {p : Zp} {r : V} (h : r.1 < 0 ∨ (p.cells.length : Int) ≤ r.1) : hasZ p r = false := hasZ_no (by
  rintro ⟨i, hi, e, _⟩
  omega)
set_option maxHeartbeats 2000000 in
set_option maxRecDepth 100000 in
theorem newZ_z (m : Int) (w : World) : Calls Tryz.prog 31 #[.int .i64 m] w fun e w' => e = .returned (.tuple #[pv none 0 0 none 0 0 (newZ m).1.most, .bool (newZ m).2]) ∧ Below w.heap.size w w' := by
  have g4 := Held.new w 32 pz0
  have hb0 : Below w.heap.size w (w.alloc (.cells pz0 32)) := (Below.refl _ _).alloc (Nat.le_refl _) _
  by_cases h : 1 ≤ m ∧ m ≤ 1024
  · have e : newZ m = (⟨[], [], m⟩, true) := if_pos h
    rw [e]
    have c1 : decide (m < 1) = false := decide_eq_false (by omega)
    have c2 : decide (1024 < m) = false := decide_eq_false (by omega)
    clear h e
    go_enter Tryz.func31, Tryz.ntmps31
    go_upto_region 1 with (fail)
    generalize w.alloc (.cells pz0 32) = W0 at *
    go_wp2_with (guard_target = wpList _ _ _ (Oper.mk _ (Op.store 32 (.tmp 2) _) _ _ _ none :: _) _ _; refine wpList_store_row rfl 32 _ _ rfl w.heap.size (pc none 0 0 none 0 0 m) rfl rfl _ _ g4 (by kernel_rfl) rfl (by simp [Value.oneCell']) ?_)
    exact bodyPost_ret (results_ct0 rfl _ _ rfl rfl (load_pen (held_rowSelf g4 (pc none 0 0 none 0 0 m)) rfl)) rfl ⟨rfl, below_setRow hb0 (Nat.le_refl _) _⟩
  · have e : newZ m = (zp0, false) := if_neg h
    rw [e]
    have hcs : decide (m < 1) = true ∨ (decide (m < 1) = false ∧ decide (1024 < m) = true) := by
      simp only [decide_eq_true_eq, decide_eq_false_iff_not]
      omega
    clear h e
    rcases hcs with c1 | ⟨c1, c2⟩
    all_goals
      go_enter Tryz.func31, Tryz.ntmps31
      go_upto_region 1 with (fail)
      generalize w.alloc (.cells pz0 32) = W0 at *
      go_wp2_with (guard_target = wpList _ _ _ (Oper.mk _ (Op.store 32 (.tmp 2) _) _ _ _ none :: _) _ _; refine wpList_store_row rfl 32 _ _ rfl w.heap.size pz0 rfl rfl _ _ g4 (by kernel_rfl) rfl (by simp [Value.oneCell']) ?_)
      exact bodyPost_ret (results_ct0 rfl _ _ rfl rfl (load_pen (held_rowSelf g4 pz0) rfl)) rfl ⟨rfl, below_setRow hb0 (Nat.le_refl _) _⟩
set_option maxHeartbeats 2000000 in
set_option maxRecDepth 100000 in
theorem rnew_z (m : Int) (w : World) : Calls Tryz.prog 34 #[.int .i64 m] w fun e w' => e = .returned (.tuple #[pv none 0 0 none 0 0 (newZ m).1.most, .bool (newZ m).2]) ∧ Below w.heap.size w w' := by
  have g4 := Held.new w 32 pz0
  have hb0 : Below w.heap.size w (w.alloc (.cells pz0 32)) := (Below.refl _ _).alloc (Nat.le_refl _) _
  by_cases h : 1 ≤ m ∧ m ≤ 1024
  · have e : newZ m = (⟨[], [], m⟩, true) := if_pos h
    rw [e]
    have c1 : decide (m < 1) = false := decide_eq_false (by omega)
    have c2 : decide (1024 < m) = false := decide_eq_false (by omega)
    clear h e
    go_enter Tryz.func34, Tryz.ntmps34
    go_upto_region 1 with (fail)
    generalize w.alloc (.cells pz0 32) = W0 at *
    go_wp2_with (guard_target = wpList _ _ _ (Oper.mk _ (Op.store 32 (.tmp 2) _) _ _ _ none :: _) _ _; refine wpList_store_row rfl 32 _ _ rfl w.heap.size (pc none 0 0 none 0 0 m) rfl rfl _ _ g4 (by kernel_rfl) rfl (by simp [Value.oneCell']) ?_)
    exact bodyPost_ret (results_ct0 rfl _ _ rfl rfl (load_pen (held_rowSelf g4 (pc none 0 0 none 0 0 m)) rfl)) rfl ⟨rfl, below_setRow hb0 (Nat.le_refl _) _⟩
  · have e : newZ m = (zp0, false) := if_neg h
    rw [e]
    have hcs : decide (m < 1) = true ∨ (decide (m < 1) = false ∧ decide (1024 < m) = true) := by
      simp only [decide_eq_true_eq, decide_eq_false_iff_not]
      omega
    clear h e
    rcases hcs with c1 | ⟨c1, c2⟩
    all_goals
      go_enter Tryz.func34, Tryz.ntmps34
      go_upto_region 1 with (fail)
      generalize w.alloc (.cells pz0 32) = W0 at *
      go_wp2_with (guard_target = wpList _ _ _ (Oper.mk _ (Op.store 32 (.tmp 2) _) _ _ _ none :: _) _ _; refine wpList_store_row rfl 32 _ _ rfl w.heap.size pz0 rfl rfl _ _ g4 (by kernel_rfl) rfl (by simp [Value.oneCell']) ?_)
      exact bodyPost_ret (results_ct0 rfl _ _ rfl rfl (load_pen (held_rowSelf g4 pz0) rfl)) rfl ⟨rfl, below_setRow hb0 (Nat.le_refl _) _⟩
set_option maxHeartbeats 2000000 in
set_option maxRecDepth 100000 in
theorem rhas_z {A A2 : Option Addr} {p : Zp} {B n m : Nat} {t : Int} (c c2 : Nat) (r : V) (w : World) (hn : p.cells.length = n) (h : PAtZ w B A A2 p) (hB : B ≤ w.heap.size) (hl : n ≤ 3000) :
    Calls Tryz.prog 52 #[pv A n c A2 m c2 t, gv r.1 r.2] w fun e w' => e = .returned (.bool (hasZ p r)) ∧ Below w.heap.size w w' := by
  have hb0 := below2 w (.cells (pc A n c A2 m c2 t) 32) (.cells (refc r.1 r.2) 36)
  have g2 := (Held.new w 32 (pc A n c A2 m c2 t)).alloc (.cells (refc r.1 r.2) 36)
  have g3 := Held.new1 w (.cells (pc A n c A2 m c2 t) 32) 36 (refc r.1 r.2)
  have hc := h.cells.below hb0 hB
  obtain ⟨x, y⟩ := r
  simp only at *
  by_cases h0 : 0 ≤ x ∧ x < (n : Int)
  · obtain ⟨j, rfl⟩ : ∃ j : Nat, x = j := ⟨x.toNat, by omega⟩
    have hj : j < p.cells.length := by omega
    obtain ⟨b, off, rfl, -, cs, -, -, -, k0, k1, -, -⟩ := hc.cel hj
    have e := has_of hj y
    have d0 : decide (0 ≤ (j : Int)) = true := decide_eq_true (by omega)
    have d1 : decide ((j : Int) < (n : Int)) = true := decide_eq_true (by omega)
    have hjn : (j : Int) < n := by omega
    have hj0 : (0 : Int) ≤ j := by omega
    have hn2 : (n : Int) ≤ 3000 := by omega
    rw [e]
    generalize p.cells[j].gen = g at *
    generalize p.cells[j].used = u at *
    clear e hc h h0 hj hn hB
    cases u with
    | false =>
      go_enter Tryz.func52, Tryz.ntmps52
      go_upto_region 1 with (fail)
      generalize ((w.alloc (.cells (pc (some ⟨b, off, none⟩) n c A2 m c2 t) 32)).alloc (.cells (refc j y) 36)) = W0 at *
      have x0 := g2.cell 0
      have y0 := g3.cell 0
      have y1 := g3.cell 1
      simp at x0 y0 y1
      go_wp2_with fail
      go_quiet (fail)
      go_wp2_with fail
      go_ret
      exact ⟨rfl, below_drewN hb0 _⟩
    | true =>
      by_cases hg : g = y
      all_goals
        first
          | (have d2 : decide (g = y) = true := decide_eq_true hg)
          | (have d2 : decide (g = y) = false := decide_eq_false hg)
        have d3 : (g == y) = decide (g = y) := rfl
        rw [d2] at d3 ⊢
        go_enter Tryz.func52, Tryz.ntmps52
        go_upto_region 1 with (fail)
        generalize ((w.alloc (.cells (pc (some ⟨b, off, none⟩) n c A2 m c2 t) 32)).alloc (.cells (refc j y) 36)) = W0 at *
        have x0 := g2.cell 0
        have y0 := g3.cell 0
        have y1 := g3.cell 1
        simp at x0 y0 y1
        clear hg
        go_wp2_with fail
        go_quiet (fail)
        go_wp2_with fail
        go_ret
        exact ⟨rfl, below_drewN hb0 _⟩
  · rw [has_low (r := (x, y)) (by simp only; omega)]
    have hn2 : (n : Int) ≤ 3000 := by omega
    have hcs : decide (0 ≤ x) = false ∨ (decide (0 ≤ x) = true ∧ decide (x < (n : Int)) = false) := by
      simp only [decide_eq_true_eq, decide_eq_false_iff_not]
      omega
    clear h0 hc h
    rcases hcs with d0 | ⟨d0, d1⟩
    all_goals
      go_enter Tryz.func52, Tryz.ntmps52
      go_upto_region 1 with (fail)
      generalize ((w.alloc (.cells (pc A n c A2 m c2 t) 32)).alloc (.cells (refc x y) 36)) = W0 at *
      have x0 := g2.cell 0
      have y0 := g3.cell 0
      have y1 := g3.cell 1
      simp at x0 y0 y1
      go_wp2_with fail
      go_quiet (fail)
      go_wp2_with fail
      go_ret
      exact ⟨rfl, below_drewN hb0 _⟩
end Go.Proofs.YtjibkgildfjjoaaGreatDoor

/- Layer 12's code: May. -/
namespace Go.Proofs.YtjibkgildfjjoaaGreatDoor
set_option linter.unusedVariables false
set_option linter.unusedSimpArgs false
open Go.RowKit Go.ChangeShapes Go.WideShapes Go.ChangeAt Go.Sort

/-- The marks of the free places. -/
def marks (l : List Int) : Array Value := ((List.range 1024).map fun (i : Nat) => Value.bool (decide ((i : Int) ∈ l))).toArray
theorem marks_at (l : List Int) {i : Nat} (h : i < 1024) : (marks l)[i]? = some (.bool (decide ((i : Int) ∈ l))) := by
  simp [marks, h]
theorem marks_set (l : List Int) {i : Nat} (h : i < 1024) : (marks l).setIfInBounds i (.bool true) = marks (l ++ [(i : Int)]) := by
  apply Array.ext_getElem?
  intro j
  by_cases hj : j < 1024
  · rw [marks_at _ hj]
    by_cases e : i = j
    · subst e
      rw [Array.getElem?_setIfInBounds_self_of_lt (by simp [marks, h])]
      simp
    · rw [Array.getElem?_setIfInBounds_ne e, marks_at _ hj]
      have : (j : Int) ≠ i := by omega
      simp [this]
  · rw [Array.getElem?_eq_none (by simp [marks]; omega), Array.getElem?_eq_none (by simp [marks]; omega)]
theorem marks_nil : (Tryz.prog.info? 137).map (·.zero) = some (some (.agg (marks []))) := by kernel_rfl
theorem ok_top {p : Zp} (h : ¬ topZ p) : okZ p = false := okZ_no fun k => h k.top
theorem ok_rng {p : Zp} {j : Nat} (hj : j < p.free.length) (h : p.free[j] < 0 ∨ (p.cells.length : Int) ≤ p.free[j]) : okZ p = false := okZ_no fun k => by
  have := k.rng _ (List.getElem_mem hj)
  omega
theorem ok_dup {p : Zp} {j : Nat} (hj : j < p.free.length) (h : p.free[j] ∈ p.free.take j) : okZ p = false := okZ_no fun k => by
  obtain ⟨i, hi, e⟩ := List.mem_iff_getElem.1 h
  rw [List.length_take] at hi
  rw [List.getElem_take] at e
  have := (List.nodup_iff_pairwise_ne.1 k.nod)
  have h2 := List.pairwise_iff_getElem.1 this i j (by omega) hj (by omega)
  exact h2 e
theorem ok_cel {p : Zp} {j : Nat} (hj : j < p.cells.length) (h : p.cells[j].used = decide ((j : Int) ∈ p.free) ∨ p.cells[j].gen < 0 ∨ 4294967296 ≤ p.cells[j].gen) : okZ p = false := okZ_no fun k => by
  rcases h with h | h
  · have := k.use j hj
    by_cases e : (j : Int) ∈ p.free <;> simp [h, e] at this
  · have := k.gen j hj
    omega
/-- On the way through the free ones. -/
structure MayS (w : World) (p : Zp) (A A2 : Option Addr) (n m c c2 k : Nat) (W : World) : Prop where
  pen : Held W w.heap.size 32 (pc A n c A2 m c2 p.most)
  arr : Held W (w.heap.size + 1) 137 (marks (p.free.take k))
  low : Below w.heap.size w W
  rng : ∀ a ∈ p.free.take k, 0 ≤ a ∧ a < (n : Int)
  nod : (p.free.take k).Nodup
/-- On the way through the cells. -/
structure MayT (w : World) (p : Zp) (A A2 : Option Addr) (n m c c2 k : Nat) (W : World) : Prop where
  s : MayS w p A A2 n m c c2 m W
  cel : ∀ i (h : i < p.cells.length), i < k → (p.cells[i].used = true ↔ (i : Int) ∉ p.free) ∧ 0 ≤ p.cells[i].gen ∧ p.cells[i].gen < 4294967296
theorem MayT.next {w : World} {p : Zp} {A A2 : Option Addr} {n m c c2 k : Nat} {W : World} (hw : MayT w p A A2 n m c c2 k W) (hk : k < p.cells.length) (e : p.cells[k].used = true ↔ (k : Int) ∉ p.free) (e2 : 0 ≤ p.cells[k].gen ∧ p.cells[k].gen < 4294967296) : MayT w p A A2 n m c c2 (k + 1) W :=
  ⟨hw.s, fun i hi hik => by
    by_cases e9 : i = k
    · subst e9
      exact ⟨e, e2⟩
    · exact hw.cel i hi (by omega)⟩
theorem MayS.next {w : World} {p : Zp} {A A2 : Option Addr} {n m c c2 j i : Nat} {W : World} (hw : MayS w p A A2 n m c c2 j W) (hjf : j < p.free.length) (e0 : p.free[j] = (i : Int)) (hi : i < 1024) (hr : 0 ≤ (i : Int) ∧ (i : Int) < (n : Int)) (hd : (i : Int) ∉ p.free.take j) :
    MayS w p A A2 n m c c2 (j + 1) (W.setCell ⟨w.heap.size + 1, i, none⟩ (.bool true)) := by
  have e := List.take_succ_eq_append_getElem hjf
  rw [e0] at e
  refine ⟨hw.pen.far (by omega) _ _, ?_, hw.low.setCell (p := ⟨w.heap.size + 1, i, none⟩) (Nat.le_succ _) _, ?_, ?_⟩
  · rw [e, ← marks_set _ hi]
    exact hw.arr.set_at i (.bool true)
  · intro a' ha'
    rw [e, List.mem_append] at ha'
    rcases ha' with ha' | ha'
    · exact hw.rng a' ha'
    · simp at ha'
      subst ha'
      exact hr
  · rw [e, List.nodup_append]
    refine ⟨hw.nod, by simp, ?_⟩
    intro a' ha' b' hb'
    simp at hb'
    subst hb'
    exact fun e2 => hd (e2 ▸ ha')
theorem MayT.drewN {w : World} {p : Zp} {A A2 : Option Addr} {n m c c2 k : Nat} {W : World} (h : MayT w p A A2 n m c c2 k W) (d : Nat) : MayT w p A A2 n m c c2 k (W.drewN d) := ⟨⟨h.s.pen, h.s.arr, below_drewN h.s.low d, h.s.rng, h.s.nod⟩, h.cel⟩
theorem MayT.ok {w : World} {p : Zp} {A A2 : Option Addr} {n m c c2 : Nat} {W : World} (hw : MayT w p A A2 n m c c2 n W) (hn : p.cells.length = n) (hm : p.free.length = m) (ht : topZ p) : okZ p = true := by
  rw [okZ_iff]
  have e : p.free.take m = p.free := List.take_of_length_le (by omega)
  have h1 := hw.s.rng
  have h2 := hw.s.nod
  rw [e] at h1 h2
  exact ⟨ht, fun a ha => by rw [hn]; exact h1 a ha, h2, fun i hi => (hw.cel i hi (by omega)).1, fun i hi => (hw.cel i hi (by omega)).2⟩
set_option maxHeartbeats 4000000 in
set_option maxRecDepth 100000 in
theorem may_z {A A2 : Option Addr} {p : Zp} {B n m : Nat} (c c2 : Nat) (w : World) (hn : p.cells.length = n) (hm : p.free.length = m) (h : PAtZ w B A A2 p) (hl : n ≤ 100000) (hl2 : m ≤ 100000) (hB : B ≤ w.heap.size) :
    Calls Tryz.prog 64 #[pv A n c A2 m c2 p.most] w fun e w' => e = .returned (.bool (okZ p)) ∧ Below w.heap.size w w' := by
  have hb0 : Below w.heap.size w (w.alloc (.cells (pc A n c A2 m c2 p.most) 32)) := (Below.refl _ _).alloc (Nat.le_refl _) _
  have g1 := Held.new w 32 (pc A n c A2 m c2 p.most)
  have HP := Lib.hid h
  have HN := Lib.hid hn
  have HM := Lib.hid hm
  have HBW := Lib.hid hB
  have hnI : (n : Int) ≤ 100000 := by omega
  have hmI : (m : Int) ≤ 100000 := by omega
  have hcs : (topZ p ∧ decide (p.most < 1) = false ∧ decide (1024 < p.most) = false ∧ decide (p.most < (n : Int)) = false) ∨ (¬ topZ p ∧ (decide (p.most < 1) = true ∨ (decide (p.most < 1) = false ∧ decide (1024 < p.most) = true) ∨ (decide (p.most < 1) = false ∧ decide (1024 < p.most) = false ∧ decide (p.most < (n : Int)) = true))) := by
    unfold topZ
    simp only [decide_eq_true_eq, decide_eq_false_iff_not, hn]
    omega
  obtain ⟨R, hR⟩ : ∃ R, okZ p = R := ⟨_, rfl⟩
  rw [hR]
  have HR := Lib.hid hR
  clear h hn hm hB hR
  rcases hcs with ⟨ht, d1, d2, d3⟩ | ⟨ht, hcs⟩
  · have HT := Lib.hid ht
    have hn1 : n ≤ 1024 := by
      have := HN.out
      unfold topZ at ht
      omega
    clear ht
    go_enter Tryz.func64, Tryz.ntmps64
    go_upto_region 3 with (fail)
    generalize hW0 : w.alloc (.cells (pc A n c A2 m c2 p.most) 32) = W0 at *
    have hsz : W0.heap.size = w.heap.size + 1 := by rw [← hW0]; simp
    clear hW0
    go_upto_region 4 with (refine wpList_plain rfl fun K hK => wp_alloc_R 137 rfl (marks []) marks_nil (hK _ _ ?_))
    have g1' := g1.alloc (.cells (marks []) 137)
    have g2 := Held.new W0 137 (marks [])
    have hb1 : Below w.heap.size w (W0.alloc (.cells (marks []) 137)) := hb0.alloc (by omega) _
    rw [hsz] at g2 ⊢
    generalize W0.alloc (.cells (marks []) 137) = W1 at *
    have x1 := g1'.cell 1
    simp at x1
    have HS : Hid (MayS w p A A2 n m c c2 0 W1) := Lib.hid ⟨g1', by simpa using g2, hb1, by simp, by simp⟩
    clear g1 g1' g2 hb0 hb1 hsz
    go_upto_region 5 with (fail)
    clear x1
    go_loopw [27] (fun iv W => ∃ j : Nat, iv = .int .i64 j ∧ j ≤ m ∧ MayS w p A A2 n m c c2 j W) (fun iv _ => m - (intOf iv).toNat)
    case atStart => exact ⟨0, rfl, by omega, HS.out⟩
    case round =>
      clear HS
      obtain ⟨j, rfl, hj, hw⟩ := hrel
      have HW := Lib.hid hw
      have x0 := hw.pen.cell 0
      simp at x0
      have hj0 : (0 : Int) ≤ j := by omega
      by_cases hlt : j < m
      · have hjf : j < p.free.length := by rw [HM.out]; exact hlt
        have hlt2 : (j : Int) < m := by omega
        obtain ⟨b, off, rfl, hbB, hc⟩ := HP.out.free (by omega)
        have k0 := (hw.low.cell (p := ⟨b, off + j, none⟩) (by show b < w.heap.size; have := HBW.out; omega)).trans (hc j hjf)
        obtain ⟨a, ha⟩ : ∃ a, p.free[j] = a := ⟨_, rfl⟩
        rw [ha] at k0
        have HA := Lib.hid ha
        clear hc ha hw
        by_cases hr : 0 ≤ a ∧ a < (n : Int)
        · obtain ⟨i, rfl⟩ : ∃ i : Nat, a = i := ⟨a.toNat, by omega⟩
          have hi : i < 1024 := by omega
          have y0 := HW.out.arr.cell i
          rw [marks_at _ hi] at y0
          have hi2 : (i : Int) < 1024 := by omega
          have d4 : decide ((i : Int) < 0) = false := decide_eq_false (by omega)
          have d5 : decide (n ≤ i) = false := decide_eq_false (by omega)
          have hin : i < n := by omega
          by_cases hd : (i : Int) ∈ p.free.take j
          · rw [decide_eq_true hd] at y0
            obtain rfl : R = false := HR.out.symm.trans (ok_dup hjf (by rw [HA.out]; exact hd))
            clear hd hr
            go_wp2_with fail
            go_ret
            exact ⟨rfl, HW.out.low⟩
          · have hst := HW.out.next hjf HA.out hi hr hd
            have HST := Lib.hid hst
            have z0 := HW.out.arr.fz i
            rw [decide_eq_false hd] at y0
            clear hd hst hr
            go_wp2_with fail
            go_roundw
            case rel => exact ⟨j + 1, by go_num, by omega, HST.out⟩
            case measure => simp [intOf]; omega
        · obtain rfl : R = false := HR.out.symm.trans (ok_rng hjf (by rw [HA.out, HN.out]; omega))
          have hrc : decide (a < 0) = true ∨ (decide (a < 0) = false ∧ decide ((n : Int) ≤ a) = true) := by
            simp only [decide_eq_true_eq, decide_eq_false_iff_not]
            omega
          clear hr
          rcases hrc with d4 | ⟨d4, d5⟩
          all_goals
            go_wp2_with fail
            go_ret
            exact ⟨rfl, HW.out.low⟩
      · obtain rfl : j = m := by omega
        clear hw hlt
        go_upto_region 12 with (fail)
        clear x0
        go_loopw [51] (fun iv W => ∃ k : Nat, iv = .int .i64 k ∧ k ≤ n ∧ MayT w p A A2 n j c c2 k W) (fun iv _ => n - (intOf iv).toNat)
        case atStart => exact ⟨0, rfl, by omega, HW.out, fun i h h0 => absurd h0 (by omega)⟩
        case round =>
          clear HW
          obtain ⟨k, rfl, hk, hw⟩ := hrel
          have HW := Lib.hid hw
          have x0 := hw.s.pen.cell 0
          simp at x0
          have hk0 : (0 : Int) ≤ k := by omega
          by_cases hlt : k < n
          · have hkn : k < p.cells.length := by rw [HN.out]; exact hlt
            have hlt2 : (k : Int) < n := by omega
            have hk2 : (k : Int) < 1024 := by omega
            obtain ⟨b, off, rfl, -, cs, -, -, -, k0, k1, -, -⟩ := (HP.out.cells.below hw.s.low HBW.out).cel hkn
            have y0 := hw.s.arr.cell k
            rw [marks_at _ (by omega), List.take_of_length_le (by rw [HM.out]; exact Nat.le_refl _)] at y0
            obtain ⟨g, hg⟩ : ∃ g, p.cells[k].gen = g := ⟨_, rfl⟩
            obtain ⟨u, hu⟩ : ∃ u, p.cells[k].used = u := ⟨_, rfl⟩
            rw [hg] at k0
            rw [hu] at k1
            by_cases hd : (k : Int) ∈ p.free
            all_goals
              first
                | rw [decide_eq_true hd] at y0
                | rw [decide_eq_false hd] at y0
              cases u
            case pos.true | neg.false =>
              obtain rfl : R = false := HR.out.symm.trans (ok_cel hkn (.inl (by rw [hu]; simp [hd])))
              clear hd hg hu
              go_wp2_with fail
              go_quiet (fail)
              go_wp2_with fail
              go_ret
              exact ⟨rfl, below_drewN HW.out.s.low _⟩
            all_goals
              by_cases hgr : 0 ≤ g ∧ g < 4294967296
              · have HNX := Lib.hid (HW.out.next hkn (by rw [hu]; simp [hd]) (by rw [hg]; exact hgr))
                have d4 : decide (g < 0) = false := decide_eq_false (by omega)
                have d5 : decide (4294967296 ≤ g) = false := decide_eq_false (by omega)
                clear hd hg hu hgr
                go_wp2_with fail
                go_quiet (fail)
                go_wp2_with fail
                go_roundw
                case rel => exact ⟨k + 1, by go_num, by omega, HNX.out.drewN _⟩
                case measure => simp [intOf]; omega
              · obtain rfl : R = false := HR.out.symm.trans (ok_cel hkn (.inr (by rw [hg]; omega)))
                have hgc : decide (g < 0) = true ∨ (decide (g < 0) = false ∧ decide (4294967296 ≤ g) = true) := by
                  simp only [decide_eq_true_eq, decide_eq_false_iff_not]
                  omega
                clear hd hg hu hgr
                rcases hgc with d4 | ⟨d4, d5⟩
                all_goals
                  go_wp2_with fail
                  go_quiet (fail)
                  go_wp2_with fail
                  go_ret
                  exact ⟨rfl, below_drewN HW.out.s.low _⟩
          · obtain rfl : k = n := by omega
            obtain rfl : R = true := HR.out.symm.trans (hw.ok HN.out HM.out HT.out)
            clear hw
            go_wp2_with fail
            go_ret
            exact ⟨rfl, HW.out.s.low⟩
  · obtain rfl : R = false := HR.out.symm.trans (ok_top ht)
    clear ht
    rcases hcs with d1 | ⟨d1, d2⟩ | ⟨d1, d2, d3⟩
    all_goals
      go_enter Tryz.func64, Tryz.ntmps64
      go_wp2_with fail
      go_ret
      exact ⟨rfl, hb0⟩
end Go.Proofs.YtjibkgildfjjoaaGreatDoor

/- Layer 12: comparisons of lists, at every input. -/
namespace Go.Proofs.YtjibkgildfjjoaaGreatDoor
set_option linter.unusedVariables false
set_option linter.unusedSimpArgs false
open Go.RowKit Go.ChangeShapes Go.WideShapes Go.ChangeAt Go.Sort

set_option maxHeartbeats 1000000 in
theorem neqs_run (x y : Slt) (W : World) : (binOp .neq 96 (sv x) (sv y)).run Tryz.prog W = .ok (.bool (decide (x ≠ y))) W := by
  obtain ⟨a, b, c, d, e, f⟩ := x
  obtain ⟨g, h, i, j, k, l⟩ := y
  by_cases h1 : a = g
  case neg => simp [go_sem, h1]
  by_cases h2 : b = h
  case neg => simp [go_sem, h1, h2]
  by_cases h3 : c = i
  case neg => simp [go_sem, h1, h2, h3]
  by_cases h4 : d = j
  case neg => simp [go_sem, h1, h2, h3, h4]
  by_cases h5 : e = k
  case neg => simp [go_sem, h1, h2, h3, h4, h5]
  by_cases h6 : f = l
  case neg => simp [go_sem, h1, h2, h3, h4, h5, h6]
  subst h1 h2 h3 h4 h5 h6
  simp [go_sem]
set_option maxHeartbeats 1000000 in
set_option maxRecDepth 100000 in
theorem svals_z {A A2 : Option Addr} {l k : List V} {B B' n m : Nat} (c c2 : Nat) (w : World) (hn : l.length = n) (hm : k.length = m) (h1 : VAt w B A l) (h2 : VAt w B' A2 k) (hl : n ≤ 100000) (hk : m ≤ 100000) :
    Calls Tryz.prog 97 #[.slice A n c, .slice A2 m c2] w fun e w' => e = .returned (.bool (decide (l = k))) ∧ Below w.heap.size w w' := by
  subst hn hm
  have H1 := Lib.hid h1
  have H2 := Lib.hid h2
  clear h1 h2
  by_cases hlen : l.length = k.length
  · have hl2 : (l.length : Int) ≤ 100000 := by omega
    have ne : ((l.length : Int) != (k.length : Int)) = false := by simp [hlen]
    have HLN := Lib.hid hlen
    obtain ⟨R, hR⟩ : ∃ R : Bool, R = decide (l = k) := ⟨_, rfl⟩
    rw [← hR]
    have HR := Lib.hid hR
    clear hR hlen
    go_enter Tryz.func97, Tryz.ntmps97
    go_wp2_with fail
    go_loopw [13] (fun iv W => ∃ j : Nat, iv = .int .i64 j ∧ j ≤ l.length ∧ l.take j = k.take j ∧ Below w.heap.size w W) (fun iv _ => l.length - (intOf iv).toNat)
    case atStart => exact ⟨0, rfl, by omega, by simp, Below.refl _ _⟩
    case round =>
      obtain ⟨j, rfl, hj, htk, hw⟩ := hrel
      have HTK := Lib.hid htk
      clear htk
      by_cases hlt : j < l.length
      · have hltk : j < k.length := by have := HLN.out; omega
        obtain ⟨b1, off1, rfl, _, hc1⟩ := H1.out (by omega)
        obtain ⟨b2, off2, rfl, _, hc2⟩ := H2.out (by omega)
        obtain ⟨a0, a1⟩ := hc1 j hlt
        obtain ⟨d0, d1⟩ := hc2 j hltk
        have lb1 := block_lt_of_cell a0
        replace a0 := (hw.cell (p := ⟨b1, off1 + j * 2, none⟩) lb1).trans a0
        replace a1 := (hw.cell (p := ⟨b1, off1 + j * 2 + 1, none⟩) lb1).trans a1
        have lb2 := block_lt_of_cell d0
        replace d0 := (hw.cell (p := ⟨b2, off2 + j * 2, none⟩) lb2).trans d0
        replace d1 := (hw.cell (p := ⟨b2, off2 + j * 2 + 1, none⟩) lb2).trans d1
        clear hc1 hc2
        have T1 := Lib.hid (List.take_succ_eq_append_getElem hlt)
        have T2 := Lib.hid (List.take_succ_eq_append_getElem hltk)
        have G1 := Lib.hid (List.getElem?_eq_getElem hlt)
        have G2 := Lib.hid (List.getElem?_eq_getElem hltk)
        have hlt2 : (j : Int) < l.length := by omega
        have hltk2 : (j : Int) < k.length := by omega
        have hj0 : (0 : Int) ≤ j := Int.natCast_nonneg j
        generalize l[j] = v at *
        generalize k[j] = u at *
        by_cases hvu : v = u
        · subst hvu
          have NE : ∀ W, (binOp .neq 38 (gv v.1 v.2) (gv v.1 v.2)).run Tryz.prog W = .ok (.bool false) W := fun W => by rw [neqv_run]; simp
          go_wp2_with fail
          go_quiet (fail)
          go_wp2_with fail
          go_roundw
          case rel => exact ⟨j + 1, by go_num, by omega, by rw [T1.out, T2.out, HTK.out], below_drewN hw _⟩
          case measure => simp [intOf]; omega
        · have NE : ∀ W, (binOp .neq 38 (gv v.1 v.2) (gv u.1 u.2)).run Tryz.prog W = .ok (.bool true) W := fun W => by rw [neqv_run, decide_eq_true (show (v.1, v.2) ≠ (u.1, u.2) from hvu)]
          have hno : R = false := by
            rw [HR.out]
            refine decide_eq_false fun e => hvu ?_
            have g1 := G1.out
            rw [e, G2.out] at g1
            exact (Option.some.inj g1).symm
          subst hno
          clear hvu
          go_wp2_with fail
          go_quiet (fail)
          go_wp2_with fail
          go_ret
          exact ⟨rfl, below_drewN hw _⟩
      · obtain rfl : j = l.length := by omega
        have hyes : R = true := by
          rw [HR.out]
          refine decide_eq_true ?_
          have := HTK.out
          rwa [List.take_length, List.take_of_length_le (by rw [HLN.out]; exact Nat.le_refl _)] at this
        subst hyes
        go_wp2_with fail
        go_ret
        exact ⟨rfl, hw⟩
  · have ne : ((l.length : Int) != (k.length : Int)) = true := by simpa using fun e : (l.length : Int) = k.length => hlen (by omega)
    have hno : decide (l = k) = false := decide_eq_false fun e => hlen (by rw [e])
    rw [hno]
    clear hno hlen
    go_enter Tryz.func97, Tryz.ntmps97
    go_wp2_with fail
    go_ret
    exact ⟨rfl, Below.refl _ _⟩
set_option maxHeartbeats 1000000 in
set_option maxRecDepth 100000 in
theorem sslots_z {A A2 : Option Addr} {l k : List Slt} {B B' n m : Nat} (c c2 : Nat) (w : World) (hn : l.length = n) (hm : k.length = m) (h1 : SAt w B A l) (h2 : SAt w B' A2 k) (hl : n ≤ 100000) (hk : m ≤ 100000) :
    Calls Tryz.prog 98 #[.slice A n c, .slice A2 m c2] w fun e w' => e = .returned (.bool (decide (l = k))) ∧ Below w.heap.size w w' := by
  subst hn hm
  have H1 := Lib.hid h1
  have H2 := Lib.hid h2
  clear h1 h2
  by_cases hlen : l.length = k.length
  · have hl2 : (l.length : Int) ≤ 100000 := by omega
    have ne : ((l.length : Int) != (k.length : Int)) = false := by simp [hlen]
    have HLN := Lib.hid hlen
    obtain ⟨R, hR⟩ : ∃ R : Bool, R = decide (l = k) := ⟨_, rfl⟩
    rw [← hR]
    have HR := Lib.hid hR
    clear hR hlen
    go_enter Tryz.func98, Tryz.ntmps98
    go_wp2_with fail
    go_loopw [13] (fun iv W => ∃ j : Nat, iv = .int .i64 j ∧ j ≤ l.length ∧ l.take j = k.take j ∧ Below w.heap.size w W) (fun iv _ => l.length - (intOf iv).toNat)
    case atStart => exact ⟨0, rfl, by omega, by simp, Below.refl _ _⟩
    case round =>
      obtain ⟨j, rfl, hj, htk, hw⟩ := hrel
      have HTK := Lib.hid htk
      clear htk
      by_cases hlt : j < l.length
      · have hltk : j < k.length := by have := HLN.out; omega
        obtain ⟨b1, off1, rfl, _, hc1⟩ := H1.out (by omega)
        obtain ⟨b2, off2, rfl, _, hc2⟩ := H2.out (by omega)
        obtain ⟨a0, a1, a2, a3, a4, a5⟩ := hc1 j hlt
        obtain ⟨d0, d1, d2, d3, d4, d5⟩ := hc2 j hltk
        have lb1 := block_lt_of_cell a0
        replace a0 := (hw.cell (p := ⟨b1, off1 + j * 6, none⟩) lb1).trans a0
        replace a1 := (hw.cell (p := ⟨b1, off1 + j * 6 + 1, none⟩) lb1).trans a1
        replace a2 := (hw.cell (p := ⟨b1, off1 + j * 6 + 2, none⟩) lb1).trans a2
        replace a3 := (hw.cell (p := ⟨b1, off1 + j * 6 + 3, none⟩) lb1).trans a3
        replace a4 := (hw.cell (p := ⟨b1, off1 + j * 6 + 4, none⟩) lb1).trans a4
        replace a5 := (hw.cell (p := ⟨b1, off1 + j * 6 + 5, none⟩) lb1).trans a5
        have lb2 := block_lt_of_cell d0
        replace d0 := (hw.cell (p := ⟨b2, off2 + j * 6, none⟩) lb2).trans d0
        replace d1 := (hw.cell (p := ⟨b2, off2 + j * 6 + 1, none⟩) lb2).trans d1
        replace d2 := (hw.cell (p := ⟨b2, off2 + j * 6 + 2, none⟩) lb2).trans d2
        replace d3 := (hw.cell (p := ⟨b2, off2 + j * 6 + 3, none⟩) lb2).trans d3
        replace d4 := (hw.cell (p := ⟨b2, off2 + j * 6 + 4, none⟩) lb2).trans d4
        replace d5 := (hw.cell (p := ⟨b2, off2 + j * 6 + 5, none⟩) lb2).trans d5
        clear hc1 hc2
        have T1 := Lib.hid (List.take_succ_eq_append_getElem hlt)
        have T2 := Lib.hid (List.take_succ_eq_append_getElem hltk)
        have G1 := Lib.hid (List.getElem?_eq_getElem hlt)
        have G2 := Lib.hid (List.getElem?_eq_getElem hltk)
        have hlt2 : (j : Int) < l.length := by omega
        have hltk2 : (j : Int) < k.length := by omega
        have hj0 : (0 : Int) ≤ j := Int.natCast_nonneg j
        generalize l[j] = v at *
        generalize k[j] = u at *
        by_cases hvu : v = u
        · subst hvu
          have NE : ∀ W, (binOp .neq 96 (sv v) (sv v)).run Tryz.prog W = .ok (.bool false) W := fun W => by rw [neqs_run]; simp
          go_wp2_with fail
          go_quiet (fail)
          go_wp2_with fail
          go_roundw
          case rel => exact ⟨j + 1, by go_num, by omega, by rw [T1.out, T2.out, HTK.out], below_drewN hw _⟩
          case measure => simp [intOf]; omega
        · have NE : ∀ W, (binOp .neq 96 (sv v) (sv u)).run Tryz.prog W = .ok (.bool true) W := fun W => by rw [neqs_run, decide_eq_true hvu]
          have hno : R = false := by
            rw [HR.out]
            refine decide_eq_false fun e => hvu ?_
            have g1 := G1.out
            rw [e, G2.out] at g1
            exact (Option.some.inj g1).symm
          subst hno
          clear hvu
          go_wp2_with fail
          go_quiet (fail)
          go_wp2_with fail
          go_ret
          exact ⟨rfl, below_drewN hw _⟩
      · obtain rfl : j = l.length := by omega
        have hyes : R = true := by
          rw [HR.out]
          refine decide_eq_true ?_
          have := HTK.out
          rwa [List.take_length, List.take_of_length_le (by rw [HLN.out]; exact Nat.le_refl _)] at this
        subst hyes
        go_wp2_with fail
        go_ret
        exact ⟨rfl, hw⟩
  · have ne : ((l.length : Int) != (k.length : Int)) = true := by simpa using fun e : (l.length : Int) = k.length => hlen (by omega)
    have hno : decide (l = k) = false := decide_eq_false fun e => hlen (by rw [e])
    rw [hno]
    clear hno hlen
    go_enter Tryz.func98, Tryz.ntmps98
    go_wp2_with fail
    go_ret
    exact ⟨rfl, Below.refl _ _⟩
set_option maxHeartbeats 1000000 in
set_option maxRecDepth 100000 in
theorem sints_z {A A2 : Option Addr} {l k : List Int} {B B' n m : Nat} (c c2 : Nat) (w : World) (hn : l.length = n) (hm : k.length = m) (h1 : IAt w B A l) (h2 : IAt w B' A2 k) (hl : n ≤ 100000) (hk : m ≤ 100000) :
    Calls Tryz.prog 76 #[.slice A n c, .slice A2 m c2] w fun e w' => e = .returned (.bool (decide (l = k))) ∧ Below w.heap.size w w' := by
  subst hn hm
  have H1 := Lib.hid h1
  have H2 := Lib.hid h2
  clear h1 h2
  by_cases hlen : l.length = k.length
  · have hl2 : (l.length : Int) ≤ 100000 := by omega
    have ne : ((l.length : Int) != (k.length : Int)) = false := by simp [hlen]
    have HLN := Lib.hid hlen
    obtain ⟨R, hR⟩ : ∃ R : Bool, R = decide (l = k) := ⟨_, rfl⟩
    rw [← hR]
    have HR := Lib.hid hR
    clear hR hlen
    go_enter Tryz.func76, Tryz.ntmps76
    go_wp2_with fail
    go_loopw [13] (fun iv W => ∃ j : Nat, iv = .int .i64 j ∧ j ≤ l.length ∧ l.take j = k.take j ∧ Below w.heap.size w W) (fun iv _ => l.length - (intOf iv).toNat)
    case atStart => exact ⟨0, rfl, by omega, by simp, Below.refl _ _⟩
    case round =>
      obtain ⟨j, rfl, hj, htk, hw⟩ := hrel
      have HTK := Lib.hid htk
      clear htk
      by_cases hlt : j < l.length
      · have hltk : j < k.length := by have := HLN.out; omega
        obtain ⟨b1, off1, rfl, _, hc1⟩ := H1.out (by omega)
        obtain ⟨b2, off2, rfl, _, hc2⟩ := H2.out (by omega)
        have a0 := hc1 j hlt
        have d0 := hc2 j hltk
        have lb1 := block_lt_of_cell a0
        replace a0 := (hw.cell (p := ⟨b1, off1 + j, none⟩) lb1).trans a0
        have lb2 := block_lt_of_cell d0
        replace d0 := (hw.cell (p := ⟨b2, off2 + j, none⟩) lb2).trans d0
        clear hc1 hc2
        have T1 := Lib.hid (List.take_succ_eq_append_getElem hlt)
        have T2 := Lib.hid (List.take_succ_eq_append_getElem hltk)
        have G1 := Lib.hid (List.getElem?_eq_getElem hlt)
        have G2 := Lib.hid (List.getElem?_eq_getElem hltk)
        have hlt2 : (j : Int) < l.length := by omega
        have hltk2 : (j : Int) < k.length := by omega
        have hj0 : (0 : Int) ≤ j := Int.natCast_nonneg j
        generalize l[j] = v at *
        generalize k[j] = u at *
        by_cases hvu : v = u
        · subst hvu
          have NE : (v != v) = false := by simp
          go_wp2_with fail
          go_quiet (fail)
          go_wp2_with fail
          go_roundw
          case rel => exact ⟨j + 1, by go_num, by omega, by rw [T1.out, T2.out, HTK.out], below_drewN hw _⟩
          case measure => simp [intOf]; omega
        · have NE : (v != u) = true := by simpa using hvu
          have hno : R = false := by
            rw [HR.out]
            refine decide_eq_false fun e => hvu ?_
            have g1 := G1.out
            rw [e, G2.out] at g1
            exact (Option.some.inj g1).symm
          subst hno
          clear hvu
          go_wp2_with fail
          go_quiet (fail)
          go_wp2_with fail
          go_ret
          exact ⟨rfl, below_drewN hw _⟩
      · obtain rfl : j = l.length := by omega
        have hyes : R = true := by
          rw [HR.out]
          refine decide_eq_true ?_
          have := HTK.out
          rwa [List.take_length, List.take_of_length_le (by rw [HLN.out]; exact Nat.le_refl _)] at this
        subst hyes
        go_wp2_with fail
        go_ret
        exact ⟨rfl, hw⟩
  · have ne : ((l.length : Int) != (k.length : Int)) = true := by simpa using fun e : (l.length : Int) = k.length => hlen (by omega)
    have hno : decide (l = k) = false := decide_eq_false fun e => hlen (by rw [e])
    rw [hno]
    clear hno hlen
    go_enter Tryz.func76, Tryz.ntmps76
    go_wp2_with fail
    go_ret
    exact ⟨rfl, Below.refl _ _⟩
set_option maxHeartbeats 1000000 in
set_option maxRecDepth 100000 in
theorem rvals_z {A A2 : Option Addr} {l k : List V} {B B' n m : Nat} (c c2 : Nat) (w : World) (hn : l.length = n) (hm : k.length = m) (h1 : VAt w B A l) (h2 : VAt w B' A2 k) (hl : n ≤ 100000) (hk : m ≤ 100000) :
    Calls Tryz.prog 53 #[.slice A n c, .slice A2 m c2] w fun e w' => e = .returned (.bool (decide (l = k))) ∧ Below w.heap.size w w' := by
  subst hn hm
  have H1 := Lib.hid h1
  have H2 := Lib.hid h2
  clear h1 h2
  by_cases hlen : l.length = k.length
  · have hl2 : (l.length : Int) ≤ 100000 := by omega
    have ne : ((l.length : Int) != (k.length : Int)) = false := by simp [hlen]
    have HLN := Lib.hid hlen
    obtain ⟨R, hR⟩ : ∃ R : Bool, R = decide (l = k) := ⟨_, rfl⟩
    rw [← hR]
    have HR := Lib.hid hR
    clear hR hlen
    go_enter Tryz.func53, Tryz.ntmps53
    go_wp2_with fail
    go_loopw [5] (fun iv W => ∃ j : Nat, iv = .int .i64 j ∧ j ≤ l.length ∧ l.take j = k.take j ∧ Below w.heap.size w W) (fun iv _ => l.length - (intOf iv).toNat)
    case atStart => exact ⟨0, rfl, by omega, by simp, Below.refl _ _⟩
    case round =>
      obtain ⟨j, rfl, hj, htk, hw⟩ := hrel
      have HTK := Lib.hid htk
      clear htk
      by_cases hlt : j < l.length
      · have hltk : j < k.length := by have := HLN.out; omega
        obtain ⟨b1, off1, rfl, _, hc1⟩ := H1.out (by omega)
        obtain ⟨b2, off2, rfl, _, hc2⟩ := H2.out (by omega)
        obtain ⟨a0, a1⟩ := hc1 j hlt
        obtain ⟨d0, d1⟩ := hc2 j hltk
        have lb1 := block_lt_of_cell a0
        replace a0 := (hw.cell (p := ⟨b1, off1 + j * 2, none⟩) lb1).trans a0
        replace a1 := (hw.cell (p := ⟨b1, off1 + j * 2 + 1, none⟩) lb1).trans a1
        have lb2 := block_lt_of_cell d0
        replace d0 := (hw.cell (p := ⟨b2, off2 + j * 2, none⟩) lb2).trans d0
        replace d1 := (hw.cell (p := ⟨b2, off2 + j * 2 + 1, none⟩) lb2).trans d1
        clear hc1 hc2
        have T1 := Lib.hid (List.take_succ_eq_append_getElem hlt)
        have T2 := Lib.hid (List.take_succ_eq_append_getElem hltk)
        have G1 := Lib.hid (List.getElem?_eq_getElem hlt)
        have G2 := Lib.hid (List.getElem?_eq_getElem hltk)
        have hlt2 : (j : Int) < l.length := by omega
        have hltk2 : (j : Int) < k.length := by omega
        have hj0 : (0 : Int) ≤ j := Int.natCast_nonneg j
        generalize l[j] = v at *
        generalize k[j] = u at *
        by_cases hvu : v = u
        · subst hvu
          have NE : ∀ W, (binOp .neq 38 (gv v.1 v.2) (gv v.1 v.2)).run Tryz.prog W = .ok (.bool false) W := fun W => by rw [neqv_run]; simp
          go_wp2_with fail
          go_quiet (fail)
          go_wp2_with fail
          go_roundw
          case rel => exact ⟨j + 1, by go_num, by omega, by rw [T1.out, T2.out, HTK.out], below_drewN hw _⟩
          case measure => simp [intOf]; omega
        · have NE : ∀ W, (binOp .neq 38 (gv v.1 v.2) (gv u.1 u.2)).run Tryz.prog W = .ok (.bool true) W := fun W => by rw [neqv_run, decide_eq_true (show (v.1, v.2) ≠ (u.1, u.2) from hvu)]
          have hno : R = false := by
            rw [HR.out]
            refine decide_eq_false fun e => hvu ?_
            have g1 := G1.out
            rw [e, G2.out] at g1
            exact (Option.some.inj g1).symm
          subst hno
          clear hvu
          go_wp2_with fail
          go_quiet (fail)
          go_wp2_with fail
          go_ret
          exact ⟨rfl, below_drewN hw _⟩
      · obtain rfl : j = l.length := by omega
        have hyes : R = true := by
          rw [HR.out]
          refine decide_eq_true ?_
          have := HTK.out
          rwa [List.take_length, List.take_of_length_le (by rw [HLN.out]; exact Nat.le_refl _)] at this
        subst hyes
        go_wp2_with fail
        go_ret
        exact ⟨rfl, hw⟩
  · have ne : ((l.length : Int) != (k.length : Int)) = true := by simpa using fun e : (l.length : Int) = k.length => hlen (by omega)
    have hno : decide (l = k) = false := decide_eq_false fun e => hlen (by rw [e])
    rw [hno]
    clear hno hlen
    go_enter Tryz.func53, Tryz.ntmps53
    go_wp2_with fail
    go_ret
    exact ⟨rfl, Below.refl _ _⟩
set_option maxHeartbeats 1000000 in
set_option maxRecDepth 100000 in
theorem rints_z {A A2 : Option Addr} {l k : List Int} {B B' n m : Nat} (c c2 : Nat) (w : World) (hn : l.length = n) (hm : k.length = m) (h1 : IAt w B A l) (h2 : IAt w B' A2 k) (hl : n ≤ 100000) (hk : m ≤ 100000) :
    Calls Tryz.prog 69 #[.slice A n c, .slice A2 m c2] w fun e w' => e = .returned (.bool (decide (l = k))) ∧ Below w.heap.size w w' := by
  subst hn hm
  have H1 := Lib.hid h1
  have H2 := Lib.hid h2
  clear h1 h2
  by_cases hlen : l.length = k.length
  · have hl2 : (l.length : Int) ≤ 100000 := by omega
    have ne : ((l.length : Int) != (k.length : Int)) = false := by simp [hlen]
    have HLN := Lib.hid hlen
    obtain ⟨R, hR⟩ : ∃ R : Bool, R = decide (l = k) := ⟨_, rfl⟩
    rw [← hR]
    have HR := Lib.hid hR
    clear hR hlen
    go_enter Tryz.func69, Tryz.ntmps69
    go_wp2_with fail
    go_loopw [5] (fun iv W => ∃ j : Nat, iv = .int .i64 j ∧ j ≤ l.length ∧ l.take j = k.take j ∧ Below w.heap.size w W) (fun iv _ => l.length - (intOf iv).toNat)
    case atStart => exact ⟨0, rfl, by omega, by simp, Below.refl _ _⟩
    case round =>
      obtain ⟨j, rfl, hj, htk, hw⟩ := hrel
      have HTK := Lib.hid htk
      clear htk
      by_cases hlt : j < l.length
      · have hltk : j < k.length := by have := HLN.out; omega
        obtain ⟨b1, off1, rfl, _, hc1⟩ := H1.out (by omega)
        obtain ⟨b2, off2, rfl, _, hc2⟩ := H2.out (by omega)
        have a0 := hc1 j hlt
        have d0 := hc2 j hltk
        have lb1 := block_lt_of_cell a0
        replace a0 := (hw.cell (p := ⟨b1, off1 + j, none⟩) lb1).trans a0
        have lb2 := block_lt_of_cell d0
        replace d0 := (hw.cell (p := ⟨b2, off2 + j, none⟩) lb2).trans d0
        clear hc1 hc2
        have T1 := Lib.hid (List.take_succ_eq_append_getElem hlt)
        have T2 := Lib.hid (List.take_succ_eq_append_getElem hltk)
        have G1 := Lib.hid (List.getElem?_eq_getElem hlt)
        have G2 := Lib.hid (List.getElem?_eq_getElem hltk)
        have hlt2 : (j : Int) < l.length := by omega
        have hltk2 : (j : Int) < k.length := by omega
        have hj0 : (0 : Int) ≤ j := Int.natCast_nonneg j
        generalize l[j] = v at *
        generalize k[j] = u at *
        by_cases hvu : v = u
        · subst hvu
          have NE : (v != v) = false := by simp
          go_wp2_with fail
          go_quiet (fail)
          go_wp2_with fail
          go_roundw
          case rel => exact ⟨j + 1, by go_num, by omega, by rw [T1.out, T2.out, HTK.out], below_drewN hw _⟩
          case measure => simp [intOf]; omega
        · have NE : (v != u) = true := by simpa using hvu
          have hno : R = false := by
            rw [HR.out]
            refine decide_eq_false fun e => hvu ?_
            have g1 := G1.out
            rw [e, G2.out] at g1
            exact (Option.some.inj g1).symm
          subst hno
          clear hvu
          go_wp2_with fail
          go_quiet (fail)
          go_wp2_with fail
          go_ret
          exact ⟨rfl, below_drewN hw _⟩
      · obtain rfl : j = l.length := by omega
        have hyes : R = true := by
          rw [HR.out]
          refine decide_eq_true ?_
          have := HTK.out
          rwa [List.take_length, List.take_of_length_le (by rw [HLN.out]; exact Nat.le_refl _)] at this
        subst hyes
        go_wp2_with fail
        go_ret
        exact ⟨rfl, hw⟩
  · have ne : ((l.length : Int) != (k.length : Int)) = true := by simpa using fun e : (l.length : Int) = k.length => hlen (by omega)
    have hno : decide (l = k) = false := decide_eq_false fun e => hlen (by rw [e])
    rw [hno]
    clear hno hlen
    go_enter Tryz.func69, Tryz.ntmps69
    go_wp2_with fail
    go_ret
    exact ⟨rfl, Below.refl _ _⟩
end Go.Proofs.YtjibkgildfjjoaaGreatDoor

