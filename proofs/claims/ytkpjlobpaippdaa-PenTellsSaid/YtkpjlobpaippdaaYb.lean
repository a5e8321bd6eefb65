/- Layer 12: what a call leaves; New; whether a ref has a cell. -/
import Derived.Test.YtkpjlobpaippdaaYq
import Derived.Test.YtkpjlobpaippdaaQt
import Derived.Deep.RegionHeld3
import Derived.BigQuiet
namespace Go.Proofs.Ytkpjlobpaippdaa
set_option linter.unusedVariables false
set_option linter.unusedSimpArgs false
open Go.RowKit Go.ChangeShapes Go.WideShapes Go.ChangeAt Go.Sort

theorem results_c0 {P : Program} {fn : Func} {p : Tmp} {ty1 : TypeId} (h : fn.results = #[.cell p ty1]) (tmps : Array Value) (w : World) {a1 : Addr} {v1 : Value} (hp : tmps.getD p undef = .pointer (some a1)) (l1 : (loadVar ty1 a1).run P w = .ok v1 w) : (results fn tmps).run P w = .ok v1 w := by
  have hp' : tmps[p]?.getD undef = .pointer (some a1) := by simpa using hp
  simp [results, h, hp', asAddr, l1]
theorem results_ct0 {P : Program} {fn : Func} {p q : Tmp} {ty1 : TypeId} (h : fn.results = #[.cell p ty1, .tmp q]) (tmps : Array Value) (w : World) {a1 : Addr} {v1 v2 : Value} (hp : tmps.getD p undef = .pointer (some a1)) (hq : tmps.getD q undef = v2)
    (l1 : (loadVar ty1 a1).run P w = .ok v1 w) : (results fn tmps).run P w = .ok (.tuple #[v1, v2]) w := by
  have hp' : tmps[p]?.getD undef = .pointer (some a1) := by simpa using hp
  have hq' : tmps[q]?.getD undef = v2 := by simpa using hq
  simp [results, h, hp', hq', asAddr, l1]
theorem results_cct {P : Program} {fn : Func} {p q t : Tmp} {ty1 ty2 : TypeId} (h : fn.results = #[.cell p ty1, .cell q ty2, .tmp t]) (tmps : Array Value) (w : World) {a1 a2 : Addr} {v1 v2 v3 : Value} (hp : tmps.getD p undef = .pointer (some a1)) (hq : tmps.getD q undef = .pointer (some a2)) (ht : tmps.getD t undef = v3)
    (l1 : (loadVar ty1 a1).run P w = .ok v1 w) (l2 : (loadVar ty2 a2).run P w = .ok v2 w) : (results fn tmps).run P w = .ok (.tuple #[v1, v2, v3]) w := by
  have hp' : tmps[p]?.getD undef = .pointer (some a1) := by simpa using hp
  have hq' : tmps[q]?.getD undef = .pointer (some a2) := by simpa using hq
  have ht' : tmps[t]?.getD undef = v3 := by simpa using ht
  simp [results, h, hp', hq', ht', asAddr, l1, l2]
theorem load_pen {w : World} {g : Nat} {cs : Array Value} (h : Held w g 25 cs) (hs : cs.size = 3) : (loadVar 25 ⟨g, 0, none⟩).run Try.prog w = .ok (.agg cs) w :=
  run_loadVar_row (P := Try.prog) _ g 25 25 _ (0, 0) _ h Try.underlying25 rfl (by rw [hs]; kernel_rfl)
theorem load_ref {w : World} {g : Nat} {cs : Array Value} (h : Held w g 27 cs) (hs : cs.size = 2) : (loadVar 27 ⟨g, 0, none⟩).run Try.prog w = .ok (.agg cs) w :=
  run_loadVar_row (P := Try.prog) _ g 27 27 _ (0, 0) _ h Try.underlying27 rfl (by rw [hs]; kernel_rfl)
theorem load_frm {w : World} {g : Nat} {cs : Array Value} (h : Held w g 35 cs) (hs : cs.size = 16) : (loadVar 35 ⟨g, 0, none⟩).run Try.prog w = .ok (.agg cs) w :=
  run_loadVar_row (P := Try.prog) _ g 35 35 _ (0, 0) _ h Try.underlying35 rfl (by rw [hs]; kernel_rfl)
theorem load_cel {w : World} {g : Nat} {cs : Array Value} (h : Held w g 62 cs) (hs : cs.size = 18) : (loadVar 62 ⟨g, 0, none⟩).run Try.prog w = .ok (.agg cs) w :=
  run_loadVar_row (P := Try.prog) _ g 62 62 _ (0, 0) _ h Try.underlying62 rfl (by rw [hs]; kernel_rfl)
abbrev refc (x y : Int) : Array Value := #[.int .i64 x, .int .i64 y]
abbrev fzc : Array Value := #[.int .i64 0, .int .i64 0, .slice none 0 0, .slice none 0 0, .slice none 0 0, .int .i64 0, .int .i64 0, .int .i64 0, .int .i64 0, .int .i64 0, .int .i64 0, .int .i64 0, .int .i64 0, .int .i64 0, .int .i64 0, .int .i64 0]
/-- What stands in a pen's place, with its cells known. -/
theorem has_of {p : Zp} {j : Nat} (hj : j < p.cells.length) (x : Int) : hasZ p ((j : Int), x) = (p.cells[j].used && decide (p.cells[j].gen = x)) := by
  rw [Bool.eq_iff_iff, hasZ_iff]
  simp only [Bool.and_eq_true, decide_eq_true_eq]
  constructor
  · rintro ⟨i, hi, e, h1, h2⟩
    obtain rfl : i = j := by simp only at e; omega
    exact ⟨h1, h2⟩
  · rintro ⟨h1, h2⟩
    exact ⟨j, hj, rfl, h1, h2⟩
theorem has_low {p : Zp} {r : V} (h : r.1 < 0 ∨ (p.cells.length : Int) ≤ r.1) : hasZ p r = false := hasZ_no (by
  rintro ⟨i, hi, e, _⟩
  omega)
set_option maxHeartbeats 2000000 in
set_option maxRecDepth 100000 in
theorem new_z (m : Int) (w : World) : Calls Try.prog 20 #[.int .i64 m] w fun e w' => e = .returned (.tuple #[pv none 0 0 none 0 0 (newZ m).1.most, .bool (newZ m).2]) ∧ Below w.heap.size w w' := by
  have g4 := Held.new w 25 pz0
  have hb0 : Below w.heap.size w (w.alloc (.cells pz0 25)) := (Below.refl _ _).alloc (Nat.le_refl _) _
  by_cases h : 1 ≤ m ∧ m ≤ 1024
  · have e : newZ m = (⟨[], [], m⟩, true) := if_pos h
    rw [e]
    have c1 : decide (m < 1) = false := decide_eq_false (by omega)
    have c2 : decide (1024 < m) = false := decide_eq_false (by omega)
    clear h e
    go_enter Try.func20, Try.ntmps20
    go_upto_region 1 with (fail)
    generalize w.alloc (.cells pz0 25) = W0 at *
    go_wp2_with (guard_target = wpList _ _ _ (Oper.mk _ (Op.store 25 (.tmp 2) _) _ _ _ none :: _) _ _; refine wpList_store_row rfl 25 _ _ rfl w.heap.size (pc none 0 0 none 0 0 m) rfl rfl _ _ g4 (by kernel_rfl) rfl (by simp [Value.oneCell']) ?_)
    exact bodyPost_ret (results_ct0 rfl _ _ rfl rfl (load_pen (held_rowSelf g4 (pc none 0 0 none 0 0 m)) rfl)) rfl ⟨rfl, below_setRow hb0 (Nat.le_refl _) _⟩
  · have e : newZ m = (zp0, false) := if_neg h
    rw [e]
    have hcs : decide (m < 1) = true ∨ (decide (m < 1) = false ∧ decide (1024 < m) = true) := by
      simp only [decide_eq_true_eq, decide_eq_false_iff_not]
      omega
    clear h e
    rcases hcs with c1 | ⟨c1, c2⟩
    all_goals
      go_enter Try.func20, Try.ntmps20
      go_upto_region 1 with (fail)
      generalize w.alloc (.cells pz0 25) = W0 at *
      go_wp2_with (guard_target = wpList _ _ _ (Oper.mk _ (Op.store 25 (.tmp 2) _) _ _ _ none :: _) _ _; refine wpList_store_row rfl 25 _ _ rfl w.heap.size pz0 rfl rfl _ _ g4 (by kernel_rfl) rfl (by simp [Value.oneCell']) ?_)
      exact bodyPost_ret (results_ct0 rfl _ _ rfl rfl (load_pen (held_rowSelf g4 pz0) rfl)) rfl ⟨rfl, below_setRow hb0 (Nat.le_refl _) _⟩
set_option maxHeartbeats 2000000 in
set_option maxRecDepth 100000 in
theorem rnew_z (m : Int) (w : World) : Calls Try.prog 21 #[.int .i64 m] w fun e w' => e = .returned (.tuple #[pv none 0 0 none 0 0 (newZ m).1.most, .bool (newZ m).2]) ∧ Below w.heap.size w w' := by
  have g4 := Held.new w 25 pz0
  have hb0 : Below w.heap.size w (w.alloc (.cells pz0 25)) := (Below.refl _ _).alloc (Nat.le_refl _) _
  by_cases h : 1 ≤ m ∧ m ≤ 1024
  · have e : newZ m = (⟨[], [], m⟩, true) := if_pos h
    rw [e]
    have c1 : decide (m < 1) = false := decide_eq_false (by omega)
    have c2 : decide (1024 < m) = false := decide_eq_false (by omega)
    clear h e
    go_enter Try.func21, Try.ntmps21
    go_upto_region 1 with (fail)
    generalize w.alloc (.cells pz0 25) = W0 at *
    go_wp2_with (guard_target = wpList _ _ _ (Oper.mk _ (Op.store 25 (.tmp 2) _) _ _ _ none :: _) _ _; refine wpList_store_row rfl 25 _ _ rfl w.heap.size (pc none 0 0 none 0 0 m) rfl rfl _ _ g4 (by kernel_rfl) rfl (by simp [Value.oneCell']) ?_)
    exact bodyPost_ret (results_ct0 rfl _ _ rfl rfl (load_pen (held_rowSelf g4 (pc none 0 0 none 0 0 m)) rfl)) rfl ⟨rfl, below_setRow hb0 (Nat.le_refl _) _⟩
  · have e : newZ m = (zp0, false) := if_neg h
    rw [e]
    have hcs : decide (m < 1) = true ∨ (decide (m < 1) = false ∧ decide (1024 < m) = true) := by
      simp only [decide_eq_true_eq, decide_eq_false_iff_not]
      omega
    clear h e
    rcases hcs with c1 | ⟨c1, c2⟩
    all_goals
      go_enter Try.func21, Try.ntmps21
      go_upto_region 1 with (fail)
      generalize w.alloc (.cells pz0 25) = W0 at *
      go_wp2_with (guard_target = wpList _ _ _ (Oper.mk _ (Op.store 25 (.tmp 2) _) _ _ _ none :: _) _ _; refine wpList_store_row rfl 25 _ _ rfl w.heap.size pz0 rfl rfl _ _ g4 (by kernel_rfl) rfl (by simp [Value.oneCell']) ?_)
      exact bodyPost_ret (results_ct0 rfl _ _ rfl rfl (load_pen (held_rowSelf g4 pz0) rfl)) rfl ⟨rfl, below_setRow hb0 (Nat.le_refl _) _⟩
set_option maxHeartbeats 2000000 in
set_option maxRecDepth 100000 in
theorem has_z {A A2 : Option Addr} {p : Zp} {B n m : Nat} {t : Int} (c c2 : Nat) (r : V) (w : World) (hn : p.cells.length = n) (h : PAtZ w B A A2 p) (hB : B ≤ w.heap.size) (hl : n ≤ 3000) :
    Calls Try.prog 37 #[pv A n c A2 m c2 t, gv r.1 r.2] w fun e w' => e = .returned (.bool (hasZ p r)) ∧ Below w.heap.size w w' := by
  have hb0 := below2 w (.cells (pc A n c A2 m c2 t) 25) (.cells (refc r.1 r.2) 27)
  have g2 := (Held.new w 25 (pc A n c A2 m c2 t)).alloc (.cells (refc r.1 r.2) 27)
  have g3 := Held.new1 w (.cells (pc A n c A2 m c2 t) 25) 27 (refc r.1 r.2)
  have hc := h.cells.below hb0 hB
  obtain ⟨x, y⟩ := r
  simp only at *
  by_cases h0 : 0 ≤ x ∧ x < (n : Int)
  · obtain ⟨j, rfl⟩ : ∃ j : Nat, x = j := ⟨x.toNat, by omega⟩
    have hj : j < p.cells.length := by omega
    obtain ⟨b, off, rfl, -, cs, -, -, -, k0, k1, -, -⟩ := hc.cel hj
    have e := has_of hj y
    have d0 : decide (0 ≤ (j : Int)) = true := decide_eq_true (by omega)
    have d1 : decide ((j : Int) < (n : Int)) = true := decide_eq_true (by omega)
    have hjn : (j : Int) < n := by omega
    have hj0 : (0 : Int) ≤ j := by omega
    have hn2 : (n : Int) ≤ 3000 := by omega
    rw [e]
    generalize p.cells[j].gen = g at *
    generalize p.cells[j].used = u at *
    clear e hc h h0 hj hn hB
    cases u with
    | false =>
      go_enter Try.func37, Try.ntmps37
      go_upto_region 1 with (fail)
      generalize ((w.alloc (.cells (pc (some ⟨b, off, none⟩) n c A2 m c2 t) 25)).alloc (.cells (refc j y) 27)) = W0 at *
      have x0 := g2.cell 0
      have y0 := g3.cell 0
      have y1 := g3.cell 1
      simp at x0 y0 y1
      go_wp2_with fail
      go_quiet (fail)
      go_wp2_with fail
      go_ret
      exact ⟨rfl, below_drewN hb0 _⟩
    | true =>
      by_cases hg : g = y
      all_goals
        first
          | (have d2 : decide (g = y) = true := decide_eq_true hg)
          | (have d2 : decide (g = y) = false := decide_eq_false hg)
        have d3 : (g == y) = decide (g = y) := rfl
        rw [d2] at d3 ⊢
        go_enter Try.func37, Try.ntmps37
        go_upto_region 1 with (fail)
        generalize ((w.alloc (.cells (pc (some ⟨b, off, none⟩) n c A2 m c2 t) 25)).alloc (.cells (refc j y) 27)) = W0 at *
        have x0 := g2.cell 0
        have y0 := g3.cell 0
        have y1 := g3.cell 1
        simp at x0 y0 y1
        clear hg
        go_wp2_with fail
        go_quiet (fail)
        go_wp2_with fail
        go_ret
        exact ⟨rfl, below_drewN hb0 _⟩
  · rw [has_low (r := (x, y)) (by simp only; omega)]
    have hn2 : (n : Int) ≤ 3000 := by omega
    have hcs : decide (0 ≤ x) = false ∨ (decide (0 ≤ x) = true ∧ decide (x < (n : Int)) = false) := by
      simp only [decide_eq_true_eq, decide_eq_false_iff_not]
      omega
    clear h0 hc h
    rcases hcs with d0 | ⟨d0, d1⟩
    all_goals
      go_enter Try.func37, Try.ntmps37
      go_upto_region 1 with (fail)
      generalize ((w.alloc (.cells (pc A n c A2 m c2 t) 25)).alloc (.cells (refc x y) 27)) = W0 at *
      have x0 := g2.cell 0
      have y0 := g3.cell 0
      have y1 := g3.cell 1
      simp at x0 y0 y1
      go_wp2_with fail
      go_quiet (fail)
      go_wp2_with fail
      go_ret
      exact ⟨rfl, below_drewN hb0 _⟩
set_option maxHeartbeats 2000000 in
set_option maxRecDepth 100000 in
theorem rhas_z {A A2 : Option Addr} {p : Zp} {B n m : Nat} {t : Int} (c c2 : Nat) (r : V) (w : World) (hn : p.cells.length = n) (h : PAtZ w B A A2 p) (hB : B ≤ w.heap.size) (hl : n ≤ 3000) :
    Calls Try.prog 35 #[pv A n c A2 m c2 t, gv r.1 r.2] w fun e w' => e = .returned (.bool (hasZ p r)) ∧ Below w.heap.size w w' := by
  have hb0 := below2 w (.cells (pc A n c A2 m c2 t) 25) (.cells (refc r.1 r.2) 27)
  have g2 := (Held.new w 25 (pc A n c A2 m c2 t)).alloc (.cells (refc r.1 r.2) 27)
  have g3 := Held.new1 w (.cells (pc A n c A2 m c2 t) 25) 27 (refc r.1 r.2)
  have hc := h.cells.below hb0 hB
  obtain ⟨x, y⟩ := r
  simp only at *
  by_cases h0 : 0 ≤ x ∧ x < (n : Int)
  · obtain ⟨j, rfl⟩ : ∃ j : Nat, x = j := ⟨x.toNat, by omega⟩
    have hj : j < p.cells.length := by omega
    obtain ⟨b, off, rfl, -, cs, -, -, -, k0, k1, -, -⟩ := hc.cel hj
    have e := has_of hj y
    have d0 : decide (0 ≤ (j : Int)) = true := decide_eq_true (by omega)
    have d1 : decide ((j : Int) < (n : Int)) = true := decide_eq_true (by omega)
    have hjn : (j : Int) < n := by omega
    have hj0 : (0 : Int) ≤ j := by omega
    have hn2 : (n : Int) ≤ 3000 := by omega
    rw [e]
    generalize p.cells[j].gen = g at *
    generalize p.cells[j].used = u at *
    clear e hc h h0 hj hn hB
    cases u with
    | false =>
      go_enter Try.func35, Try.ntmps35
      go_upto_region 1 with (fail)
      generalize ((w.alloc (.cells (pc (some ⟨b, off, none⟩) n c A2 m c2 t) 25)).alloc (.cells (refc j y) 27)) = W0 at *
      have x0 := g2.cell 0
      have y0 := g3.cell 0
      have y1 := g3.cell 1
      simp at x0 y0 y1
      go_wp2_with fail
      go_quiet (fail)
      go_wp2_with fail
      go_ret
      exact ⟨rfl, below_drewN hb0 _⟩
    | true =>
      by_cases hg : g = y
      all_goals
        first
          | (have d2 : decide (g = y) = true := decide_eq_true hg)
          | (have d2 : decide (g = y) = false := decide_eq_false hg)
        have d3 : (g == y) = decide (g = y) := rfl
        rw [d2] at d3 ⊢
        go_enter Try.func35, Try.ntmps35
        go_upto_region 1 with (fail)
        generalize ((w.alloc (.cells (pc (some ⟨b, off, none⟩) n c A2 m c2 t) 25)).alloc (.cells (refc j y) 27)) = W0 at *
        have x0 := g2.cell 0
        have y0 := g3.cell 0
        have y1 := g3.cell 1
        simp at x0 y0 y1
        clear hg
        go_wp2_with fail
        go_quiet (fail)
        go_wp2_with fail
        go_ret
        exact ⟨rfl, below_drewN hb0 _⟩
  · rw [has_low (r := (x, y)) (by simp only; omega)]
    have hn2 : (n : Int) ≤ 3000 := by omega
    have hcs : decide (0 ≤ x) = false ∨ (decide (0 ≤ x) = true ∧ decide (x < (n : Int)) = false) := by
      simp only [decide_eq_true_eq, decide_eq_false_iff_not]
      omega
    clear h0 hc h
    rcases hcs with d0 | ⟨d0, d1⟩
    all_goals
      go_enter Try.func35, Try.ntmps35
      go_upto_region 1 with (fail)
      generalize ((w.alloc (.cells (pc A n c A2 m c2 t) 25)).alloc (.cells (refc x y) 27)) = W0 at *
      have x0 := g2.cell 0
      have y0 := g3.cell 0
      have y1 := g3.cell 1
      simp at x0 y0 y1
      go_wp2_with fail
      go_quiet (fail)
      go_wp2_with fail
      go_ret
      exact ⟨rfl, below_drewN hb0 _⟩
end Go.Proofs.Ytkpjlobpaippdaa
