/- Layer 4's code: conjugates, whether a value may be, quotients, powers, at every input. -/
import Derived.Test.YthnnmgjehpapiaaDoorGar
namespace Go.Proofs.YthnnmgjehpapiaaDoor
set_option linter.unusedVariables false
set_option linter.unusedSimpArgs false
open Go.RowKit Go.ChangeShapes Go.WideShapes Go.ChangeAt Gm Fl

/-- Block g holds just these cells. -/
def Held (W : World) (g : Nat) (t : TypeId) (cs : Array Value) : Prop := W.heap[g]? = some (.cells cs t (0, 0))
theorem Held.lt {W : World} {g : Nat} {t : TypeId} {cs : Array Value} (h : Held W g t cs) : g < W.heap.size := by
  rcases Nat.lt_or_ge g W.heap.size with hlt | hge
  · exact hlt
  · unfold Held at h; rw [Array.getElem?_eq_none hge] at h; cases h
theorem Held.cell {W : World} {g : Nat} {t : TypeId} {cs : Array Value} (h : Held W g t cs) (i : Nat) : W.cell? ⟨g, i, none⟩ = cs[i]? := cell_at h i
theorem Held.fz {W : World} {g : Nat} {t : TypeId} {cs : Array Value} (h : Held W g t cs) (i : Nat) : W.frozen? ⟨g, i, none⟩ = false := fz_at h i
theorem Held.new (W : World) (t : TypeId) (cs : Array Value) : Held (W.alloc (.cells cs t)) W.heap.size t cs := heap_alloc_last W _
theorem Held.new1 (W : World) (o : Obj) (t : TypeId) (cs : Array Value) : Held ((W.alloc o).alloc (.cells cs t)) (W.heap.size + 1) t cs := by
  have := heap_alloc_last (W.alloc o) (.cells cs t)
  unfold Held
  simpa using this
theorem Held.new2 (W : World) (o p : Obj) (t : TypeId) (cs : Array Value) : Held (((W.alloc o).alloc p).alloc (.cells cs t)) (W.heap.size + 1 + 1) t cs := by
  have := heap_alloc_last ((W.alloc o).alloc p) (.cells cs t)
  unfold Held
  simpa using this
theorem Held.below {W W' : World} {g : Nat} {t : TypeId} {cs : Array Value} (h : Held W g t cs) (hb : Below W.heap.size W W') : Held W' g t cs := (hb.block g h.lt).trans h
theorem Held.alloc {W : World} {g : Nat} {t : TypeId} {cs : Array Value} (h : Held W g t cs) (o : Obj) : Held (W.alloc o) g t cs := (Below.heap_alloc W o g h.lt).trans h
theorem Held.set {W : World} {g : Nat} {t : TypeId} {a b : Value} (h : Held W g t #[a, b]) (x y : Value) : Held ((W.setCell ⟨g, 0, none⟩ x).setCell ⟨g, 1, none⟩ y) g t #[x, y] := set2 h
theorem Held.far {W : World} {g k : Nat} {t : TypeId} {cs : Array Value} (h : Held W g t cs) (hk : g ≠ k) (i : Nat) (x : Value) : Held (W.setCell ⟨k, i, none⟩ x) g t cs := (Below.heap_setCell W ⟨k, i, none⟩ x g hk).trans h
theorem Held.two {W : World} {g : Nat} {t : TypeId} {a b : Value} (h : Held W g t #[a, b]) : W.cell? ⟨g, 0, none⟩ = some a ∧ W.cell? ⟨g, 1, none⟩ = some b ∧ W.frozen? ⟨g, 0, none⟩ = false ∧ W.frozen? ⟨g, 1, none⟩ = false :=
  ⟨h.cell 0, h.cell 1, h.fz 0, h.fz 1⟩
theorem below2 (w : World) (o p : Obj) : Below w.heap.size w ((w.alloc o).alloc p) := ((Below.refl _ _).alloc (Nat.le_refl _) _).alloc (by simp) _
theorem below3 (w : World) (o p q : Obj) : Below w.heap.size w (((w.alloc o).alloc p).alloc q) := (((Below.refl _ _).alloc (Nat.le_refl _) _).alloc (by simp) _).alloc (by simp; omega) _

set_option maxHeartbeats 1000000 in
theorem maypart_any (n : Int) (w : World) : Calls Tryd.prog 35 #[.int .i64 n] w fun e w' => e = .returned (.bool (decide (0 ≤ n) && decide (n < 251))) ∧ w = w' := by
  by_cases h : 0 ≤ n
  · by_cases h' : n < 251
    all_goals
      go_enter Tryd.func35, Tryd.ntmps35
      go_wp2_with fail
      go_ret
      simp [h, h']
  · go_enter Tryd.func35, Tryd.ntmps35
    go_wp2_with fail
    go_ret
    exact ⟨by rw [decide_eq_false (by omega : ¬ 0 ≤ n)]; rfl, rfl⟩

/-- Whether a value may be. -/
def mayB (a b : Int) : Bool := decide (0 ≤ a) && decide (a < 251) && (decide (0 ≤ b) && decide (b < 251))
set_option maxHeartbeats 1000000 in
theorem may_any (a b : Int) (w : World) : Calls Tryd.prog 25 #[.agg #[.int .i64 a, .int .i64 b]] w fun e w' => e = .returned (.bool (mayB a b)) ∧ Below w.heap.size w w' := by
  have C := fun n W => Lib.hid (maypart_any n W)
  go_enter Tryd.func25, Tryd.ntmps25
  go_wp2_with (go_at_call 35; refine (C _ _).out.mono ?_; rintro e v ⟨rfl, rfl⟩)
  · go_ret
    have hh : 0 ≤ a ∧ a < 251 := by assumption
    refine ⟨?_, (Below.refl _ _).alloc (Nat.le_refl _) _⟩
    rw [mayB, decide_eq_true hh.1, decide_eq_true hh.2]; simp
  · go_ret
    have hh : ¬(0 ≤ a ∧ a < 251) := by assumption
    refine ⟨?_, (Below.refl _ _).alloc (Nat.le_refl _) _⟩
    have : (decide (0 ≤ a) && decide (a < 251)) = false := by simpa using hh
    rw [mayB, this]; simp

set_option maxHeartbeats 1000000 in
theorem conj_any (a b : Int) (w : World) : Calls Tryd.prog 18 #[.agg #[.int .i64 a, .int .i64 b]] w fun e w' => e = .returned (.agg #[.int .i64 (gConj (a, b)).1, .int .i64 (gConj (a, b)).2]) ∧ Below w.heap.size w w' := by
  have C := fun n m W => Lib.hid (number_any n m W)
  have ra := rs_bd a
  have rb := rs_bd b
  have C2 := fun W => Lib.hid (value_any (fw (rs a)) (Op.negFloat .f64 (fw (rs b))) (to_int (by omega)) (neg_int rb.1 rb.2) W)
  clear ra rb
  have kn : ∀ w, (Op.unary .neg (.float .f64 (fw (rs b)))).run Tryd.prog w = .ok (.float .f64 (Op.negFloat .f64 (fw (rs b)))) w := fun w => rfl
  go_enter Tryd.func18, Tryd.ntmps18
  go_wp2_with (first
    | (go_at_call 29; refine (C _ _ _).out.mono ?_; rintro e v ⟨rfl, hb⟩; have hk := (Held.new1 w _ _ _).below hb; have hw := Below.step (below2 w _ _) hb; clear hb)
    | (go_at_call 32; refine (C2 _).out.mono ?_; rintro e v2 ⟨rfl, hb⟩; replace hk := hk.below hb; replace hw := Below.step hw hb; clear hb; obtain ⟨c0, c1, f0, f1⟩ := hk.two))
  replace hk := hk.set (.int .i64 (rs (rs a))) (.int .i64 (rs (-(rs b))))
  replace hw := set2b (k := w.heap.size + 1) (x := .int .i64 (rs (rs a))) (y := .int .i64 (rs (-(rs b)))) (by omega) hw
  generalize (v2.setCell _ _).setCell _ _ = W2 at hk hw ⊢
  obtain ⟨d0, d1, _, _⟩ := hk.two
  exact bodyPost_ret (v := .agg #[.int .i64 (rs (rs a)), .int .i64 (rs (-(rs b)))]) (by simp [results, Tryd.results18, go_sem, d0, d1]) rfl ⟨rfl, hw⟩
end Go.Proofs.YthnnmgjehpapiaaDoor
