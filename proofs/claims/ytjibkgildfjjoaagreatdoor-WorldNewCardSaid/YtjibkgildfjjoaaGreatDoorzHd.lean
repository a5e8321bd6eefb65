/- A block of one's own, known whole. -/
import Derived.Test.YtjibkgildfjjoaaGreatDoorzKit
import Derived.WalkKit
import Derived.ProofKit
import Derived.WalkLawsBesides
import Derived.Lib.Hide
import Derived.Handy
import Derived.IntWalk
import Derived.Test.YtjibkgildfjjoaaGreatDoorRows
import Derived.Test.YtjibkgildfjjoaaGreatDoorzGm
import Derived.OpenShut
import Derived.Lib.SmallJoins
import Derived.Test.YtjibkgildfjjoaaGreatDoorzSdm
import Derived.Test.YtjibkgildfjjoaaGreatDoorzQt
import Derived.BigQuiet
import Derived.Deep.RegionHeld3
import Derived.Deep.DeepCutAuto
import Derived.Deep.CutBlock
namespace Go.Proofs.YtjibkgildfjjoaaGreatDoor
set_option linter.unusedVariables false
set_option linter.unusedSimpArgs false
open Go.RowKit Go.ChangeShapes Go.WideShapes Go.ChangeAt Go.Sort

/-- A value laid over another one, in a block of its own. -/
theorem set2 {v : World} {g : Nat} {a b x y : Value} {t : TypeId} (hx : v.heap[g]? = some (.cells #[a, b] t (0, 0))) : ((v.setCell ⟨g, 0, none⟩ x).setCell ⟨g, 1, none⟩ y).heap[g]? = some (.cells #[x, y] t (0, 0)) := by
  simp [World.setCell, Array.getElem?_modify, hx]

/-- Block g holds just these cells. -/
def Held (W : World) (g : Nat) (t : TypeId) (cs : Array Value) : Prop := W.heap[g]? = some (.cells cs t (0, 0))
theorem Held.lt {W : World} {g : Nat} {t : TypeId} {cs : Array Value} (h : Held W g t cs) : g < W.heap.size := by
  rcases Nat.lt_or_ge g W.heap.size with hlt | hge
  · exact hlt
  · unfold Held at h; rw [Array.getElem?_eq_none hge] at h; cases h
theorem Held.cell {W : World} {g : Nat} {t : TypeId} {cs : Array Value} (h : Held W g t cs) (i : Nat) : W.cell? ⟨g, i, none⟩ = cs[i]? := cell_at h i
theorem Held.fz {W : World} {g : Nat} {t : TypeId} {cs : Array Value} (h : Held W g t cs) (i : Nat) : W.frozen? ⟨g, i, none⟩ = false := fz_at h i
theorem Held.new (W : World) (t : TypeId) (cs : Array Value) : Held (W.alloc (.cells cs t)) W.heap.size t cs := heap_alloc_last W _
theorem Held.new1 (W : World) (o : Obj) (t : TypeId) (cs : Array Value) : Held ((W.alloc o).alloc (.cells cs t)) (W.heap.size + 1) t cs := by
  have := heap_alloc_last (W.alloc o) (.cells cs t)
  unfold Held
  simpa using this
theorem Held.new2 (W : World) (o p : Obj) (t : TypeId) (cs : Array Value) : Held (((W.alloc o).alloc p).alloc (.cells cs t)) (W.heap.size + 1 + 1) t cs := by
  have := heap_alloc_last ((W.alloc o).alloc p) (.cells cs t)
  unfold Held
  simpa using this
theorem Held.below {W W' : World} {g : Nat} {t : TypeId} {cs : Array Value} (h : Held W g t cs) (hb : Below W.heap.size W W') : Held W' g t cs := (hb.block g h.lt).trans h
theorem Held.alloc {W : World} {g : Nat} {t : TypeId} {cs : Array Value} (h : Held W g t cs) (o : Obj) : Held (W.alloc o) g t cs := (Below.heap_alloc W o g h.lt).trans h
theorem Held.set {W : World} {g : Nat} {t : TypeId} {a b : Value} (h : Held W g t #[a, b]) (x y : Value) : Held ((W.setCell ⟨g, 0, none⟩ x).setCell ⟨g, 1, none⟩ y) g t #[x, y] := set2 h
theorem Held.far {W : World} {g k : Nat} {t : TypeId} {cs : Array Value} (h : Held W g t cs) (hk : g ≠ k) (i : Nat) (x : Value) : Held (W.setCell ⟨k, i, none⟩ x) g t cs := (Below.heap_setCell W ⟨k, i, none⟩ x g hk).trans h
theorem below2 (w : World) (o p : Obj) : Below w.heap.size w ((w.alloc o).alloc p) := ((Below.refl _ _).alloc (Nat.le_refl _) _).alloc (by simp) _
theorem below3 (w : World) (o p q : Obj) : Below w.heap.size w (((w.alloc o).alloc p).alloc q) := (((Below.refl _ _).alloc (Nat.le_refl _) _).alloc (by simp) _).alloc (by simp; omega) _

/-- A value. -/
abbrev gv (x y : Int) : Value := .agg #[.int .i64 x, .int .i64 y]
end Go.Proofs.YtjibkgildfjjoaaGreatDoor

/- Layer 4's code: remainders and parts, at every input. -/
namespace Go.Proofs.YtjibkgildfjjoaaGreatDoor
set_option linter.unusedVariables false
set_option linter.unusedSimpArgs false
open Go.RowKit Go.ChangeShapes Go.WideShapes Go.ChangeAt Gm

end Go.Proofs.YtjibkgildfjjoaaGreatDoor

/- Values of two ints: arguments opened, comparisons, parts. -/
namespace Go.Proofs.YtjibkgildfjjoaaGreatDoor
set_option linter.unusedVariables false
set_option linter.unusedSimpArgs false
open Go.ChangeShapes Go.WideShapes Go.ChangeAt Go.RowKit Go.Joins

theorem neqv_run (a b c d : Int) (W : World) : (binOp .neq 38 (gv a b) (gv c d)).run Tryz.prog W = .ok (.bool (decide ((a, b) ≠ (c, d)))) W := by
  by_cases h1 : a = c <;> by_cases h2 : b = d <;> simp [go_sem, h1, h2]
end Go.Proofs.YtjibkgildfjjoaaGreatDoor

/- Layer 4's code: remainders, parts, and values as complex numbers, at every input. -/
namespace Go.Proofs.YtjibkgildfjjoaaGreatDoor
set_option linter.unusedVariables false
set_option linter.unusedSimpArgs false
open Go.RowKit Go.ChangeShapes Go.WideShapes Go.ChangeAt Gm Fl

end Go.Proofs.YtjibkgildfjjoaaGreatDoor

/- Layer 4's code: sums, differences and products of values, and conjugates, at every input. -/
namespace Go.Proofs.YtjibkgildfjjoaaGreatDoor
set_option linter.unusedVariables false
set_option linter.unusedSimpArgs false
open Go.RowKit Go.ChangeShapes Go.WideShapes Go.ChangeAt Gm Fl

end Go.Proofs.YtjibkgildfjjoaaGreatDoor

/- Layer 4's code: conjugates, whether a value may be, quotients, powers, at every input. -/
namespace Go.Proofs.YtjibkgildfjjoaaGreatDoor
set_option linter.unusedVariables false
set_option linter.unusedSimpArgs false
open Go.RowKit Go.ChangeShapes Go.WideShapes Go.ChangeAt Gm Fl

set_option maxHeartbeats 1000000 in
theorem maypart_any (n : Int) (w : World) : Calls Tryz.prog 90 #[.int .i64 n] w fun e w' => e = .returned (.bool (decide (0 ≤ n) && decide (n < 251))) ∧ w = w' := by
  by_cases h : 0 ≤ n
  · by_cases h' : n < 251
    all_goals
      go_enter Tryz.func90, Tryz.ntmps90
      go_wp2_with fail
      go_ret
      simp [h, h']
  · go_enter Tryz.func90, Tryz.ntmps90
    go_wp2_with fail
    go_ret
    exact ⟨by rw [decide_eq_false (by omega : ¬ 0 ≤ n)]; rfl, rfl⟩

set_option maxHeartbeats 1000000 in
theorem may_any (a b : Int) (w : World) : Calls Tryz.prog 62 #[.agg #[.int .i64 a, .int .i64 b]] w fun e w' => e = .returned (.bool (mayB a b)) ∧ Below w.heap.size w w' := by
  have C := fun n W => Lib.hid (maypart_any n W)
  go_enter Tryz.func62, Tryz.ntmps62
  go_wp2_with (go_at_call 90; refine (C _ _).out.mono ?_; rintro e v ⟨rfl, rfl⟩)
  · go_ret
    have hh : 0 ≤ a ∧ a < 251 := by assumption
    refine ⟨?_, (Below.refl _ _).alloc (Nat.le_refl _) _⟩
    rw [mayB, decide_eq_true hh.1, decide_eq_true hh.2]; simp
  · go_ret
    have hh : ¬(0 ≤ a ∧ a < 251) := by assumption
    refine ⟨?_, (Below.refl _ _).alloc (Nat.le_refl _) _⟩
    have : (decide (0 ≤ a) && decide (a < 251)) = false := by simpa using hh
    rw [mayB, this]; simp

end Go.Proofs.YtjibkgildfjjoaaGreatDoor

/- Layer 4's code: powers, quotients, at every input. -/
namespace Go.Proofs.YtjibkgildfjjoaaGreatDoor
set_option linter.unusedVariables false
set_option linter.unusedSimpArgs false
open Go.RowKit Go.ChangeShapes Go.WideShapes Go.ChangeAt Gm Fl

end Go.Proofs.YtjibkgildfjjoaaGreatDoor

/- Layer 4: the document's remainders and parts, and whether a value may be. -/
namespace Go.Proofs.YtjibkgildfjjoaaGreatDoor
set_option linter.unusedVariables false
set_option linter.unusedSimpArgs false
open Go.RowKit Go.ChangeShapes Go.WideShapes Go.ChangeAt Gm Go.Sort

set_option maxHeartbeats 1000000 in
theorem rgmay_any (a b : Int) (w : World) : Calls Tryz.prog 49 #[.agg #[.int .i64 a, .int .i64 b]] w fun e w' => e = .returned (.bool (mayB a b)) ∧ Below w.heap.size w w' := by
  have hb : Below w.heap.size w (w.alloc (.cells #[.int .i64 a, .int .i64 b] 38)) := (Below.refl _ _).alloc (Nat.le_refl _) _
  have hm : mayB a b = (decide (0 ≤ a) && decide (a < 251) && (decide (0 ≤ b) && decide (b < 251))) := rfl
  have HM := Lib.hid hm
  clear hm
  go_enter Tryz.func49, Tryz.ntmps49
  go_wp2_with fail
  all_goals
    go_ret
    rw [HM.out]
    refine ⟨ret_bool ?_, hb⟩
    rw [Bool.eq_iff_iff]
    simp
    omega

end Go.Proofs.YtjibkgildfjjoaaGreatDoor

/- Layer 4: the document's own answers: remainders, parts, sums, differences, conjugates. -/
namespace Go.Proofs.YtjibkgildfjjoaaGreatDoor
set_option linter.unusedVariables false
set_option linter.unusedSimpArgs false
open Go.RowKit Go.ChangeShapes Go.WideShapes Go.ChangeAt Gm Fl Go.Sort

end Go.Proofs.YtjibkgildfjjoaaGreatDoor

/- Layer 4: the document's own answers: products. -/
namespace Go.Proofs.YtjibkgildfjjoaaGreatDoor
set_option linter.unusedVariables false
set_option linter.unusedSimpArgs false
open Go.RowKit Go.ChangeShapes Go.WideShapes Go.ChangeAt Gm Fl Go.Sort

theorem Held.drew {W : World} {g : Nat} {t : TypeId} {cs : Array Value} (h : Held W g t cs) : Held W.drew g t cs := h
end Go.Proofs.YtjibkgildfjjoaaGreatDoor

/- Layer 4: the document's own answers: inverses. -/
namespace Go.Proofs.YtjibkgildfjjoaaGreatDoor
set_option linter.unusedVariables false
set_option linter.unusedSimpArgs false
open Go.RowKit Go.ChangeShapes Go.WideShapes Go.ChangeAt Gm Fl Go.Sort

end Go.Proofs.YtjibkgildfjjoaaGreatDoor

/- Layer 4: the document's own answers: quotients. -/
namespace Go.Proofs.YtjibkgildfjjoaaGreatDoor
set_option linter.unusedVariables false
set_option linter.unusedSimpArgs false
open Go.RowKit Go.ChangeShapes Go.WideShapes Go.ChangeAt Gm Fl Go.Sort

end Go.Proofs.YtjibkgildfjjoaaGreatDoor

