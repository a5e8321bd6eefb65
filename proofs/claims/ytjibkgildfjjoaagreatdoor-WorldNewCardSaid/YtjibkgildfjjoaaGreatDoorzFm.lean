/- Layer 9: lists of values and of slots in memory, read and of one's own; frames in memory. -/
import Derived.Test.YtjibkgildfjjoaaGreatDoorzFmb
import Derived.Test.YtjibkgildfjjoaaGreatDoorzPp
import Derived.Test.YtjibkgildfjjoaaGreatDoorzPw
import Derived.Test.YtjibkgildfjjoaaGreatDoorzPs
import Derived.Deep.AppendLies
import Derived.Laws.OwnMore
import Derived.Test.YtjibkgildfjjoaaGreatDoorzGw
import Derived.Test.YtjibkgildfjjoaaGreatDoorzOt
import Derived.Test.YtjibkgildfjjoaaGreatDoorzQt
import Derived.Deep.RegionHeld3
import Derived.Deep.DeepCutAuto
import Derived.Deep.CutBlock
import Derived.BigQuiet
import Derived.Laws.CopyOwn
import Derived.WalkLawsBesides
import Derived.Lib.SliceRun
import Derived.Test.YtjibkgildfjjoaaGreatDoorzHd
import Derived.Test.YtjibkgildfjjoaaGreatDoorzOp
import Derived.Test.YtjibkgildfjjoaaGreatDoorzSdm
import Derived.Deep.QuietTactic
import Derived.Test.YtjibkgildfjjoaaGreatDoorzRw
import Derived.Deep.MidRow
import Derived.Test.YtjibkgildfjjoaaGreatDoorzTab
namespace Go.Proofs.YtjibkgildfjjoaaGreatDoor
set_option linter.unusedVariables false
set_option linter.unusedSimpArgs false
open Gm Go.RowKit Go.ChangeShapes Go.WideShapes Go.ChangeAt Go.Sort





end Go.Proofs.YtjibkgildfjjoaaGreatDoor

/- Layer 9: the runner in memory: a frame of the call's own, and its program. -/
namespace Go.Proofs.YtjibkgildfjjoaaGreatDoor
set_option linter.unusedVariables false
set_option linter.unusedSimpArgs false
open Gm Go.RowKit Go.ChangeShapes Go.WideShapes Go.ChangeAt Go.Sort

/-- What the calls need of the world: the tables, below B. -/
structure TabB (w : World) (B : Nat) : Prop where
  ot : Otab w
  otl : 2 < B
  nb : ∃ ty, Held w 1 ty #[.int .i64 (-1), .int .i64 0]
  nbl : 1 < B
theorem TabB.below {w w' : World} {B C : Nat} (h : TabB w B) (hb : Below C w w') (hC : B ≤ C) : TabB w' B :=
  ⟨h.ot.imp fun _ k => (hb.block _ (Nat.lt_of_lt_of_le h.otl hC)).trans k, h.otl, h.nb.imp fun _ k => (hb.block _ (Nat.lt_of_lt_of_le h.nbl hC)).trans k, h.nbl⟩
theorem TabB.more {w : World} {B C : Nat} (h : TabB w B) (hC : B ≤ C) : TabB w C := ⟨h.ot, Nat.lt_of_lt_of_le h.otl hC, h.nb, Nat.lt_of_lt_of_le h.nbl hC⟩

/-- Block g is none of the runner's. -/
structure Off4 (r : Nat) (s l o : Value) (g : Nat) : Prop where
  r : g ≠ r
  s : s.ownBlock ≠ some g
  l : l.ownBlock ≠ some g
  o : o.ownBlock ≠ some g
/-- No block is turned but the runner's. -/
structure Kp (r : Nat) (s l o : Value) (w w' : World) : Prop where
  os : w'.os = w.os
  tape : w'.tape = w.tape
  output : w'.output = w.output
  size : w.heap.size ≤ w'.heap.size
  block : ∀ k, k < w.heap.size → Off4 r s l o k → w'.heap[k]? = w.heap[k]?
theorem Kp.refl (r : Nat) (s l o : Value) (w : World) : Kp r s l o w w := ⟨rfl, rfl, rfl, Nat.le_refl _, fun _ _ _ => rfl⟩
theorem Kp.of_below {r : Nat} {s l o : Value} {w w' : World} (h : Below w.heap.size w w') : Kp r s l o w w' := ⟨h.os, h.tape, h.output, h.size, fun k hk _ => h.block k hk⟩
theorem Kp.set {r : Nat} {s l o : Value} {w w' : World} (h : Kp r s l o w w') {g : Nat} (hg : g = r ∨ s.ownBlock = some g ∨ l.ownBlock = some g ∨ o.ownBlock = some g) (i : Nat) (x : Value) : Kp r s l o w (w'.setCell ⟨g, i, none⟩ x) :=
  ⟨h.os, h.tape, h.output, by simpa [World.setCell] using h.size, fun k hk ho => (Below.heap_setCell w' ⟨g, i, none⟩ x k (by
    show k ≠ g
    rintro rfl
    rcases hg with e | e | e | e
    · exact ho.r e
    · exact ho.s e
    · exact ho.l e
    · exact ho.o e)).trans (h.block k hk ho)⟩
theorem Kp.grown {r : Nat} {s l o : Value} {w w1 w2 : World} (h : Kp r s l o w w1) {g : Option Nat} (hg : w1.grownBy w2 g) (hs : ∀ b, g = some b → s.ownBlock = some b ∨ w.heap.size ≤ b) : Kp r s l o w w2 :=
  ⟨hg.os.trans h.os, hg.tape.trans h.tape, hg.output.trans h.output, Nat.le_trans h.size hg.size, fun k hk ho => (hg.block k (Nat.lt_of_lt_of_le hk h.size) (by
    intro e
    rcases hs k e.symm with e | e
    · exact ho.s e
    · omega)).trans (h.block k hk ho)⟩

section
variable {w w' : World} {B r : Nat} {pv l o s : Value} {f : Frm}
end
/-- What an instruction asks for, as a value. -/
abbrev akv (k : Int) : Value := .agg #[.int .i64 k, .int .i64 0, .int .i64 0, .int .i64 0, .slice none 0 0]
theorem own_form {w : World} {B size n : Nat} {e : TypeId} {v : Value} {xs : List Value} (h : w.ownsRow B e size v n xs) (h0 : 0 < n) : ∃ g c, v = .slice (some ⟨g, 0, none⟩) n c := by
  rcases h.2 with ⟨_, e0⟩ | ⟨g, cap, cur, e, _⟩
  · omega
  · exact ⟨g, cap, e⟩
theorem own_fz {w : World} {B size n c g : Nat} {e : TypeId} {xs : List Value} (h : w.ownsRow B e size (.slice (some ⟨g, 0, none⟩) n c) n xs) (i : Nat) : w.frozen? ⟨g, i, none⟩ = false := by
  rcases h.2 with ⟨e0, _⟩ | ⟨g', cap, cur, e, _, hg, _⟩
  · simp at e0
  · simp only [Value.slice.injEq, Option.some.injEq, Addr.mk.injEq, and_true, true_and] at e
    obtain ⟨rfl, rfl⟩ := e
    exact fz_at hg i
theorem own_vs {w : World} {B n c g : Nat} {l : List V} (h : OwnVs w B (.slice (some ⟨g, 0, none⟩) n c) l) {k : Nat} (hk : k < l.length) :
    w.cell? ⟨g, k * 2, none⟩ = some (.int .i64 l[k].1) ∧ w.cell? ⟨g, k * 2 + 1, none⟩ = some (.int .i64 l[k].2) ∧ w.frozen? ⟨g, k * 2, none⟩ = false ∧ w.frozen? ⟨g, k * 2 + 1, none⟩ = false := by
  obtain rfl := h.len
  obtain ⟨e0, e1⟩ := flatV_at l k hk
  exact ⟨(h.cellAt (k * 2) (by omega)).trans e0, (h.cellAt (k * 2 + 1) (by omega)).trans e1, own_fz h _, own_fz h _⟩
end Go.Proofs.YtjibkgildfjjoaaGreatDoor

/- Layer 9's code: whether there is an element, copies of lists, of a frame. -/
namespace Go.Proofs.YtjibkgildfjjoaaGreatDoor
set_option linter.unusedVariables false
set_option linter.unusedSimpArgs false
open Gm Go.RowKit Go.ChangeShapes Go.WideShapes Go.ChangeAt Go.Sort

set_option maxHeartbeats 1000000 in
theorem hasF_any (A : Option Addr) (n c : Nat) (i : Int) : Cs Tryz.prog 59 #[.slice A n c, .int .i64 i] (.bool (hasI n i)) := fun w => by
  unfold hasI
  by_cases h : 0 ≤ i
  · by_cases h' : i < n
    all_goals
      go_enter Tryz.func59, Tryz.ntmps59
      go_wp2_with fail
      go_ret
      simp [h, h']
  · go_enter Tryz.func59, Tryz.ntmps59
    go_wp2_with fail
    go_ret
    exact ⟨by rw [decide_eq_false (by omega : ¬ 0 ≤ i)]; rfl, rfl⟩
end Go.Proofs.YtjibkgildfjjoaaGreatDoor

/- Layer 9's code: the runner ends, goes on, pushes, takes. -/
namespace Go.Proofs.YtjibkgildfjjoaaGreatDoor
set_option linter.unusedVariables false
set_option linter.unusedSimpArgs false
open Gm Go.RowKit Go.ChangeShapes Go.WideShapes Go.ChangeAt Go.Sort

section
variable {B r : Nat} {pv l o s : Value} {f : Frm}

/-- The upper values of a list. -/
theorem VAt.drop {w : World} {C b off : Nat} {l : List V} (h : VAt w C (some ⟨b, off, none⟩) l) (m : Nat) : VAt w C (some ⟨b, off + m * 2, none⟩) (l.drop m) := fun h0 => by
  rw [List.length_drop] at h0
  obtain ⟨b', off', e, hlt, hc⟩ := h (by omega)
  simp at e
  obtain ⟨rfl, rfl⟩ := e
  refine ⟨b, off + m * 2, rfl, hlt, fun j hj => ?_⟩
  rw [List.length_drop] at hj
  have := hc (m + j) (by omega)
  rw [List.getElem_drop]
  rw [show off + m * 2 + j * 2 = off + (m + j) * 2 by omega]
  exact this
end
end Go.Proofs.YtjibkgildfjjoaaGreatDoor

/- Layer 9's code: the runner pops; what two values make; the instructions that only move values. -/
namespace Go.Proofs.YtjibkgildfjjoaaGreatDoor
set_option linter.unusedVariables false
set_option linter.unusedSimpArgs false
open Gm Go.RowKit Go.ChangeShapes Go.WideShapes Go.ChangeAt Go.Sort

section
variable {B r : Nat} {pv l o s : Value} {f : Frm}

end
end Go.Proofs.YtjibkgildfjjoaaGreatDoor

/- Layer 9's code: the instructions that only move values. -/
namespace Go.Proofs.YtjibkgildfjjoaaGreatDoor
set_option linter.unusedVariables false
set_option linter.unusedSimpArgs false
open Gm Go.RowKit Go.ChangeShapes Go.WideShapes Go.ChangeAt Go.Sort

section
variable {B r : Nat} {pv l o s : Value} {f : Frm}

end
end Go.Proofs.YtjibkgildfjjoaaGreatDoor

/- Layer 9's code: more instructions that only move values. -/
namespace Go.Proofs.YtjibkgildfjjoaaGreatDoor
set_option linter.unusedVariables false
set_option linter.unusedSimpArgs false
open Gm Go.RowKit Go.ChangeShapes Go.WideShapes Go.ChangeAt Go.Sort

section
variable {B r : Nat} {pv l o s : Value} {f : Frm}

end
end Go.Proofs.YtjibkgildfjjoaaGreatDoor

/- Layer 9's code: a value is stored into a local; all instructions that only move values. -/
namespace Go.Proofs.YtjibkgildfjjoaaGreatDoor
set_option linter.unusedVariables false
set_option linter.unusedSimpArgs false
open Gm Go.RowKit Go.ChangeShapes Go.WideShapes Go.ChangeAt Go.Sort

section
variable {B r : Nat} {pv l o s : Value} {f : Frm}

end
end Go.Proofs.YtjibkgildfjjoaaGreatDoor

/- Layer 9's code: the runner computes. -/
namespace Go.Proofs.YtjibkgildfjjoaaGreatDoor
set_option linter.unusedVariables false
set_option linter.unusedSimpArgs false
open Gm Go.RowKit Go.ChangeShapes Go.WideShapes Go.ChangeAt Go.Sort

section
variable {B r : Nat} {pv l o s : Value} {f : Frm}
end
end Go.Proofs.YtjibkgildfjjoaaGreatDoor

/- Layer 9's code: the runner asks for a child. -/
namespace Go.Proofs.YtjibkgildfjjoaaGreatDoor
set_option linter.unusedVariables false
set_option linter.unusedSimpArgs false
open Gm Go.RowKit Go.ChangeShapes Go.WideShapes Go.ChangeAt Go.Sort

/-- What is asked for, read below B. -/
def ActAt (w : World) (B : Nat) (v : Value) (a : ActP) : Prop := ∃ A c, v = .agg #[.int .i64 a.kd, .int .i64 a.fn, .int .i64 a.sl, .int .i64 a.sd, .slice A a.ar.length c] ∧ VAt w B A a.ar
theorem ActAt.k (w : World) (B : Nat) (k : Int) : ActAt w B (akv k) (actK k) := ⟨none, 0, rfl, VAt.nil _ _ _⟩
theorem ActAt.z (w : World) (B : Nat) : ActAt w B (akv 0) act0 := ⟨none, 0, rfl, VAt.nil _ _ _⟩
theorem ActAt.below {w w' : World} {B C : Nat} {v : Value} {a : ActP} (h : ActAt w B v a) (hb : Below C w w') (hC : B ≤ C) : ActAt w' B v a := by
  obtain ⟨A, c, e, h⟩ := h
  exact ⟨A, c, e, h.below hb hC⟩
theorem ActAt.more {w : World} {B C : Nat} {v : Value} {a : ActP} (h : ActAt w B v a) (hC : B ≤ C) : ActAt w C v a := by
  obtain ⟨A, c, e, h⟩ := h
  exact ⟨A, c, e, h.more hC⟩
/-- What is asked for, its values the call's own. -/
def ActO (w : World) (B : Nat) (v : Value) (a : ActP) : Prop := ∃ A c, v = .agg #[.int .i64 a.kd, .int .i64 a.fn, .int .i64 a.sl, .int .i64 a.sd, .slice A a.ar.length c] ∧ OwnVs w B (.slice A a.ar.length c) a.ar
theorem ActO.k (w : World) (B : Nat) (k : Int) : ActO w B (akv k) (actK k) := ⟨none, 0, rfl, OwnVs.nil _ _⟩
theorem ActO.z (w : World) (B : Nat) : ActO w B (akv 0) act0 := ⟨none, 0, rfl, OwnVs.nil _ _⟩
theorem ActO.same {w w' : World} {B : Nat} {v : Value} {a : ActP} (h : ActO w B v a) (hb : ∀ g, B ≤ g → g < w.heap.size → w'.heap[g]? = w.heap[g]?) : ActO w' B v a := by
  obtain ⟨A, c, e, ho⟩ := h
  exact ⟨A, c, e, row_same ho fun g eg => hb g (ho.lt g eg).1 (ho.lt g eg).2⟩
theorem ActO.mono {w : World} {B C : Nat} {v : Value} {a : ActP} (h : ActO w B v a) (hC : C ≤ B) : ActO w C v a := by
  obtain ⟨A, c, e, ho⟩ := h
  exact ⟨A, c, e, row_mono ho hC⟩
theorem ActO.at {w : World} {B : Nat} {v : Value} {a : ActP} (h : ActO w B v a) : ActAt w w.heap.size v a := by
  obtain ⟨A, c, e, ho⟩ := h
  obtain ⟨A9, c9, e9, hv9⟩ := ho.lies
  simp only [Value.slice.injEq] at e9
  obtain ⟨rfl, _, rfl⟩ := e9
  exact ⟨A, c, e, hv9⟩
section
variable {B r : Nat} {pv l o s : Value} {f : Frm}
/-- The cells that the region reads. -/
abbrev SpS (r b i : Nat) (x5 x6 x16 x0 : Value) (W : World) : Prop := W.cell? ⟨r, 5, none⟩ = some x5 ∧ W.cell? ⟨r, 6, none⟩ = some x6 ∧ W.cell? ⟨r, 16, none⟩ = some x16 ∧ W.cell? ⟨b, i, none⟩ = some x0
theorem SpS.below {r b i : Nat} {x5 x6 x16 x0 : Value} {W W' : World} (h : SpS r b i x5 x6 x16 x0 W) (hb : Below W.heap.size W W') : SpS r b i x5 x6 x16 x0 W' :=
  ⟨(hb.cell (p := ⟨r, 5, none⟩) (block_lt_of_cell h.1)).trans h.1, (hb.cell (p := ⟨r, 6, none⟩) (block_lt_of_cell h.2.1)).trans h.2.1, (hb.cell (p := ⟨r, 16, none⟩) (block_lt_of_cell h.2.2.1)).trans h.2.2.1, (hb.cell (p := ⟨b, i, none⟩) (block_lt_of_cell h.2.2.2)).trans h.2.2.2⟩
theorem SpS.far {r b i : Nat} {x5 x6 x16 x0 : Value} {W : World} (h : SpS r b i x5 x6 x16 x0 W) {g : Nat} (hr : g ≠ r) (hb : g ≠ b) (j : Nat) (y : Value) : SpS r b i x5 x6 x16 x0 (W.setCell ⟨g, j, none⟩ y) := by
  have e : ∀ k, k ≠ g → ∀ q, (W.setCell ⟨g, j, none⟩ y).cell? ⟨k, q, none⟩ = W.cell? ⟨k, q, none⟩ := fun k hk q => World.cell?_of_block (Below.heap_setCell W ⟨g, j, none⟩ y k hk)
  exact ⟨(e r hr.symm 5).trans h.1, (e r hr.symm 6).trans h.2.1, (e r hr.symm 16).trans h.2.2.1, (e b hb.symm i).trans h.2.2.2⟩
end
end Go.Proofs.YtjibkgildfjjoaaGreatDoor

/- Layer 9's code: the runner joins. -/
namespace Go.Proofs.YtjibkgildfjjoaaGreatDoor
set_option linter.unusedVariables false
set_option linter.unusedSimpArgs false
open Gm Go.RowKit Go.ChangeShapes Go.WideShapes Go.ChangeAt Go.Sort

section
variable {B r : Nat} {pv l o s : Value} {f : Frm}
end
end Go.Proofs.YtjibkgildfjjoaaGreatDoor

/- Layer 9's code: an instruction executed. -/
namespace Go.Proofs.YtjibkgildfjjoaaGreatDoor
set_option linter.unusedVariables false
set_option linter.unusedSimpArgs false
open Gm Go.RowKit Go.ChangeShapes Go.WideShapes Go.ChangeAt Go.Sort

section
variable {B r : Nat} {pv l o s : Value} {f : Frm}
end
end Go.Proofs.YtjibkgildfjjoaaGreatDoor

/- Layer 9's code: what an instruction names, the depth it needs, the instruction at the place. -/
namespace Go.Proofs.YtjibkgildfjjoaaGreatDoor
set_option linter.unusedVariables false
set_option linter.unusedSimpArgs false
open Gm Go.RowKit Go.ChangeShapes Go.WideShapes Go.ChangeAt Go.Sort

section
variable {B r : Nat} {pv l o s : Value} {f : Frm}
end
end Go.Proofs.YtjibkgildfjjoaaGreatDoor

/- Layer 9's code: the instruction at the place. -/
namespace Go.Proofs.YtjibkgildfjjoaaGreatDoor
set_option linter.unusedVariables false
set_option linter.unusedSimpArgs false
open Gm Go.RowKit Go.ChangeShapes Go.WideShapes Go.ChangeAt Go.Sort

theorem three {W : World} {g : Nat} {t : TypeId} {a0 a1 a2 : Value} (h : Held W g t #[a0, a1, a2]) : W.cell? ⟨g, 0, none⟩ = some a0 ∧ W.cell? ⟨g, 1, none⟩ = some a1 ∧ W.cell? ⟨g, 2, none⟩ = some a2 ∧
    W.frozen? ⟨g, 0, none⟩ = false ∧ W.frozen? ⟨g, 1, none⟩ = false ∧ W.frozen? ⟨g, 2, none⟩ = false := ⟨h.cell 0, h.cell 1, h.cell 2, h.fz 0, h.fz 1, h.fz 2⟩
section
variable {B r : Nat} {pv l o s : Value} {f : Frm}
end
end Go.Proofs.YtjibkgildfjjoaaGreatDoor

/- Layer 9's code: the runner does an instruction. -/
namespace Go.Proofs.YtjibkgildfjjoaaGreatDoor
set_option linter.unusedVariables false
set_option linter.unusedSimpArgs false
open Gm Go.RowKit Go.ChangeShapes Go.WideShapes Go.ChangeAt Go.Sort

section
variable {B r : Nat} {pv l o s : Value} {f : Frm}
end
end Go.Proofs.YtjibkgildfjjoaaGreatDoor

/- Layer 9: the document's comparisons, where both are the same; whether a frame is small. -/
namespace Go.Proofs.YtjibkgildfjjoaaGreatDoor
set_option linter.unusedVariables false
set_option linter.unusedSimpArgs false
open Gm Go.RowKit Go.ChangeShapes Go.WideShapes Go.ChangeAt Go.Sort

end Go.Proofs.YtjibkgildfjjoaaGreatDoor

/- Layer 9's code: how a frame ends; whether one is the same as itself. -/
namespace Go.Proofs.YtjibkgildfjjoaaGreatDoor
set_option linter.unusedVariables false
set_option linter.unusedSimpArgs false
open Gm Go.RowKit Go.ChangeShapes Go.WideShapes Go.ChangeAt Go.Sort

/-- The value of a function without captures. -/
abbrev fnS (n : Nat) : Value := .func (.func n) #[] #[]
/-- A result in a cell, and one that is not. -/
theorem results_ct {P : Program} {fn : Func} {p q : Tmp} {ty1 : TypeId} (h : fn.results = #[.cell p ty1, .tmp q]) (tmps : Array Value) (w : World) {a1 : Addr} {v1 v2 : Value} (hp : tmps.getD p undef = .pointer (some a1)) (hq : tmps.getD q undef = v2)
    (l1 : (loadVar ty1 a1).run P w = .ok v1 w) : (results fn tmps).run P w = .ok (.tuple #[v1, v2]) w := by
  have hp' : tmps[p]?.getD undef = .pointer (some a1) := by simpa using hp
  have hq' : tmps[q]?.getD undef = v2 := by simpa using hq
  simp [results, h, hp', hq', asAddr, l1]
end Go.Proofs.YtjibkgildfjjoaaGreatDoor

/- Layer 9: blocks of sixteen cells, two results. -/
namespace Go.Proofs.YtjibkgildfjjoaaGreatDoor
set_option linter.unusedVariables false
set_option linter.unusedSimpArgs false
open Gm Go.RowKit Go.ChangeShapes Go.WideShapes Go.ChangeAt Go.Sort

theorem set16 {W : World} {g : Nat} {t : TypeId} {a0 a1 a2 a3 a4 a5 a6 a7 a8 a9 a10 a11 a12 a13 a14 a15 : Value} (h : Held W g t #[a0, a1, a2, a3, a4, a5, a6, a7, a8, a9, a10, a11, a12, a13, a14, a15]) (x0 x1 x2 x3 x4 x5 x6 x7 x8 x9 x10 x11 x12 x13 x14 x15 : Value) :
    Held ((((((((((((((((W.setCell ⟨g, 0, none⟩ x0).setCell ⟨g, 1, none⟩ x1).setCell ⟨g, 2, none⟩ x2).setCell ⟨g, 3, none⟩ x3).setCell ⟨g, 4, none⟩ x4).setCell ⟨g, 5, none⟩ x5).setCell ⟨g, 6, none⟩ x6).setCell ⟨g, 7, none⟩ x7).setCell ⟨g, 8, none⟩ x8).setCell ⟨g, 9, none⟩ x9).setCell ⟨g, 10, none⟩ x10).setCell ⟨g, 11, none⟩ x11).setCell ⟨g, 12, none⟩ x12).setCell ⟨g, 13, none⟩ x13).setCell ⟨g, 14, none⟩ x14).setCell ⟨g, 15, none⟩ x15) g t #[x0, x1, x2, x3, x4, x5, x6, x7, x8, x9, x10, x11, x12, x13, x14, x15] := by
  have h1 : Held (W.setCell ⟨g, 0, none⟩ x0) g t #[x0, a1, a2, a3, a4, a5, a6, a7, a8, a9, a10, a11, a12, a13, a14, a15] := h.set_at 0 x0
  have h2 : Held ((W.setCell ⟨g, 0, none⟩ x0).setCell ⟨g, 1, none⟩ x1) g t #[x0, x1, a2, a3, a4, a5, a6, a7, a8, a9, a10, a11, a12, a13, a14, a15] := h1.set_at 1 x1
  have h3 : Held (((W.setCell ⟨g, 0, none⟩ x0).setCell ⟨g, 1, none⟩ x1).setCell ⟨g, 2, none⟩ x2) g t #[x0, x1, x2, a3, a4, a5, a6, a7, a8, a9, a10, a11, a12, a13, a14, a15] := h2.set_at 2 x2
  have h4 : Held ((((W.setCell ⟨g, 0, none⟩ x0).setCell ⟨g, 1, none⟩ x1).setCell ⟨g, 2, none⟩ x2).setCell ⟨g, 3, none⟩ x3) g t #[x0, x1, x2, x3, a4, a5, a6, a7, a8, a9, a10, a11, a12, a13, a14, a15] := h3.set_at 3 x3
  have h5 : Held (((((W.setCell ⟨g, 0, none⟩ x0).setCell ⟨g, 1, none⟩ x1).setCell ⟨g, 2, none⟩ x2).setCell ⟨g, 3, none⟩ x3).setCell ⟨g, 4, none⟩ x4) g t #[x0, x1, x2, x3, x4, a5, a6, a7, a8, a9, a10, a11, a12, a13, a14, a15] := h4.set_at 4 x4
  have h6 : Held ((((((W.setCell ⟨g, 0, none⟩ x0).setCell ⟨g, 1, none⟩ x1).setCell ⟨g, 2, none⟩ x2).setCell ⟨g, 3, none⟩ x3).setCell ⟨g, 4, none⟩ x4).setCell ⟨g, 5, none⟩ x5) g t #[x0, x1, x2, x3, x4, x5, a6, a7, a8, a9, a10, a11, a12, a13, a14, a15] := h5.set_at 5 x5
  have h7 : Held (((((((W.setCell ⟨g, 0, none⟩ x0).setCell ⟨g, 1, none⟩ x1).setCell ⟨g, 2, none⟩ x2).setCell ⟨g, 3, none⟩ x3).setCell ⟨g, 4, none⟩ x4).setCell ⟨g, 5, none⟩ x5).setCell ⟨g, 6, none⟩ x6) g t #[x0, x1, x2, x3, x4, x5, x6, a7, a8, a9, a10, a11, a12, a13, a14, a15] := h6.set_at 6 x6
  have h8 : Held ((((((((W.setCell ⟨g, 0, none⟩ x0).setCell ⟨g, 1, none⟩ x1).setCell ⟨g, 2, none⟩ x2).setCell ⟨g, 3, none⟩ x3).setCell ⟨g, 4, none⟩ x4).setCell ⟨g, 5, none⟩ x5).setCell ⟨g, 6, none⟩ x6).setCell ⟨g, 7, none⟩ x7) g t #[x0, x1, x2, x3, x4, x5, x6, x7, a8, a9, a10, a11, a12, a13, a14, a15] := h7.set_at 7 x7
  have h9 : Held (((((((((W.setCell ⟨g, 0, none⟩ x0).setCell ⟨g, 1, none⟩ x1).setCell ⟨g, 2, none⟩ x2).setCell ⟨g, 3, none⟩ x3).setCell ⟨g, 4, none⟩ x4).setCell ⟨g, 5, none⟩ x5).setCell ⟨g, 6, none⟩ x6).setCell ⟨g, 7, none⟩ x7).setCell ⟨g, 8, none⟩ x8) g t #[x0, x1, x2, x3, x4, x5, x6, x7, x8, a9, a10, a11, a12, a13, a14, a15] := h8.set_at 8 x8
  have h10 : Held ((((((((((W.setCell ⟨g, 0, none⟩ x0).setCell ⟨g, 1, none⟩ x1).setCell ⟨g, 2, none⟩ x2).setCell ⟨g, 3, none⟩ x3).setCell ⟨g, 4, none⟩ x4).setCell ⟨g, 5, none⟩ x5).setCell ⟨g, 6, none⟩ x6).setCell ⟨g, 7, none⟩ x7).setCell ⟨g, 8, none⟩ x8).setCell ⟨g, 9, none⟩ x9) g t #[x0, x1, x2, x3, x4, x5, x6, x7, x8, x9, a10, a11, a12, a13, a14, a15] := h9.set_at 9 x9
  have h11 : Held (((((((((((W.setCell ⟨g, 0, none⟩ x0).setCell ⟨g, 1, none⟩ x1).setCell ⟨g, 2, none⟩ x2).setCell ⟨g, 3, none⟩ x3).setCell ⟨g, 4, none⟩ x4).setCell ⟨g, 5, none⟩ x5).setCell ⟨g, 6, none⟩ x6).setCell ⟨g, 7, none⟩ x7).setCell ⟨g, 8, none⟩ x8).setCell ⟨g, 9, none⟩ x9).setCell ⟨g, 10, none⟩ x10) g t #[x0, x1, x2, x3, x4, x5, x6, x7, x8, x9, x10, a11, a12, a13, a14, a15] := h10.set_at 10 x10
  have h12 : Held ((((((((((((W.setCell ⟨g, 0, none⟩ x0).setCell ⟨g, 1, none⟩ x1).setCell ⟨g, 2, none⟩ x2).setCell ⟨g, 3, none⟩ x3).setCell ⟨g, 4, none⟩ x4).setCell ⟨g, 5, none⟩ x5).setCell ⟨g, 6, none⟩ x6).setCell ⟨g, 7, none⟩ x7).setCell ⟨g, 8, none⟩ x8).setCell ⟨g, 9, none⟩ x9).setCell ⟨g, 10, none⟩ x10).setCell ⟨g, 11, none⟩ x11) g t #[x0, x1, x2, x3, x4, x5, x6, x7, x8, x9, x10, x11, a12, a13, a14, a15] := h11.set_at 11 x11
  have h13 : Held (((((((((((((W.setCell ⟨g, 0, none⟩ x0).setCell ⟨g, 1, none⟩ x1).setCell ⟨g, 2, none⟩ x2).setCell ⟨g, 3, none⟩ x3).setCell ⟨g, 4, none⟩ x4).setCell ⟨g, 5, none⟩ x5).setCell ⟨g, 6, none⟩ x6).setCell ⟨g, 7, none⟩ x7).setCell ⟨g, 8, none⟩ x8).setCell ⟨g, 9, none⟩ x9).setCell ⟨g, 10, none⟩ x10).setCell ⟨g, 11, none⟩ x11).setCell ⟨g, 12, none⟩ x12) g t #[x0, x1, x2, x3, x4, x5, x6, x7, x8, x9, x10, x11, x12, a13, a14, a15] := h12.set_at 12 x12
  have h14 : Held ((((((((((((((W.setCell ⟨g, 0, none⟩ x0).setCell ⟨g, 1, none⟩ x1).setCell ⟨g, 2, none⟩ x2).setCell ⟨g, 3, none⟩ x3).setCell ⟨g, 4, none⟩ x4).setCell ⟨g, 5, none⟩ x5).setCell ⟨g, 6, none⟩ x6).setCell ⟨g, 7, none⟩ x7).setCell ⟨g, 8, none⟩ x8).setCell ⟨g, 9, none⟩ x9).setCell ⟨g, 10, none⟩ x10).setCell ⟨g, 11, none⟩ x11).setCell ⟨g, 12, none⟩ x12).setCell ⟨g, 13, none⟩ x13) g t #[x0, x1, x2, x3, x4, x5, x6, x7, x8, x9, x10, x11, x12, x13, a14, a15] := h13.set_at 13 x13
  have h15 : Held (((((((((((((((W.setCell ⟨g, 0, none⟩ x0).setCell ⟨g, 1, none⟩ x1).setCell ⟨g, 2, none⟩ x2).setCell ⟨g, 3, none⟩ x3).setCell ⟨g, 4, none⟩ x4).setCell ⟨g, 5, none⟩ x5).setCell ⟨g, 6, none⟩ x6).setCell ⟨g, 7, none⟩ x7).setCell ⟨g, 8, none⟩ x8).setCell ⟨g, 9, none⟩ x9).setCell ⟨g, 10, none⟩ x10).setCell ⟨g, 11, none⟩ x11).setCell ⟨g, 12, none⟩ x12).setCell ⟨g, 13, none⟩ x13).setCell ⟨g, 14, none⟩ x14) g t #[x0, x1, x2, x3, x4, x5, x6, x7, x8, x9, x10, x11, x12, x13, x14, a15] := h14.set_at 14 x14
  have h16 : Held ((((((((((((((((W.setCell ⟨g, 0, none⟩ x0).setCell ⟨g, 1, none⟩ x1).setCell ⟨g, 2, none⟩ x2).setCell ⟨g, 3, none⟩ x3).setCell ⟨g, 4, none⟩ x4).setCell ⟨g, 5, none⟩ x5).setCell ⟨g, 6, none⟩ x6).setCell ⟨g, 7, none⟩ x7).setCell ⟨g, 8, none⟩ x8).setCell ⟨g, 9, none⟩ x9).setCell ⟨g, 10, none⟩ x10).setCell ⟨g, 11, none⟩ x11).setCell ⟨g, 12, none⟩ x12).setCell ⟨g, 13, none⟩ x13).setCell ⟨g, 14, none⟩ x14).setCell ⟨g, 15, none⟩ x15) g t #[x0, x1, x2, x3, x4, x5, x6, x7, x8, x9, x10, x11, x12, x13, x14, x15] := h15.set_at 15 x15
  exact h16

theorem far16 (W : World) (g : Nat) (x0 x1 x2 x3 x4 x5 x6 x7 x8 x9 x10 x11 x12 x13 x14 x15 : Value) (k : Nat) (hk : k ≠ g) : ((((((((((((((((W.setCell ⟨g, 0, none⟩ x0).setCell ⟨g, 1, none⟩ x1).setCell ⟨g, 2, none⟩ x2).setCell ⟨g, 3, none⟩ x3).setCell ⟨g, 4, none⟩ x4).setCell ⟨g, 5, none⟩ x5).setCell ⟨g, 6, none⟩ x6).setCell ⟨g, 7, none⟩ x7).setCell ⟨g, 8, none⟩ x8).setCell ⟨g, 9, none⟩ x9).setCell ⟨g, 10, none⟩ x10).setCell ⟨g, 11, none⟩ x11).setCell ⟨g, 12, none⟩ x12).setCell ⟨g, 13, none⟩ x13).setCell ⟨g, 14, none⟩ x14).setCell ⟨g, 15, none⟩ x15).heap[k]? = W.heap[k]? := by
  exact (Below.heap_setCell (((((((((((((((W.setCell ⟨g, 0, none⟩ x0).setCell ⟨g, 1, none⟩ x1).setCell ⟨g, 2, none⟩ x2).setCell ⟨g, 3, none⟩ x3).setCell ⟨g, 4, none⟩ x4).setCell ⟨g, 5, none⟩ x5).setCell ⟨g, 6, none⟩ x6).setCell ⟨g, 7, none⟩ x7).setCell ⟨g, 8, none⟩ x8).setCell ⟨g, 9, none⟩ x9).setCell ⟨g, 10, none⟩ x10).setCell ⟨g, 11, none⟩ x11).setCell ⟨g, 12, none⟩ x12).setCell ⟨g, 13, none⟩ x13).setCell ⟨g, 14, none⟩ x14) ⟨g, 15, none⟩ x15 k hk).trans ((Below.heap_setCell ((((((((((((((W.setCell ⟨g, 0, none⟩ x0).setCell ⟨g, 1, none⟩ x1).setCell ⟨g, 2, none⟩ x2).setCell ⟨g, 3, none⟩ x3).setCell ⟨g, 4, none⟩ x4).setCell ⟨g, 5, none⟩ x5).setCell ⟨g, 6, none⟩ x6).setCell ⟨g, 7, none⟩ x7).setCell ⟨g, 8, none⟩ x8).setCell ⟨g, 9, none⟩ x9).setCell ⟨g, 10, none⟩ x10).setCell ⟨g, 11, none⟩ x11).setCell ⟨g, 12, none⟩ x12).setCell ⟨g, 13, none⟩ x13) ⟨g, 14, none⟩ x14 k hk).trans ((Below.heap_setCell (((((((((((((W.setCell ⟨g, 0, none⟩ x0).setCell ⟨g, 1, none⟩ x1).setCell ⟨g, 2, none⟩ x2).setCell ⟨g, 3, none⟩ x3).setCell ⟨g, 4, none⟩ x4).setCell ⟨g, 5, none⟩ x5).setCell ⟨g, 6, none⟩ x6).setCell ⟨g, 7, none⟩ x7).setCell ⟨g, 8, none⟩ x8).setCell ⟨g, 9, none⟩ x9).setCell ⟨g, 10, none⟩ x10).setCell ⟨g, 11, none⟩ x11).setCell ⟨g, 12, none⟩ x12) ⟨g, 13, none⟩ x13 k hk).trans ((Below.heap_setCell ((((((((((((W.setCell ⟨g, 0, none⟩ x0).setCell ⟨g, 1, none⟩ x1).setCell ⟨g, 2, none⟩ x2).setCell ⟨g, 3, none⟩ x3).setCell ⟨g, 4, none⟩ x4).setCell ⟨g, 5, none⟩ x5).setCell ⟨g, 6, none⟩ x6).setCell ⟨g, 7, none⟩ x7).setCell ⟨g, 8, none⟩ x8).setCell ⟨g, 9, none⟩ x9).setCell ⟨g, 10, none⟩ x10).setCell ⟨g, 11, none⟩ x11) ⟨g, 12, none⟩ x12 k hk).trans ((Below.heap_setCell (((((((((((W.setCell ⟨g, 0, none⟩ x0).setCell ⟨g, 1, none⟩ x1).setCell ⟨g, 2, none⟩ x2).setCell ⟨g, 3, none⟩ x3).setCell ⟨g, 4, none⟩ x4).setCell ⟨g, 5, none⟩ x5).setCell ⟨g, 6, none⟩ x6).setCell ⟨g, 7, none⟩ x7).setCell ⟨g, 8, none⟩ x8).setCell ⟨g, 9, none⟩ x9).setCell ⟨g, 10, none⟩ x10) ⟨g, 11, none⟩ x11 k hk).trans ((Below.heap_setCell ((((((((((W.setCell ⟨g, 0, none⟩ x0).setCell ⟨g, 1, none⟩ x1).setCell ⟨g, 2, none⟩ x2).setCell ⟨g, 3, none⟩ x3).setCell ⟨g, 4, none⟩ x4).setCell ⟨g, 5, none⟩ x5).setCell ⟨g, 6, none⟩ x6).setCell ⟨g, 7, none⟩ x7).setCell ⟨g, 8, none⟩ x8).setCell ⟨g, 9, none⟩ x9) ⟨g, 10, none⟩ x10 k hk).trans ((Below.heap_setCell (((((((((W.setCell ⟨g, 0, none⟩ x0).setCell ⟨g, 1, none⟩ x1).setCell ⟨g, 2, none⟩ x2).setCell ⟨g, 3, none⟩ x3).setCell ⟨g, 4, none⟩ x4).setCell ⟨g, 5, none⟩ x5).setCell ⟨g, 6, none⟩ x6).setCell ⟨g, 7, none⟩ x7).setCell ⟨g, 8, none⟩ x8) ⟨g, 9, none⟩ x9 k hk).trans ((Below.heap_setCell ((((((((W.setCell ⟨g, 0, none⟩ x0).setCell ⟨g, 1, none⟩ x1).setCell ⟨g, 2, none⟩ x2).setCell ⟨g, 3, none⟩ x3).setCell ⟨g, 4, none⟩ x4).setCell ⟨g, 5, none⟩ x5).setCell ⟨g, 6, none⟩ x6).setCell ⟨g, 7, none⟩ x7) ⟨g, 8, none⟩ x8 k hk).trans ((Below.heap_setCell (((((((W.setCell ⟨g, 0, none⟩ x0).setCell ⟨g, 1, none⟩ x1).setCell ⟨g, 2, none⟩ x2).setCell ⟨g, 3, none⟩ x3).setCell ⟨g, 4, none⟩ x4).setCell ⟨g, 5, none⟩ x5).setCell ⟨g, 6, none⟩ x6) ⟨g, 7, none⟩ x7 k hk).trans ((Below.heap_setCell ((((((W.setCell ⟨g, 0, none⟩ x0).setCell ⟨g, 1, none⟩ x1).setCell ⟨g, 2, none⟩ x2).setCell ⟨g, 3, none⟩ x3).setCell ⟨g, 4, none⟩ x4).setCell ⟨g, 5, none⟩ x5) ⟨g, 6, none⟩ x6 k hk).trans ((Below.heap_setCell (((((W.setCell ⟨g, 0, none⟩ x0).setCell ⟨g, 1, none⟩ x1).setCell ⟨g, 2, none⟩ x2).setCell ⟨g, 3, none⟩ x3).setCell ⟨g, 4, none⟩ x4) ⟨g, 5, none⟩ x5 k hk).trans ((Below.heap_setCell ((((W.setCell ⟨g, 0, none⟩ x0).setCell ⟨g, 1, none⟩ x1).setCell ⟨g, 2, none⟩ x2).setCell ⟨g, 3, none⟩ x3) ⟨g, 4, none⟩ x4 k hk).trans ((Below.heap_setCell (((W.setCell ⟨g, 0, none⟩ x0).setCell ⟨g, 1, none⟩ x1).setCell ⟨g, 2, none⟩ x2) ⟨g, 3, none⟩ x3 k hk).trans ((Below.heap_setCell ((W.setCell ⟨g, 0, none⟩ x0).setCell ⟨g, 1, none⟩ x1) ⟨g, 2, none⟩ x2 k hk).trans ((Below.heap_setCell (W.setCell ⟨g, 0, none⟩ x0) ⟨g, 1, none⟩ x1 k hk).trans (Below.heap_setCell W ⟨g, 0, none⟩ x0 k hk)))))))))))))))
theorem below16 {w W : World} {g : Nat} (x0 x1 x2 x3 x4 x5 x6 x7 x8 x9 x10 x11 x12 x13 x14 x15 : Value) (hg : w.heap.size ≤ g) (hb : Below w.heap.size w W) : Below w.heap.size w ((((((((((((((((W.setCell ⟨g, 0, none⟩ x0).setCell ⟨g, 1, none⟩ x1).setCell ⟨g, 2, none⟩ x2).setCell ⟨g, 3, none⟩ x3).setCell ⟨g, 4, none⟩ x4).setCell ⟨g, 5, none⟩ x5).setCell ⟨g, 6, none⟩ x6).setCell ⟨g, 7, none⟩ x7).setCell ⟨g, 8, none⟩ x8).setCell ⟨g, 9, none⟩ x9).setCell ⟨g, 10, none⟩ x10).setCell ⟨g, 11, none⟩ x11).setCell ⟨g, 12, none⟩ x12).setCell ⟨g, 13, none⟩ x13).setCell ⟨g, 14, none⟩ x14).setCell ⟨g, 15, none⟩ x15) := by
  exact ((((((((((((((((hb.setCell (p := ⟨g, 0, none⟩) hg x0).setCell (p := ⟨g, 1, none⟩) hg x1).setCell (p := ⟨g, 2, none⟩) hg x2).setCell (p := ⟨g, 3, none⟩) hg x3).setCell (p := ⟨g, 4, none⟩) hg x4).setCell (p := ⟨g, 5, none⟩) hg x5).setCell (p := ⟨g, 6, none⟩) hg x6).setCell (p := ⟨g, 7, none⟩) hg x7).setCell (p := ⟨g, 8, none⟩) hg x8).setCell (p := ⟨g, 9, none⟩) hg x9).setCell (p := ⟨g, 10, none⟩) hg x10).setCell (p := ⟨g, 11, none⟩) hg x11).setCell (p := ⟨g, 12, none⟩) hg x12).setCell (p := ⟨g, 13, none⟩) hg x13).setCell (p := ⟨g, 14, none⟩) hg x14).setCell (p := ⟨g, 15, none⟩) hg x15)

theorem Held.row {W : World} {g k : Nat} {t : TypeId} {cs : Array Value} (h : Held W g t cs) (hk : g ≠ k) (cs' : Array Value) : Held (W.setRow k cs') g t cs := (setRow_far W k cs' g hk).trans h
theorem Held.rowSelf {W : World} {g : Nat} {t : TypeId} {cs : Array Value} (h : Held W g t cs) (cs' : Array Value) : Held (W.setRow g cs') g t cs' := setRow_heap W g cs cs' t (0, 0) h
end Go.Proofs.YtjibkgildfjjoaaGreatDoor

/- Layer 9: frames, acts, ends that lie in variables' blocks. -/
namespace Go.Proofs.YtjibkgildfjjoaaGreatDoor
set_option linter.unusedVariables false
set_option linter.unusedSimpArgs false
open Gm Go.RowKit Go.ChangeShapes Go.WideShapes Go.ChangeAt Go.Sort

/-- The cells of a frame. -/
structure FC (cs : Array Value) (F : Frm) : Prop where
  size : cs.size = 16
  one : cs.all (·.oneCell') = true
  c0 : cs[0]? = some (.int .i64 F.fn)
  c1 : cs[1]? = some (.int .i64 F.pc)
  c2 : ∃ A c, cs[2]? = some (.slice A F.stk.length c)
  c3 : ∃ A c, cs[3]? = some (.slice A F.loc.length c)
  c4 : ∃ A c, cs[4]? = some (.slice A F.slt.length c)
  c5 : cs[5]? = some (.int .i64 F.seed)
  c6 : cs[6]? = some (.int .i64 F.spn)
  c7 : cs[7]? = some (.int .i64 F.drw)
  c8 : cs[8]? = some (.int .i64 F.st)
  c9 : cs[9]? = some (.int .i64 F.wt)
  c13 : cs[13]? = some (.int .i64 F.uat)
  c14 : cs[14]? = some (.int .i64 F.ugn)
  c15 : cs[15]? = some (.int .i64 F.usl)
theorem FrmAt.cells {w : World} {B : Nat} {v : Value} {F : Frm} (h : FrmAt w B v F) : ∃ cs, v = .agg cs ∧ FC cs F := by
  obtain ⟨A1, c1, A2, c2, A3, c3, rfl, _, _, _⟩ := h
  exact ⟨_, rfl, rfl, by simp [Value.oneCell'], rfl, rfl, ⟨_, _, rfl⟩, ⟨_, _, rfl⟩, ⟨_, _, rfl⟩, rfl, rfl, rfl, rfl, rfl, rfl, rfl, rfl⟩
theorem OwnF.cells {w : World} {B : Nat} {v : Value} {F : Frm} (h : OwnF w B v F) : ∃ cs, v = .agg cs ∧ FC cs F := h.at.cells
/-- No block is turned but block k, which is no list's. -/
structure KB (w w' : World) (k : Nat) : Prop where
  size : w.heap.size ≤ w'.heap.size
  block : ∀ g, g < w.heap.size → g ≠ k → w'.heap[g]? = w.heap[g]?
theorem KB.of_below {w w' : World} (h : Below w.heap.size w w') (k : Nat) : KB w w' k := ⟨h.size, fun g hg _ => h.block g hg⟩
theorem KB.row {w w' : World} {k : Nat} (h : KB w w' k) (cs : Array Value) : KB w (w'.setRow k cs) k := ⟨by simpa [World.setRow] using h.size, fun g hg hk => (setRow_far w' k cs g hk).trans (h.block g hg hk)⟩
theorem KB.new {w w' : World} {k j : Nat} (h : KB w w' k) (hj : w.heap.size ≤ j) (cs : Array Value) : KB w (w'.setRow j cs) k := ⟨by simpa [World.setRow] using h.size, fun g hg hk => (setRow_far w' j cs g (by omega)).trans (h.block g hg hk)⟩
theorem KB.alloc {w w' : World} {k : Nat} (h : KB w w' k) (o : Obj) : KB w (w'.alloc o) k := ⟨Nat.le_trans h.size (by simp), fun g hg hk => (Below.heap_alloc w' o g (Nat.lt_of_lt_of_le hg h.size)).trans (h.block g hg hk)⟩
theorem KB.held {w w' : World} {k g : Nat} {t : TypeId} {cs : Array Value} (h : KB w w' k) (hh : Held w g t cs) (hne : g ≠ k) : Held w' g t cs := (h.block g hh.lt hne).trans hh
/-- A block of another type is no list's. -/
theorem row_apart {w : World} {B n size k : Nat} {e t : TypeId} {v : Value} {xs : List Value} {cs : Array Value} (h : w.ownsRow B e size v n xs) (hk : Held w k t cs) (ht : t ≠ e) : ∀ g, v.ownBlock = some g → g ≠ k := by
  rintro g hg rfl
  rcases h.2 with ⟨rfl, _⟩ | ⟨g', cap, cur, rfl, _, hh, _⟩
  · simp [Value.ownBlock] at hg
  · simp only [Value.ownBlock, Option.some.injEq] at hg
    subst hg
    rw [Held] at hk
    rw [hk] at hh
    simp at hh
    exact ht hh.2
theorem OwnF.kb {w w' : World} {B k : Nat} {v : Value} {F : Frm} {t : TypeId} {cs : Array Value} (h : OwnF w B v F) (hk : Held w k t cs) (ht : t ≠ 38) (ht2 : t ≠ 96) (hb : KB w w' k) : OwnF w' B v F := by
  obtain ⟨s, l, o, rfl, h1, h2, h3⟩ := h
  exact ⟨s, l, o, rfl, row_same h1 fun g e => hb.block g (h1.lt g e).2 (row_apart h1 hk ht g e), row_same h2 fun g e => hb.block g (h2.lt g e).2 (row_apart h2 hk ht g e), row_same h3 fun g e => hb.block g (h3.lt g e).2 (row_apart h3 hk ht2 g e)⟩
theorem ActO.kb {w w' : World} {B k : Nat} {v : Value} {a : ActP} {t : TypeId} {cs : Array Value} (h : ActO w B v a) (hk : Held w k t cs) (ht : t ≠ 38) (hb : KB w w' k) : ActO w' B v a := by
  obtain ⟨A, c, rfl, h1⟩ := h
  exact ⟨A, c, rfl, row_same h1 fun g e => hb.block g (h1.lt g e).2 (row_apart h1 hk ht g e)⟩
theorem ActO.below {w w' : World} {B : Nat} {v : Value} {a : ActP} (h : ActO w B v a) (hb : Below w.heap.size w w') : ActO w' B v a := by
  obtain ⟨A, c, rfl, h1⟩ := h
  exact ⟨A, c, rfl, row_same h1 fun g e => hb.block g (h1.lt g e).2⟩
/-- The cells of an act. -/
structure AC (cs : Array Value) (a : ActP) : Prop where
  size : cs.size = 5
  one : cs.all (·.oneCell') = true
  c0 : cs[0]? = some (.int .i64 a.kd)
  c1 : cs[1]? = some (.int .i64 a.fn)
  c2 : cs[2]? = some (.int .i64 a.sl)
  c3 : cs[3]? = some (.int .i64 a.sd)
  c4 : ∃ A c, cs[4]? = some (.slice A a.ar.length c)
theorem ActO.cells {w : World} {B : Nat} {v : Value} {a : ActP} (h : ActO w B v a) : ∃ cs, v = .agg cs ∧ AC cs a := by
  obtain ⟨A, c, rfl, _⟩ := h
  exact ⟨_, rfl, rfl, by simp [Value.oneCell'], rfl, rfl, rfl, rfl, ⟨_, _, rfl⟩⟩
/-- Block g is a variable that holds this frame, this act. -/
structure FB (W : World) (B g : Nat) (cs : Array Value) (F : Frm) : Prop where
  held : Held W g 60 cs
  own : OwnF W 0 (.agg cs) F
  fc : FC cs F
  ge : B ≤ g
theorem FB.kb {W W' : World} {B g k : Nat} {cs cs0 : Array Value} {F : Frm} {t : TypeId} (h : FB W B g cs F) (hk : Held W k t cs0) (ht : t ≠ 38) (ht2 : t ≠ 96) (hb : KB W W' k) (hne : g ≠ k) : FB W' B g cs F := ⟨hb.held h.held hne, h.own.kb hk ht ht2 hb, h.fc, h.ge⟩
theorem FB.below {W W' : World} {B g : Nat} {cs : Array Value} {F : Frm} (h : FB W B g cs F) (hb : Below W.heap.size W W') : FB W' B g cs F := ⟨h.held.below hb, h.own.below hb, h.fc, h.ge⟩
theorem FB.frm {W : World} {B g : Nat} {cs : Array Value} {F : Frm} (h : FB W B g cs F) : FrmAt W W.heap.size (.agg cs) F := h.own.at
theorem FB.lt {W : World} {B g : Nat} {cs : Array Value} {F : Frm} (h : FB W B g cs F) : g < W.heap.size := h.held.lt
theorem tyFV : 60 ≠ 38 := by decide
theorem tyFS : 60 ≠ 96 := by decide
theorem held_ne {W : World} {g k : Nat} {t u : TypeId} {a b : Array Value} (h : Held W g t a) (h2 : Held W k u b) (hne : t ≠ u) : g ≠ k := by
  rintro rfl
  rw [Held] at h h2
  rw [h] at h2
  simp at h2
  exact hne h2.2
theorem below_row {B : Nat} {w W : World} (h : Below B w W) {k : Nat} (hk : B ≤ k) (cs : Array Value) : Below B w (W.setRow k cs) := below_setRow h hk cs
theorem FB.top {W : World} {B g : Nat} {cs : Array Value} {F : Frm} (h : FB W B g cs F) {x : V} (hx : F.stk = [x]) : ∃ b c, cs[2]? = some (.slice (some ⟨b, 0, none⟩) 1 c) ∧ W.cell? ⟨b, 0, none⟩ = some (.int .i64 x.1) ∧ W.cell? ⟨b, 1, none⟩ = some (.int .i64 x.2) := by
  obtain ⟨s, l, o, e, h1, _, _⟩ := h.own
  rw [hx] at h1
  obtain ⟨b, c', e2⟩ := own_form h1 (by simp)
  rw [e2] at h1 e
  have k := own_vs h1 (k := 0) (by simp)
  simp only [Value.agg.injEq] at e
  subst e
  exact ⟨b, c', rfl, k.1, k.2.1⟩
/-- Block g is a parameter that is this frame, whose lists lie below B. -/
structure PB (W : World) (B g : Nat) (cs : Array Value) (F : Frm) : Prop where
  held : Held W g 60 cs
  at_ : FrmAt W B (.agg cs) F
  fc : FC cs F
  le : B ≤ W.heap.size
theorem PB.below {W W' : World} {B g : Nat} {cs : Array Value} {F : Frm} (h : PB W B g cs F) (hb : Below W.heap.size W W') : PB W' B g cs F := ⟨h.held.below hb, h.at_.below hb h.le, h.fc, Nat.le_trans h.le hb.size⟩
theorem PB.frm {W : World} {B g : Nat} {cs : Array Value} {F : Frm} (h : PB W B g cs F) : FrmAt W W.heap.size (.agg cs) F := h.at_.more h.le
end Go.Proofs.YtjibkgildfjjoaaGreatDoor

/- Layer 9: the document's end, trap. -/
namespace Go.Proofs.YtjibkgildfjjoaaGreatDoor
set_option linter.unusedVariables false
set_option linter.unusedSimpArgs false
open Gm Go.RowKit Go.ChangeShapes Go.WideShapes Go.ChangeAt Go.Sort

end Go.Proofs.YtjibkgildfjjoaaGreatDoor

/- Layer 9: the document's trap. -/
namespace Go.Proofs.YtjibkgildfjjoaaGreatDoor
set_option linter.unusedVariables false
set_option linter.unusedSimpArgs false
open Gm Go.RowKit Go.ChangeShapes Go.WideShapes Go.ChangeAt Go.Sort

end Go.Proofs.YtjibkgildfjjoaaGreatDoor

/- Layer 9: the document's Copy: a frame in memory of its own. -/
namespace Go.Proofs.YtjibkgildfjjoaaGreatDoor
set_option linter.unusedVariables false
set_option linter.unusedSimpArgs false
open Gm Go.RowKit Go.ChangeShapes Go.WideShapes Go.ChangeAt Go.Sort

theorem row_later {u u' : World} {B n size : Nat} {e : TypeId} {v : Value} {xs : List Value} (h : u.ownsRow B e size v n xs) (hb : Below u.heap.size u u') : u'.ownsRow B e size v n xs :=
  row_same h fun g hgv => hb.block g (h.lt g hgv).2
end Go.Proofs.YtjibkgildfjjoaaGreatDoor

/- Drawn regions, way by way: the steps. -/
namespace Go.Proofs.YtjibkgildfjjoaaGreatDoor
set_option linter.unusedVariables false
set_option linter.unusedSimpArgs false
open Gm Go.RowKit Go.ChangeShapes Go.WideShapes Go.ChangeAt Go.Sort

theorem OwnF.alloc {w : World} {B : Nat} {v : Value} {F : Frm} (h : OwnF w B v F) (o : Obj) : OwnF (w.alloc o) B v F := h.below ((Below.refl _ _).alloc (Nat.le_refl _) _)
theorem ActO.alloc {w : World} {B : Nat} {v : Value} {a : ActP} (h : ActO w B v a) (o : Obj) : ActO (w.alloc o) B v a := h.below ((Below.refl _ _).alloc (Nat.le_refl _) _)
end Go.Proofs.YtjibkgildfjjoaaGreatDoor

/- Layer 9's code: whether one of a list of values is not valid. -/
namespace Go.Proofs.YtjibkgildfjjoaaGreatDoor
set_option linter.unusedVariables false
set_option linter.unusedSimpArgs false
open Gm Go.RowKit Go.ChangeShapes Go.WideShapes Go.ChangeAt Go.Sort

set_option maxHeartbeats 1000000 in
set_option maxRecDepth 100000 in
theorem newbad_any (v : V) (w : World) : Calls Tryz.prog 61 #[gv v.1 v.2] w fun e w' => e = .returned (.bool (!mayB v.1 v.2)) ∧ Below w.heap.size w w' := by
  have C := fun W => Lib.hid (may_any v.1 v.2 W)
  change ∀ W, Hid (Calls Tryz.prog 62 #[gv v.1 v.2] W fun e w' => e = .returned (.bool (mayB v.1 v.2)) ∧ Below W.heap.size W w') at C
  generalize mayB v.1 v.2 = b at *
  cases b
  all_goals
    go_enter Tryz.func61, Tryz.ntmps61
    go_wp2_with (go_at_call 62; (with_reducible refine (C _).out.mono ?_); rintro _ u ⟨rfl, hb⟩; have hbw := below_laid hb)
    go_ret
    exact ⟨rfl, hbw⟩
set_option maxHeartbeats 1000000 in
set_option maxRecDepth 100000 in
theorem anybad_any {B : Nat} {A : Option Addr} {l : List V} (c : Nat) (w : World) (h : VAt w B A l) (hl : l.length ≤ 1000) (hB : B ≤ w.heap.size) :
    Calls Tryz.prog 60 #[.slice A l.length c, fnS 61] w fun e w' => e = .returned (.bool (!l.all fun v => mayB v.1 v.2)) ∧ Below w.heap.size w w' := by
  have IX : Calls Tryz.prog 89 #[.slice A l.length c, fnS 61] w fun e w' => ∃ n : Int, e = .returned (.int .i64 n) ∧ (decide (0 ≤ n) = !l.all fun v => mayB v.1 v.2) ∧ Below w.heap.size w w' := by
    have HA := Lib.hid h
    have hl2 : (l.length : Int) ≤ 1000 := by omega
    clear h
    go_enter Tryz.func89, Tryz.ntmps89
    go_wp2
    go_loopw [8] (fun i W => ∃ j : Nat, j ≤ l.length ∧ i = .int .i64 j ∧ (∀ x ∈ l.take j, mayB x.1 x.2 = true) ∧ Below w.heap.size w W) (fun i _ => l.length - (intOf i).toNat)
    case atStart => exact ⟨0, by omega, rfl, by simp, Below.refl _ _⟩
    case round =>
      obtain ⟨j, hj, rfl, hall, hw⟩ := hrel
      have HJ := Lib.hid hall
      clear hall
      have hwz := hw.size
      by_cases hlt : j < l.length
      · obtain ⟨b, off, rfl, hbl, hd⟩ := (HA.out.below hw hB) (by omega)
        obtain ⟨d0, d1⟩ := hd j hlt
        clear hd
        have hjt : l.take (j + 1) = l.take j ++ [l[j]] := List.take_succ_eq_append_getElem hlt
        have hjm : l[j] ∈ l := List.getElem_mem hlt
        have HJT := Lib.hid hjt
        have HJM := Lib.hid hjm
        have CM := fun W => Lib.hid (newbad_any l[j] W)
        generalize l[j] = x at *
        clear hjt hjm
        cases hx : mayB x.1 x.2
        · rw [hx] at CM
          have hf : (l.all fun v => mayB v.1 v.2) = false := by
            rw [← Bool.not_eq_true, List.all_eq_true]
            intro h
            have := h _ HJM.out
            rw [hx] at this
            cases this
          have HF := Lib.hid hf
          clear hf hx
          go_wp2_with (go_at_call 61; (with_reducible refine (CM _).out.mono ?_); rintro e v ⟨rfl, hb⟩; replace hw := Below.step hw hb; clear hb)
          go_ret
          exact ⟨_, rfl, by rw [HF.out]; simp, hw⟩
        · rw [hx] at CM
          have HX := Lib.hid hx
          clear hx
          go_wp2_with (go_at_call 61; (with_reducible refine (CM _).out.mono ?_); rintro e v ⟨rfl, hb⟩; replace hw := Below.step hw hb; clear hb)
          go_roundw
          case rel =>
            refine ⟨j + 1, by omega, by go_num, ?_, hw⟩
            rw [HJT.out]
            intro y hy
            rcases List.mem_append.1 hy with h | h
            · exact HJ.out y h
            · simp only [List.mem_singleton] at h
              subst h
              exact HX.out
          case measure => simp [intOf]; omega
      · obtain rfl : j = l.length := by omega
        have hall := HJ.out
        rw [List.take_length] at hall
        have hf : (l.all fun v => mayB v.1 v.2) = true := List.all_eq_true.2 hall
        have HF := Lib.hid hf
        clear hf hall
        go_wp2_with fail
        go_ret
        exact ⟨_, rfl, by rw [HF.out]; simp, hw⟩
  have IX2 := Lib.hid IX
  clear IX h
  generalize (l.all fun v => mayB v.1 v.2) = r at *
  go_enter Tryz.func60, Tryz.ntmps60
  go_wp2_with (go_at_call 89; (with_reducible refine IX2.out.mono ?_); rintro _ u ⟨n, rfl, hn, hb⟩)
  go_ret
  exact ⟨ret_bool (by rw [← hn]), hb⟩
end Go.Proofs.YtjibkgildfjjoaaGreatDoor

/- Layer 9: the listed variables, out of what they read as: a struct of ints; both tables. -/
namespace Go.Proofs.YtjibkgildfjjoaaGreatDoor
set_option linter.unusedVariables false
set_option linter.unusedSimpArgs false
open Go Go.Lib

/-- A listed struct of one-cell fields is what stands in the variable's block. -/
theorem held_of_laid1 {P : Program} {W : World} {name : String} {ls : List Lit} {rest : List (String × DataW Unit)} {g : Nat} {t : TypeId} {k : Nat} {fs : Array Field}
    (hg : P.globalNamed name = some g) (hty : (P.globals[g]?).map (·.type) = some t) (ht : P.underlying t = some (.struct fs)) (hct : P.cellsOf t = k) (hfl : fs.toList.length = k)
    (hf : (List.range k).all (fun j => match fs.toList[j]? with | some f => f.offset == j && P.cellsOf f.type == 1 && plainB P f.type | none => false) = true) (hn : 0 < ls.length)
    (h : laidMet P ((name, .agg (ls.map .lit)) :: rest) W) : ∃ ty, W.heap[g]? = some (.cells (ls.map Lit.value).toArray ty (0, 0)) := by
  obtain ⟨ps, ⟨g', t', cs, fuel, p, q, hg', ht', hvar, hd, _, hps⟩, _, hall⟩ := h
  obtain rfl := Option.some.inj (hg.symm.trans hg')
  obtain rfl := Option.some.inj (hty.symm.trans ht')
  have hcs := chunk_of_trod ht hct hfl hf hd
  have hpos : 0 < cs.size := by
    have : cs.toList.length = ls.length := by rw [hcs]; simp
    have h3 : cs.size = cs.toList.length := by simp
    omega
  obtain ⟨⟨c, ty, hc⟩, _⟩ := hall g 0 (by
    rw [hps]
    refine List.mem_append_left _ (List.mem_append_left _ ?_)
    exact MemPlace.mem_row.2 ⟨0, hpos, by simp⟩)
  have hv : W.var? P name = some c := by unfold World.var?; rw [hg]; simp [hc]
  obtain rfl := Option.some.inj (hv.symm.trans hvar)
  refine ⟨ty, ?_⟩
  rw [hc]
  congr 2
  exact Array.toList_inj.1 (by rw [hcs])
def Nob (W : World) : Prop := ∃ ty, Held W 1 ty #[.int .i64 (-1), .int .i64 0]
theorem nob_global : Tryz.prog.globalNamed "transhumance/frame.nobody" = some 1 := by kernel_rfl
theorem nob_type : (Tryz.prog.globals[1]?).map (·.type) = some 36 := by kernel_rfl
theorem nob_cells : Tryz.prog.cellsOf 36 = 2 := by kernel_rfl
theorem nob_is : Rows.laid_transhumance_frame_nobody (H := Unit) = .agg ([Lit.int .i64 (-1), Lit.int .i64 0].map .lit) := by kernel_rfl
theorem nob_of_laid {W : World} {rest : List (String × DataW Unit)} (h : laidMet Tryz.prog (("transhumance/frame.nobody", Rows.laid_transhumance_frame_nobody) :: rest) W) : Nob W := by
  rw [nob_is] at h
  exact held_of_laid1 nob_global nob_type Tryz.underlying36 nob_cells rfl (by kernel_rfl) (by decide) h
theorem tabB_of {W : World} (h1 : Otab W) (h2 : Nob W) : TabB W W.heap.size := ⟨h1, h1.lt, h2, by obtain ⟨_, h⟩ := h2; exact h.lt⟩
end Go.Proofs.YtjibkgildfjjoaaGreatDoor

