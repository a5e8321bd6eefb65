/- Layer 9, plain: frames, and what an instruction does with one. -/
import Derived.Test.YtjibkgildfjjoaaDoorzKit
import Derived.Test.YtjibkgildfjjoaaDoorzPw
import Derived.Test.YtjibkgildfjjoaaDoorzHd
import Derived.Test.YtjibkgildfjjoaaDoorzFmb
import Derived.Deep.AppendLies
import Derived.Laws.OwnMore
import Derived.Test.YtjibkgildfjjoaaDoorzGw
import Derived.Test.YtjibkgildfjjoaaDoorzQt
import Derived.Deep.RegionHeld3
import Derived.Deep.DeepCutAuto
import Derived.Deep.CutBlock
import Derived.BigQuiet
import Derived.Laws.CopyOwn
import Derived.WalkLawsBesides
import Derived.Lib.SliceRun
import Derived.Test.YtjibkgildfjjoaaDoorzSdm
import Derived.Deep.QuietTactic
import Derived.Test.YtjibkgildfjjoaaDoorzRw
import Derived.Deep.MidRow
import Derived.Laws.CopyRow
import Derived.Laws.IdiomCopy
namespace Go.Proofs.YtjibkgildfjjoaaDoor
set_option linter.unusedVariables false
set_option linter.unusedSimpArgs false
open Gm Go Go.RowKit

/-- What an instruction asks for. -/
structure ActP where
  kd : Int
  fn : Int
  sl : Int
  sd : Int
  ar : List V
def act0 : ActP := ⟨0, 0, 0, 0, []⟩
def actK (k : Int) : ActP := ⟨k, 0, 0, 0, []⟩
def slt0 : Slt := ⟨0, 0, 0, 0, 0, 0⟩
def hasI (n : Nat) (i : Int) : Bool := decide (0 ≤ i) && decide (i < n)
def topF (f : Frm) : V := f.stk.getD (f.stk.length - 1) (0, 0)
def lowF (f : Frm) : V := f.stk.getD (f.stk.length - 2) (0, 0)
def newF (p : List Fun) (fn : Int) (args : List V) (s : Int) : Frm × Bool :=
  if mayP p = true ∧ hasI p.length fn = true ∧ isZ s = true then
    (match p[fn.toNat]? with
      | some g => if g.ar ≤ g.lo ∧ g.ar = args.length ∧ (args.all fun v => mayB v.1 v.2) = true
          then (⟨fn, 0, [], args ++ List.replicate (g.lo.toNat - args.length) (0, 0), List.replicate g.sl.toNat slt0, s, 0, 0, 0, 0, 0, 0, 0, -1, 0, 0⟩, true) else (frm0, false)
      | none => (frm0, false))
  else (frm0, false)

/-- What an instruction leaves as it is. -/
structure Keeps (f g : Frm) (k : Int) : Prop where
  fn : g.fn = f.fn
  seed : g.seed = f.seed
  uat : g.uat = f.uat
  ugn : g.ugn = f.ugn
  usl : g.usl = f.usl
  loc : g.loc.length = f.loc.length
  slt : g.slt.length = f.slt.length
  spn : g.spn = f.spn ∨ (k = 2 ∧ g.spn = wrap64 (f.spn + 1))
  drw : g.drw = f.drw ∨ g.drw = wrap64 (f.drw + 1)
theorem Keeps.refl (f : Frm) (k : Int) : Keeps f f k := ⟨rfl, rfl, rfl, rfl, rfl, rfl, rfl, .inl rfl, .inl rfl⟩
end Go.Proofs.YtjibkgildfjjoaaDoor

/- Layer 9: lists of values and of slots in memory, read and of one's own; frames in memory. -/
namespace Go.Proofs.YtjibkgildfjjoaaDoor
set_option linter.unusedVariables false
set_option linter.unusedSimpArgs false
open Gm Go.RowKit Go.ChangeShapes Go.WideShapes Go.ChangeAt Go.Sort





end Go.Proofs.YtjibkgildfjjoaaDoor

/- Layer 9: the runner in memory: a frame of the call's own, and its program. -/
namespace Go.Proofs.YtjibkgildfjjoaaDoor
set_option linter.unusedVariables false
set_option linter.unusedSimpArgs false
open Gm Go.RowKit Go.ChangeShapes Go.WideShapes Go.ChangeAt Go.Sort

/-- What the calls need of the world: the tables, below B. -/
structure TabB (w : World) (B : Nat) : Prop where
  ot : Otab w
  otl : 2 < B
  nb : ∃ ty, Held w 1 ty #[.int .i64 (-1), .int .i64 0]
  nbl : 1 < B
theorem TabB.below {w w' : World} {B C : Nat} (h : TabB w B) (hb : Below C w w') (hC : B ≤ C) : TabB w' B :=
  ⟨h.ot.imp fun _ k => (hb.block _ (Nat.lt_of_lt_of_le h.otl hC)).trans k, h.otl, h.nb.imp fun _ k => (hb.block _ (Nat.lt_of_lt_of_le h.nbl hC)).trans k, h.nbl⟩
theorem TabB.more {w : World} {B C : Nat} (h : TabB w B) (hC : B ≤ C) : TabB w C := ⟨h.ot, Nat.lt_of_lt_of_le h.otl hC, h.nb, Nat.lt_of_lt_of_le h.nbl hC⟩

/-- Block g is none of the runner's. -/
structure Off4 (r : Nat) (s l o : Value) (g : Nat) : Prop where
  r : g ≠ r
  s : s.ownBlock ≠ some g
  l : l.ownBlock ≠ some g
  o : o.ownBlock ≠ some g
/-- No block is turned but the runner's. -/
structure Kp (r : Nat) (s l o : Value) (w w' : World) : Prop where
  os : w'.os = w.os
  tape : w'.tape = w.tape
  output : w'.output = w.output
  size : w.heap.size ≤ w'.heap.size
  block : ∀ k, k < w.heap.size → Off4 r s l o k → w'.heap[k]? = w.heap[k]?
theorem Kp.refl (r : Nat) (s l o : Value) (w : World) : Kp r s l o w w := ⟨rfl, rfl, rfl, Nat.le_refl _, fun _ _ _ => rfl⟩
theorem Kp.of_below {r : Nat} {s l o : Value} {w w' : World} (h : Below w.heap.size w w') : Kp r s l o w w' := ⟨h.os, h.tape, h.output, h.size, fun k hk _ => h.block k hk⟩
theorem Kp.set {r : Nat} {s l o : Value} {w w' : World} (h : Kp r s l o w w') {g : Nat} (hg : g = r ∨ s.ownBlock = some g ∨ l.ownBlock = some g ∨ o.ownBlock = some g) (i : Nat) (x : Value) : Kp r s l o w (w'.setCell ⟨g, i, none⟩ x) :=
  ⟨h.os, h.tape, h.output, by simpa [World.setCell] using h.size, fun k hk ho => (Below.heap_setCell w' ⟨g, i, none⟩ x k (by
    show k ≠ g
    rintro rfl
    rcases hg with e | e | e | e
    · exact ho.r e
    · exact ho.s e
    · exact ho.l e
    · exact ho.o e)).trans (h.block k hk ho)⟩
theorem Kp.grown {r : Nat} {s l o : Value} {w w1 w2 : World} (h : Kp r s l o w w1) {g : Option Nat} (hg : w1.grownBy w2 g) (hs : ∀ b, g = some b → s.ownBlock = some b ∨ w.heap.size ≤ b) : Kp r s l o w w2 :=
  ⟨hg.os.trans h.os, hg.tape.trans h.tape, hg.output.trans h.output, Nat.le_trans h.size hg.size, fun k hk ho => (hg.block k (Nat.lt_of_lt_of_le hk h.size) (by
    intro e
    rcases hs k e.symm with e | e
    · exact ho.s e
    · omega)).trans (h.block k hk ho)⟩

section
variable {w w' : World} {B r : Nat} {pv l o s : Value} {f : Frm}
end
/-- What an instruction asks for, as a value. -/
abbrev akv (k : Int) : Value := .agg #[.int .i64 k, .int .i64 0, .int .i64 0, .int .i64 0, .slice none 0 0]
theorem own_form {w : World} {B size n : Nat} {e : TypeId} {v : Value} {xs : List Value} (h : w.ownsRow B e size v n xs) (h0 : 0 < n) : ∃ g c, v = .slice (some ⟨g, 0, none⟩) n c := by
  rcases h.2 with ⟨_, e0⟩ | ⟨g, cap, cur, e, _⟩
  · omega
  · exact ⟨g, cap, e⟩
theorem own_fz {w : World} {B size n c g : Nat} {e : TypeId} {xs : List Value} (h : w.ownsRow B e size (.slice (some ⟨g, 0, none⟩) n c) n xs) (i : Nat) : w.frozen? ⟨g, i, none⟩ = false := by
  rcases h.2 with ⟨e0, _⟩ | ⟨g', cap, cur, e, _, hg, _⟩
  · simp at e0
  · simp only [Value.slice.injEq, Option.some.injEq, Addr.mk.injEq, and_true, true_and] at e
    obtain ⟨rfl, rfl⟩ := e
    exact fz_at hg i
theorem own_vs {w : World} {B n c g : Nat} {l : List V} (h : OwnVs w B (.slice (some ⟨g, 0, none⟩) n c) l) {k : Nat} (hk : k < l.length) :
    w.cell? ⟨g, k * 2, none⟩ = some (.int .i64 l[k].1) ∧ w.cell? ⟨g, k * 2 + 1, none⟩ = some (.int .i64 l[k].2) ∧ w.frozen? ⟨g, k * 2, none⟩ = false ∧ w.frozen? ⟨g, k * 2 + 1, none⟩ = false := by
  obtain rfl := h.len
  obtain ⟨e0, e1⟩ := flatV_at l k hk
  exact ⟨(h.cellAt (k * 2) (by omega)).trans e0, (h.cellAt (k * 2 + 1) (by omega)).trans e1, own_fz h _, own_fz h _⟩
end Go.Proofs.YtjibkgildfjjoaaDoor

/- Layer 9's code: whether there is an element, copies of lists, of a frame. -/
namespace Go.Proofs.YtjibkgildfjjoaaDoor
set_option linter.unusedVariables false
set_option linter.unusedSimpArgs false
open Gm Go.RowKit Go.ChangeShapes Go.WideShapes Go.ChangeAt Go.Sort

set_option maxHeartbeats 1000000 in
theorem hasF_any (A : Option Addr) (n c : Nat) (i : Int) : Cs Tryd.prog 50 #[.slice A n c, .int .i64 i] (.bool (hasI n i)) := fun w => by
  unfold hasI
  by_cases h : 0 ≤ i
  · by_cases h' : i < n
    all_goals
      go_enter Tryd.func50, Tryd.ntmps50
      go_wp2_with fail
      go_ret
      simp [h, h']
  · go_enter Tryd.func50, Tryd.ntmps50
    go_wp2_with fail
    go_ret
    exact ⟨by rw [decide_eq_false (by omega : ¬ 0 ≤ i)]; rfl, rfl⟩
end Go.Proofs.YtjibkgildfjjoaaDoor

/- Layer 9's code: the runner ends, goes on, pushes, takes. -/
namespace Go.Proofs.YtjibkgildfjjoaaDoor
set_option linter.unusedVariables false
set_option linter.unusedSimpArgs false
open Gm Go.RowKit Go.ChangeShapes Go.WideShapes Go.ChangeAt Go.Sort

section
variable {B r : Nat} {pv l o s : Value} {f : Frm}

/-- The upper values of a list. -/
theorem VAt.drop {w : World} {C b off : Nat} {l : List V} (h : VAt w C (some ⟨b, off, none⟩) l) (m : Nat) : VAt w C (some ⟨b, off + m * 2, none⟩) (l.drop m) := fun h0 => by
  rw [List.length_drop] at h0
  obtain ⟨b', off', e, hlt, hc⟩ := h (by omega)
  simp at e
  obtain ⟨rfl, rfl⟩ := e
  refine ⟨b, off + m * 2, rfl, hlt, fun j hj => ?_⟩
  rw [List.length_drop] at hj
  have := hc (m + j) (by omega)
  rw [List.getElem_drop]
  rw [show off + m * 2 + j * 2 = off + (m + j) * 2 by omega]
  exact this
end
end Go.Proofs.YtjibkgildfjjoaaDoor

/- Layer 9's code: the runner pops; what two values make; the instructions that only move values. -/
namespace Go.Proofs.YtjibkgildfjjoaaDoor
set_option linter.unusedVariables false
set_option linter.unusedSimpArgs false
open Gm Go.RowKit Go.ChangeShapes Go.WideShapes Go.ChangeAt Go.Sort

section
variable {B r : Nat} {pv l o s : Value} {f : Frm}

end
end Go.Proofs.YtjibkgildfjjoaaDoor

/- Layer 9's code: the instructions that only move values. -/
namespace Go.Proofs.YtjibkgildfjjoaaDoor
set_option linter.unusedVariables false
set_option linter.unusedSimpArgs false
open Gm Go.RowKit Go.ChangeShapes Go.WideShapes Go.ChangeAt Go.Sort

section
variable {B r : Nat} {pv l o s : Value} {f : Frm}

end
end Go.Proofs.YtjibkgildfjjoaaDoor

/- Layer 9's code: more instructions that only move values. -/
namespace Go.Proofs.YtjibkgildfjjoaaDoor
set_option linter.unusedVariables false
set_option linter.unusedSimpArgs false
open Gm Go.RowKit Go.ChangeShapes Go.WideShapes Go.ChangeAt Go.Sort

section
variable {B r : Nat} {pv l o s : Value} {f : Frm}

end
end Go.Proofs.YtjibkgildfjjoaaDoor

/- Layer 9's code: a value is stored into a local; all instructions that only move values. -/
namespace Go.Proofs.YtjibkgildfjjoaaDoor
set_option linter.unusedVariables false
set_option linter.unusedSimpArgs false
open Gm Go.RowKit Go.ChangeShapes Go.WideShapes Go.ChangeAt Go.Sort

section
variable {B r : Nat} {pv l o s : Value} {f : Frm}

end
end Go.Proofs.YtjibkgildfjjoaaDoor

/- Layer 9's code: the runner computes. -/
namespace Go.Proofs.YtjibkgildfjjoaaDoor
set_option linter.unusedVariables false
set_option linter.unusedSimpArgs false
open Gm Go.RowKit Go.ChangeShapes Go.WideShapes Go.ChangeAt Go.Sort

section
variable {B r : Nat} {pv l o s : Value} {f : Frm}
end
end Go.Proofs.YtjibkgildfjjoaaDoor

/- Layer 9's code: the runner asks for a child. -/
namespace Go.Proofs.YtjibkgildfjjoaaDoor
set_option linter.unusedVariables false
set_option linter.unusedSimpArgs false
open Gm Go.RowKit Go.ChangeShapes Go.WideShapes Go.ChangeAt Go.Sort

/-- What is asked for, read below B. -/
def ActAt (w : World) (B : Nat) (v : Value) (a : ActP) : Prop := ∃ A c, v = .agg #[.int .i64 a.kd, .int .i64 a.fn, .int .i64 a.sl, .int .i64 a.sd, .slice A a.ar.length c] ∧ VAt w B A a.ar
theorem ActAt.k (w : World) (B : Nat) (k : Int) : ActAt w B (akv k) (actK k) := ⟨none, 0, rfl, VAt.nil _ _ _⟩
theorem ActAt.z (w : World) (B : Nat) : ActAt w B (akv 0) act0 := ⟨none, 0, rfl, VAt.nil _ _ _⟩
theorem ActAt.below {w w' : World} {B C : Nat} {v : Value} {a : ActP} (h : ActAt w B v a) (hb : Below C w w') (hC : B ≤ C) : ActAt w' B v a := by
  obtain ⟨A, c, e, h⟩ := h
  exact ⟨A, c, e, h.below hb hC⟩
theorem ActAt.more {w : World} {B C : Nat} {v : Value} {a : ActP} (h : ActAt w B v a) (hC : B ≤ C) : ActAt w C v a := by
  obtain ⟨A, c, e, h⟩ := h
  exact ⟨A, c, e, h.more hC⟩
/-- What is asked for, its values the call's own. -/
def ActO (w : World) (B : Nat) (v : Value) (a : ActP) : Prop := ∃ A c, v = .agg #[.int .i64 a.kd, .int .i64 a.fn, .int .i64 a.sl, .int .i64 a.sd, .slice A a.ar.length c] ∧ OwnVs w B (.slice A a.ar.length c) a.ar
theorem ActO.k (w : World) (B : Nat) (k : Int) : ActO w B (akv k) (actK k) := ⟨none, 0, rfl, OwnVs.nil _ _⟩
theorem ActO.z (w : World) (B : Nat) : ActO w B (akv 0) act0 := ⟨none, 0, rfl, OwnVs.nil _ _⟩
theorem ActO.same {w w' : World} {B : Nat} {v : Value} {a : ActP} (h : ActO w B v a) (hb : ∀ g, B ≤ g → g < w.heap.size → w'.heap[g]? = w.heap[g]?) : ActO w' B v a := by
  obtain ⟨A, c, e, ho⟩ := h
  exact ⟨A, c, e, row_same ho fun g eg => hb g (ho.lt g eg).1 (ho.lt g eg).2⟩
theorem ActO.mono {w : World} {B C : Nat} {v : Value} {a : ActP} (h : ActO w B v a) (hC : C ≤ B) : ActO w C v a := by
  obtain ⟨A, c, e, ho⟩ := h
  exact ⟨A, c, e, row_mono ho hC⟩
theorem ActO.at {w : World} {B : Nat} {v : Value} {a : ActP} (h : ActO w B v a) : ActAt w w.heap.size v a := by
  obtain ⟨A, c, e, ho⟩ := h
  obtain ⟨A9, c9, e9, hv9⟩ := ho.lies
  simp only [Value.slice.injEq] at e9
  obtain ⟨rfl, _, rfl⟩ := e9
  exact ⟨A, c, e, hv9⟩
section
variable {B r : Nat} {pv l o s : Value} {f : Frm}
/-- The cells that the region reads. -/
abbrev SpS (r b i : Nat) (x5 x6 x16 x0 : Value) (W : World) : Prop := W.cell? ⟨r, 5, none⟩ = some x5 ∧ W.cell? ⟨r, 6, none⟩ = some x6 ∧ W.cell? ⟨r, 16, none⟩ = some x16 ∧ W.cell? ⟨b, i, none⟩ = some x0
theorem SpS.below {r b i : Nat} {x5 x6 x16 x0 : Value} {W W' : World} (h : SpS r b i x5 x6 x16 x0 W) (hb : Below W.heap.size W W') : SpS r b i x5 x6 x16 x0 W' :=
  ⟨(hb.cell (p := ⟨r, 5, none⟩) (block_lt_of_cell h.1)).trans h.1, (hb.cell (p := ⟨r, 6, none⟩) (block_lt_of_cell h.2.1)).trans h.2.1, (hb.cell (p := ⟨r, 16, none⟩) (block_lt_of_cell h.2.2.1)).trans h.2.2.1, (hb.cell (p := ⟨b, i, none⟩) (block_lt_of_cell h.2.2.2)).trans h.2.2.2⟩
theorem SpS.far {r b i : Nat} {x5 x6 x16 x0 : Value} {W : World} (h : SpS r b i x5 x6 x16 x0 W) {g : Nat} (hr : g ≠ r) (hb : g ≠ b) (j : Nat) (y : Value) : SpS r b i x5 x6 x16 x0 (W.setCell ⟨g, j, none⟩ y) := by
  have e : ∀ k, k ≠ g → ∀ q, (W.setCell ⟨g, j, none⟩ y).cell? ⟨k, q, none⟩ = W.cell? ⟨k, q, none⟩ := fun k hk q => World.cell?_of_block (Below.heap_setCell W ⟨g, j, none⟩ y k hk)
  exact ⟨(e r hr.symm 5).trans h.1, (e r hr.symm 6).trans h.2.1, (e r hr.symm 16).trans h.2.2.1, (e b hb.symm i).trans h.2.2.2⟩
end
end Go.Proofs.YtjibkgildfjjoaaDoor

/- Layer 9's code: the runner joins. -/
namespace Go.Proofs.YtjibkgildfjjoaaDoor
set_option linter.unusedVariables false
set_option linter.unusedSimpArgs false
open Gm Go.RowKit Go.ChangeShapes Go.WideShapes Go.ChangeAt Go.Sort

section
variable {B r : Nat} {pv l o s : Value} {f : Frm}
end
end Go.Proofs.YtjibkgildfjjoaaDoor

/- Layer 9's code: an instruction executed. -/
namespace Go.Proofs.YtjibkgildfjjoaaDoor
set_option linter.unusedVariables false
set_option linter.unusedSimpArgs false
open Gm Go.RowKit Go.ChangeShapes Go.WideShapes Go.ChangeAt Go.Sort

section
variable {B r : Nat} {pv l o s : Value} {f : Frm}
end
end Go.Proofs.YtjibkgildfjjoaaDoor

/- Layer 9's code: what an instruction names, the depth it needs, the instruction at the place. -/
namespace Go.Proofs.YtjibkgildfjjoaaDoor
set_option linter.unusedVariables false
set_option linter.unusedSimpArgs false
open Gm Go.RowKit Go.ChangeShapes Go.WideShapes Go.ChangeAt Go.Sort

section
variable {B r : Nat} {pv l o s : Value} {f : Frm}
end
end Go.Proofs.YtjibkgildfjjoaaDoor

/- Layer 9's code: the instruction at the place. -/
namespace Go.Proofs.YtjibkgildfjjoaaDoor
set_option linter.unusedVariables false
set_option linter.unusedSimpArgs false
open Gm Go.RowKit Go.ChangeShapes Go.WideShapes Go.ChangeAt Go.Sort

theorem three {W : World} {g : Nat} {t : TypeId} {a0 a1 a2 : Value} (h : Held W g t #[a0, a1, a2]) : W.cell? ⟨g, 0, none⟩ = some a0 ∧ W.cell? ⟨g, 1, none⟩ = some a1 ∧ W.cell? ⟨g, 2, none⟩ = some a2 ∧
    W.frozen? ⟨g, 0, none⟩ = false ∧ W.frozen? ⟨g, 1, none⟩ = false ∧ W.frozen? ⟨g, 2, none⟩ = false := ⟨h.cell 0, h.cell 1, h.cell 2, h.fz 0, h.fz 1, h.fz 2⟩
section
variable {B r : Nat} {pv l o s : Value} {f : Frm}
end
end Go.Proofs.YtjibkgildfjjoaaDoor

/- Layer 9's code: the runner does an instruction. -/
namespace Go.Proofs.YtjibkgildfjjoaaDoor
set_option linter.unusedVariables false
set_option linter.unusedSimpArgs false
open Gm Go.RowKit Go.ChangeShapes Go.WideShapes Go.ChangeAt Go.Sort

section
variable {B r : Nat} {pv l o s : Value} {f : Frm}
end
end Go.Proofs.YtjibkgildfjjoaaDoor

/- Layer 9: the document's comparisons, where both are the same; whether a frame is small. -/
namespace Go.Proofs.YtjibkgildfjjoaaDoor
set_option linter.unusedVariables false
set_option linter.unusedSimpArgs false
open Gm Go.RowKit Go.ChangeShapes Go.WideShapes Go.ChangeAt Go.Sort

end Go.Proofs.YtjibkgildfjjoaaDoor

/- Layer 9's code: how a frame ends; whether one is the same as itself. -/
namespace Go.Proofs.YtjibkgildfjjoaaDoor
set_option linter.unusedVariables false
set_option linter.unusedSimpArgs false
open Gm Go.RowKit Go.ChangeShapes Go.WideShapes Go.ChangeAt Go.Sort

/-- The value of a function without captures. -/
abbrev fnS (n : Nat) : Value := .func (.func n) #[] #[]
/-- A result in a cell, and one that is not. -/
theorem results_ct {P : Program} {fn : Func} {p q : Tmp} {ty1 : TypeId} (h : fn.results = #[.cell p ty1, .tmp q]) (tmps : Array Value) (w : World) {a1 : Addr} {v1 v2 : Value} (hp : tmps.getD p undef = .pointer (some a1)) (hq : tmps.getD q undef = v2)
    (l1 : (loadVar ty1 a1).run P w = .ok v1 w) : (results fn tmps).run P w = .ok (.tuple #[v1, v2]) w := by
  have hp' : tmps[p]?.getD undef = .pointer (some a1) := by simpa using hp
  have hq' : tmps[q]?.getD undef = v2 := by simpa using hq
  simp [results, h, hp', hq', asAddr, l1]
end Go.Proofs.YtjibkgildfjjoaaDoor

/- Layer 9: blocks of sixteen cells, two results. -/
namespace Go.Proofs.YtjibkgildfjjoaaDoor
set_option linter.unusedVariables false
set_option linter.unusedSimpArgs false
open Gm Go.RowKit Go.ChangeShapes Go.WideShapes Go.ChangeAt Go.Sort

theorem set16 {W : World} {g : Nat} {t : TypeId} {a0 a1 a2 a3 a4 a5 a6 a7 a8 a9 a10 a11 a12 a13 a14 a15 : Value} (h : Held W g t #[a0, a1, a2, a3, a4, a5, a6, a7, a8, a9, a10, a11, a12, a13, a14, a15]) (x0 x1 x2 x3 x4 x5 x6 x7 x8 x9 x10 x11 x12 x13 x14 x15 : Value) :
    Held ((((((((((((((((W.setCell ⟨g, 0, none⟩ x0).setCell ⟨g, 1, none⟩ x1).setCell ⟨g, 2, none⟩ x2).setCell ⟨g, 3, none⟩ x3).setCell ⟨g, 4, none⟩ x4).setCell ⟨g, 5, none⟩ x5).setCell ⟨g, 6, none⟩ x6).setCell ⟨g, 7, none⟩ x7).setCell ⟨g, 8, none⟩ x8).setCell ⟨g, 9, none⟩ x9).setCell ⟨g, 10, none⟩ x10).setCell ⟨g, 11, none⟩ x11).setCell ⟨g, 12, none⟩ x12).setCell ⟨g, 13, none⟩ x13).setCell ⟨g, 14, none⟩ x14).setCell ⟨g, 15, none⟩ x15) g t #[x0, x1, x2, x3, x4, x5, x6, x7, x8, x9, x10, x11, x12, x13, x14, x15] := by
  have h1 : Held (W.setCell ⟨g, 0, none⟩ x0) g t #[x0, a1, a2, a3, a4, a5, a6, a7, a8, a9, a10, a11, a12, a13, a14, a15] := h.set_at 0 x0
  have h2 : Held ((W.setCell ⟨g, 0, none⟩ x0).setCell ⟨g, 1, none⟩ x1) g t #[x0, x1, a2, a3, a4, a5, a6, a7, a8, a9, a10, a11, a12, a13, a14, a15] := h1.set_at 1 x1
  have h3 : Held (((W.setCell ⟨g, 0, none⟩ x0).setCell ⟨g, 1, none⟩ x1).setCell ⟨g, 2, none⟩ x2) g t #[x0, x1, x2, a3, a4, a5, a6, a7, a8, a9, a10, a11, a12, a13, a14, a15] := h2.set_at 2 x2
  have h4 : Held ((((W.setCell ⟨g, 0, none⟩ x0).setCell ⟨g, 1, none⟩ x1).setCell ⟨g, 2, none⟩ x2).setCell ⟨g, 3, none⟩ x3) g t #[x0, x1, x2, x3, a4, a5, a6, a7, a8, a9, a10, a11, a12, a13, a14, a15] := h3.set_at 3 x3
  have h5 : Held (((((W.setCell ⟨g, 0, none⟩ x0).setCell ⟨g, 1, none⟩ x1).setCell ⟨g, 2, none⟩ x2).setCell ⟨g, 3, none⟩ x3).setCell ⟨g, 4, none⟩ x4) g t #[x0, x1, x2, x3, x4, a5, a6, a7, a8, a9, a10, a11, a12, a13, a14, a15] := h4.set_at 4 x4
  have h6 : Held ((((((W.setCell ⟨g, 0, none⟩ x0).setCell ⟨g, 1, none⟩ x1).setCell ⟨g, 2, none⟩ x2).setCell ⟨g, 3, none⟩ x3).setCell ⟨g, 4, none⟩ x4).setCell ⟨g, 5, none⟩ x5) g t #[x0, x1, x2, x3, x4, x5, a6, a7, a8, a9, a10, a11, a12, a13, a14, a15] := h5.set_at 5 x5
  have h7 : Held (((((((W.setCell ⟨g, 0, none⟩ x0).setCell ⟨g, 1, none⟩ x1).setCell ⟨g, 2, none⟩ x2).setCell ⟨g, 3, none⟩ x3).setCell ⟨g, 4, none⟩ x4).setCell ⟨g, 5, none⟩ x5).setCell ⟨g, 6, none⟩ x6) g t #[x0, x1, x2, x3, x4, x5, x6, a7, a8, a9, a10, a11, a12, a13, a14, a15] := h6.set_at 6 x6
  have h8 : Held ((((((((W.setCell ⟨g, 0, none⟩ x0).setCell ⟨g, 1, none⟩ x1).setCell ⟨g, 2, none⟩ x2).setCell ⟨g, 3, none⟩ x3).setCell ⟨g, 4, none⟩ x4).setCell ⟨g, 5, none⟩ x5).setCell ⟨g, 6, none⟩ x6).setCell ⟨g, 7, none⟩ x7) g t #[x0, x1, x2, x3, x4, x5, x6, x7, a8, a9, a10, a11, a12, a13, a14, a15] := h7.set_at 7 x7
  have h9 : Held (((((((((W.setCell ⟨g, 0, none⟩ x0).setCell ⟨g, 1, none⟩ x1).setCell ⟨g, 2, none⟩ x2).setCell ⟨g, 3, none⟩ x3).setCell ⟨g, 4, none⟩ x4).setCell ⟨g, 5, none⟩ x5).setCell ⟨g, 6, none⟩ x6).setCell ⟨g, 7, none⟩ x7).setCell ⟨g, 8, none⟩ x8) g t #[x0, x1, x2, x3, x4, x5, x6, x7, x8, a9, a10, a11, a12, a13, a14, a15] := h8.set_at 8 x8
  have h10 : Held ((((((((((W.setCell ⟨g, 0, none⟩ x0).setCell ⟨g, 1, none⟩ x1).setCell ⟨g, 2, none⟩ x2).setCell ⟨g, 3, none⟩ x3).setCell ⟨g, 4, none⟩ x4).setCell ⟨g, 5, none⟩ x5).setCell ⟨g, 6, none⟩ x6).setCell ⟨g, 7, none⟩ x7).setCell ⟨g, 8, none⟩ x8).setCell ⟨g, 9, none⟩ x9) g t #[x0, x1, x2, x3, x4, x5, x6, x7, x8, x9, a10, a11, a12, a13, a14, a15] := h9.set_at 9 x9
  have h11 : Held (((((((((((W.setCell ⟨g, 0, none⟩ x0).setCell ⟨g, 1, none⟩ x1).setCell ⟨g, 2, none⟩ x2).setCell ⟨g, 3, none⟩ x3).setCell ⟨g, 4, none⟩ x4).setCell ⟨g, 5, none⟩ x5).setCell ⟨g, 6, none⟩ x6).setCell ⟨g, 7, none⟩ x7).setCell ⟨g, 8, none⟩ x8).setCell ⟨g, 9, none⟩ x9).setCell ⟨g, 10, none⟩ x10) g t #[x0, x1, x2, x3, x4, x5, x6, x7, x8, x9, x10, a11, a12, a13, a14, a15] := h10.set_at 10 x10
  have h12 : Held ((((((((((((W.setCell ⟨g, 0, none⟩ x0).setCell ⟨g, 1, none⟩ x1).setCell ⟨g, 2, none⟩ x2).setCell ⟨g, 3, none⟩ x3).setCell ⟨g, 4, none⟩ x4).setCell ⟨g, 5, none⟩ x5).setCell ⟨g, 6, none⟩ x6).setCell ⟨g, 7, none⟩ x7).setCell ⟨g, 8, none⟩ x8).setCell ⟨g, 9, none⟩ x9).setCell ⟨g, 10, none⟩ x10).setCell ⟨g, 11, none⟩ x11) g t #[x0, x1, x2, x3, x4, x5, x6, x7, x8, x9, x10, x11, a12, a13, a14, a15] := h11.set_at 11 x11
  have h13 : Held (((((((((((((W.setCell ⟨g, 0, none⟩ x0).setCell ⟨g, 1, none⟩ x1).setCell ⟨g, 2, none⟩ x2).setCell ⟨g, 3, none⟩ x3).setCell ⟨g, 4, none⟩ x4).setCell ⟨g, 5, none⟩ x5).setCell ⟨g, 6, none⟩ x6).setCell ⟨g, 7, none⟩ x7).setCell ⟨g, 8, none⟩ x8).setCell ⟨g, 9, none⟩ x9).setCell ⟨g, 10, none⟩ x10).setCell ⟨g, 11, none⟩ x11).setCell ⟨g, 12, none⟩ x12) g t #[x0, x1, x2, x3, x4, x5, x6, x7, x8, x9, x10, x11, x12, a13, a14, a15] := h12.set_at 12 x12
  have h14 : Held ((((((((((((((W.setCell ⟨g, 0, none⟩ x0).setCell ⟨g, 1, none⟩ x1).setCell ⟨g, 2, none⟩ x2).setCell ⟨g, 3, none⟩ x3).setCell ⟨g, 4, none⟩ x4).setCell ⟨g, 5, none⟩ x5).setCell ⟨g, 6, none⟩ x6).setCell ⟨g, 7, none⟩ x7).setCell ⟨g, 8, none⟩ x8).setCell ⟨g, 9, none⟩ x9).setCell ⟨g, 10, none⟩ x10).setCell ⟨g, 11, none⟩ x11).setCell ⟨g, 12, none⟩ x12).setCell ⟨g, 13, none⟩ x13) g t #[x0, x1, x2, x3, x4, x5, x6, x7, x8, x9, x10, x11, x12, x13, a14, a15] := h13.set_at 13 x13
  have h15 : Held (((((((((((((((W.setCell ⟨g, 0, none⟩ x0).setCell ⟨g, 1, none⟩ x1).setCell ⟨g, 2, none⟩ x2).setCell ⟨g, 3, none⟩ x3).setCell ⟨g, 4, none⟩ x4).setCell ⟨g, 5, none⟩ x5).setCell ⟨g, 6, none⟩ x6).setCell ⟨g, 7, none⟩ x7).setCell ⟨g, 8, none⟩ x8).setCell ⟨g, 9, none⟩ x9).setCell ⟨g, 10, none⟩ x10).setCell ⟨g, 11, none⟩ x11).setCell ⟨g, 12, none⟩ x12).setCell ⟨g, 13, none⟩ x13).setCell ⟨g, 14, none⟩ x14) g t #[x0, x1, x2, x3, x4, x5, x6, x7, x8, x9, x10, x11, x12, x13, x14, a15] := h14.set_at 14 x14
  have h16 : Held ((((((((((((((((W.setCell ⟨g, 0, none⟩ x0).setCell ⟨g, 1, none⟩ x1).setCell ⟨g, 2, none⟩ x2).setCell ⟨g, 3, none⟩ x3).setCell ⟨g, 4, none⟩ x4).setCell ⟨g, 5, none⟩ x5).setCell ⟨g, 6, none⟩ x6).setCell ⟨g, 7, none⟩ x7).setCell ⟨g, 8, none⟩ x8).setCell ⟨g, 9, none⟩ x9).setCell ⟨g, 10, none⟩ x10).setCell ⟨g, 11, none⟩ x11).setCell ⟨g, 12, none⟩ x12).setCell ⟨g, 13, none⟩ x13).setCell ⟨g, 14, none⟩ x14).setCell ⟨g, 15, none⟩ x15) g t #[x0, x1, x2, x3, x4, x5, x6, x7, x8, x9, x10, x11, x12, x13, x14, x15] := h15.set_at 15 x15
  exact h16

theorem far16 (W : World) (g : Nat) (x0 x1 x2 x3 x4 x5 x6 x7 x8 x9 x10 x11 x12 x13 x14 x15 : Value) (k : Nat) (hk : k ≠ g) : ((((((((((((((((W.setCell ⟨g, 0, none⟩ x0).setCell ⟨g, 1, none⟩ x1).setCell ⟨g, 2, none⟩ x2).setCell ⟨g, 3, none⟩ x3).setCell ⟨g, 4, none⟩ x4).setCell ⟨g, 5, none⟩ x5).setCell ⟨g, 6, none⟩ x6).setCell ⟨g, 7, none⟩ x7).setCell ⟨g, 8, none⟩ x8).setCell ⟨g, 9, none⟩ x9).setCell ⟨g, 10, none⟩ x10).setCell ⟨g, 11, none⟩ x11).setCell ⟨g, 12, none⟩ x12).setCell ⟨g, 13, none⟩ x13).setCell ⟨g, 14, none⟩ x14).setCell ⟨g, 15, none⟩ x15).heap[k]? = W.heap[k]? := by
  exact (Below.heap_setCell (((((((((((((((W.setCell ⟨g, 0, none⟩ x0).setCell ⟨g, 1, none⟩ x1).setCell ⟨g, 2, none⟩ x2).setCell ⟨g, 3, none⟩ x3).setCell ⟨g, 4, none⟩ x4).setCell ⟨g, 5, none⟩ x5).setCell ⟨g, 6, none⟩ x6).setCell ⟨g, 7, none⟩ x7).setCell ⟨g, 8, none⟩ x8).setCell ⟨g, 9, none⟩ x9).setCell ⟨g, 10, none⟩ x10).setCell ⟨g, 11, none⟩ x11).setCell ⟨g, 12, none⟩ x12).setCell ⟨g, 13, none⟩ x13).setCell ⟨g, 14, none⟩ x14) ⟨g, 15, none⟩ x15 k hk).trans ((Below.heap_setCell ((((((((((((((W.setCell ⟨g, 0, none⟩ x0).setCell ⟨g, 1, none⟩ x1).setCell ⟨g, 2, none⟩ x2).setCell ⟨g, 3, none⟩ x3).setCell ⟨g, 4, none⟩ x4).setCell ⟨g, 5, none⟩ x5).setCell ⟨g, 6, none⟩ x6).setCell ⟨g, 7, none⟩ x7).setCell ⟨g, 8, none⟩ x8).setCell ⟨g, 9, none⟩ x9).setCell ⟨g, 10, none⟩ x10).setCell ⟨g, 11, none⟩ x11).setCell ⟨g, 12, none⟩ x12).setCell ⟨g, 13, none⟩ x13) ⟨g, 14, none⟩ x14 k hk).trans ((Below.heap_setCell (((((((((((((W.setCell ⟨g, 0, none⟩ x0).setCell ⟨g, 1, none⟩ x1).setCell ⟨g, 2, none⟩ x2).setCell ⟨g, 3, none⟩ x3).setCell ⟨g, 4, none⟩ x4).setCell ⟨g, 5, none⟩ x5).setCell ⟨g, 6, none⟩ x6).setCell ⟨g, 7, none⟩ x7).setCell ⟨g, 8, none⟩ x8).setCell ⟨g, 9, none⟩ x9).setCell ⟨g, 10, none⟩ x10).setCell ⟨g, 11, none⟩ x11).setCell ⟨g, 12, none⟩ x12) ⟨g, 13, none⟩ x13 k hk).trans ((Below.heap_setCell ((((((((((((W.setCell ⟨g, 0, none⟩ x0).setCell ⟨g, 1, none⟩ x1).setCell ⟨g, 2, none⟩ x2).setCell ⟨g, 3, none⟩ x3).setCell ⟨g, 4, none⟩ x4).setCell ⟨g, 5, none⟩ x5).setCell ⟨g, 6, none⟩ x6).setCell ⟨g, 7, none⟩ x7).setCell ⟨g, 8, none⟩ x8).setCell ⟨g, 9, none⟩ x9).setCell ⟨g, 10, none⟩ x10).setCell ⟨g, 11, none⟩ x11) ⟨g, 12, none⟩ x12 k hk).trans ((Below.heap_setCell (((((((((((W.setCell ⟨g, 0, none⟩ x0).setCell ⟨g, 1, none⟩ x1).setCell ⟨g, 2, none⟩ x2).setCell ⟨g, 3, none⟩ x3).setCell ⟨g, 4, none⟩ x4).setCell ⟨g, 5, none⟩ x5).setCell ⟨g, 6, none⟩ x6).setCell ⟨g, 7, none⟩ x7).setCell ⟨g, 8, none⟩ x8).setCell ⟨g, 9, none⟩ x9).setCell ⟨g, 10, none⟩ x10) ⟨g, 11, none⟩ x11 k hk).trans ((Below.heap_setCell ((((((((((W.setCell ⟨g, 0, none⟩ x0).setCell ⟨g, 1, none⟩ x1).setCell ⟨g, 2, none⟩ x2).setCell ⟨g, 3, none⟩ x3).setCell ⟨g, 4, none⟩ x4).setCell ⟨g, 5, none⟩ x5).setCell ⟨g, 6, none⟩ x6).setCell ⟨g, 7, none⟩ x7).setCell ⟨g, 8, none⟩ x8).setCell ⟨g, 9, none⟩ x9) ⟨g, 10, none⟩ x10 k hk).trans ((Below.heap_setCell (((((((((W.setCell ⟨g, 0, none⟩ x0).setCell ⟨g, 1, none⟩ x1).setCell ⟨g, 2, none⟩ x2).setCell ⟨g, 3, none⟩ x3).setCell ⟨g, 4, none⟩ x4).setCell ⟨g, 5, none⟩ x5).setCell ⟨g, 6, none⟩ x6).setCell ⟨g, 7, none⟩ x7).setCell ⟨g, 8, none⟩ x8) ⟨g, 9, none⟩ x9 k hk).trans ((Below.heap_setCell ((((((((W.setCell ⟨g, 0, none⟩ x0).setCell ⟨g, 1, none⟩ x1).setCell ⟨g, 2, none⟩ x2).setCell ⟨g, 3, none⟩ x3).setCell ⟨g, 4, none⟩ x4).setCell ⟨g, 5, none⟩ x5).setCell ⟨g, 6, none⟩ x6).setCell ⟨g, 7, none⟩ x7) ⟨g, 8, none⟩ x8 k hk).trans ((Below.heap_setCell (((((((W.setCell ⟨g, 0, none⟩ x0).setCell ⟨g, 1, none⟩ x1).setCell ⟨g, 2, none⟩ x2).setCell ⟨g, 3, none⟩ x3).setCell ⟨g, 4, none⟩ x4).setCell ⟨g, 5, none⟩ x5).setCell ⟨g, 6, none⟩ x6) ⟨g, 7, none⟩ x7 k hk).trans ((Below.heap_setCell ((((((W.setCell ⟨g, 0, none⟩ x0).setCell ⟨g, 1, none⟩ x1).setCell ⟨g, 2, none⟩ x2).setCell ⟨g, 3, none⟩ x3).setCell ⟨g, 4, none⟩ x4).setCell ⟨g, 5, none⟩ x5) ⟨g, 6, none⟩ x6 k hk).trans ((Below.heap_setCell (((((W.setCell ⟨g, 0, none⟩ x0).setCell ⟨g, 1, none⟩ x1).setCell ⟨g, 2, none⟩ x2).setCell ⟨g, 3, none⟩ x3).setCell ⟨g, 4, none⟩ x4) ⟨g, 5, none⟩ x5 k hk).trans ((Below.heap_setCell ((((W.setCell ⟨g, 0, none⟩ x0).setCell ⟨g, 1, none⟩ x1).setCell ⟨g, 2, none⟩ x2).setCell ⟨g, 3, none⟩ x3) ⟨g, 4, none⟩ x4 k hk).trans ((Below.heap_setCell (((W.setCell ⟨g, 0, none⟩ x0).setCell ⟨g, 1, none⟩ x1).setCell ⟨g, 2, none⟩ x2) ⟨g, 3, none⟩ x3 k hk).trans ((Below.heap_setCell ((W.setCell ⟨g, 0, none⟩ x0).setCell ⟨g, 1, none⟩ x1) ⟨g, 2, none⟩ x2 k hk).trans ((Below.heap_setCell (W.setCell ⟨g, 0, none⟩ x0) ⟨g, 1, none⟩ x1 k hk).trans (Below.heap_setCell W ⟨g, 0, none⟩ x0 k hk)))))))))))))))
theorem below16 {w W : World} {g : Nat} (x0 x1 x2 x3 x4 x5 x6 x7 x8 x9 x10 x11 x12 x13 x14 x15 : Value) (hg : w.heap.size ≤ g) (hb : Below w.heap.size w W) : Below w.heap.size w ((((((((((((((((W.setCell ⟨g, 0, none⟩ x0).setCell ⟨g, 1, none⟩ x1).setCell ⟨g, 2, none⟩ x2).setCell ⟨g, 3, none⟩ x3).setCell ⟨g, 4, none⟩ x4).setCell ⟨g, 5, none⟩ x5).setCell ⟨g, 6, none⟩ x6).setCell ⟨g, 7, none⟩ x7).setCell ⟨g, 8, none⟩ x8).setCell ⟨g, 9, none⟩ x9).setCell ⟨g, 10, none⟩ x10).setCell ⟨g, 11, none⟩ x11).setCell ⟨g, 12, none⟩ x12).setCell ⟨g, 13, none⟩ x13).setCell ⟨g, 14, none⟩ x14).setCell ⟨g, 15, none⟩ x15) := by
  exact ((((((((((((((((hb.setCell (p := ⟨g, 0, none⟩) hg x0).setCell (p := ⟨g, 1, none⟩) hg x1).setCell (p := ⟨g, 2, none⟩) hg x2).setCell (p := ⟨g, 3, none⟩) hg x3).setCell (p := ⟨g, 4, none⟩) hg x4).setCell (p := ⟨g, 5, none⟩) hg x5).setCell (p := ⟨g, 6, none⟩) hg x6).setCell (p := ⟨g, 7, none⟩) hg x7).setCell (p := ⟨g, 8, none⟩) hg x8).setCell (p := ⟨g, 9, none⟩) hg x9).setCell (p := ⟨g, 10, none⟩) hg x10).setCell (p := ⟨g, 11, none⟩) hg x11).setCell (p := ⟨g, 12, none⟩) hg x12).setCell (p := ⟨g, 13, none⟩) hg x13).setCell (p := ⟨g, 14, none⟩) hg x14).setCell (p := ⟨g, 15, none⟩) hg x15)

theorem Held.row {W : World} {g k : Nat} {t : TypeId} {cs : Array Value} (h : Held W g t cs) (hk : g ≠ k) (cs' : Array Value) : Held (W.setRow k cs') g t cs := (setRow_far W k cs' g hk).trans h
theorem Held.rowSelf {W : World} {g : Nat} {t : TypeId} {cs : Array Value} (h : Held W g t cs) (cs' : Array Value) : Held (W.setRow g cs') g t cs' := setRow_heap W g cs cs' t (0, 0) h
end Go.Proofs.YtjibkgildfjjoaaDoor

/- Layer 9: frames, acts, ends that lie in variables' blocks. -/
namespace Go.Proofs.YtjibkgildfjjoaaDoor
set_option linter.unusedVariables false
set_option linter.unusedSimpArgs false
open Gm Go.RowKit Go.ChangeShapes Go.WideShapes Go.ChangeAt Go.Sort

/-- The cells of a frame. -/
structure FC (cs : Array Value) (F : Frm) : Prop where
  size : cs.size = 16
  one : cs.all (·.oneCell') = true
  c0 : cs[0]? = some (.int .i64 F.fn)
  c1 : cs[1]? = some (.int .i64 F.pc)
  c2 : ∃ A c, cs[2]? = some (.slice A F.stk.length c)
  c3 : ∃ A c, cs[3]? = some (.slice A F.loc.length c)
  c4 : ∃ A c, cs[4]? = some (.slice A F.slt.length c)
  c5 : cs[5]? = some (.int .i64 F.seed)
  c6 : cs[6]? = some (.int .i64 F.spn)
  c7 : cs[7]? = some (.int .i64 F.drw)
  c8 : cs[8]? = some (.int .i64 F.st)
  c9 : cs[9]? = some (.int .i64 F.wt)
  c13 : cs[13]? = some (.int .i64 F.uat)
  c14 : cs[14]? = some (.int .i64 F.ugn)
  c15 : cs[15]? = some (.int .i64 F.usl)
theorem FrmAt.cells {w : World} {B : Nat} {v : Value} {F : Frm} (h : FrmAt w B v F) : ∃ cs, v = .agg cs ∧ FC cs F := by
  obtain ⟨A1, c1, A2, c2, A3, c3, rfl, _, _, _⟩ := h
  exact ⟨_, rfl, rfl, by simp [Value.oneCell'], rfl, rfl, ⟨_, _, rfl⟩, ⟨_, _, rfl⟩, ⟨_, _, rfl⟩, rfl, rfl, rfl, rfl, rfl, rfl, rfl, rfl⟩
theorem OwnF.cells {w : World} {B : Nat} {v : Value} {F : Frm} (h : OwnF w B v F) : ∃ cs, v = .agg cs ∧ FC cs F := h.at.cells
/-- No block is turned but block k, which is no list's. -/
structure KB (w w' : World) (k : Nat) : Prop where
  size : w.heap.size ≤ w'.heap.size
  block : ∀ g, g < w.heap.size → g ≠ k → w'.heap[g]? = w.heap[g]?
theorem KB.of_below {w w' : World} (h : Below w.heap.size w w') (k : Nat) : KB w w' k := ⟨h.size, fun g hg _ => h.block g hg⟩
theorem KB.row {w w' : World} {k : Nat} (h : KB w w' k) (cs : Array Value) : KB w (w'.setRow k cs) k := ⟨by simpa [World.setRow] using h.size, fun g hg hk => (setRow_far w' k cs g hk).trans (h.block g hg hk)⟩
theorem KB.new {w w' : World} {k j : Nat} (h : KB w w' k) (hj : w.heap.size ≤ j) (cs : Array Value) : KB w (w'.setRow j cs) k := ⟨by simpa [World.setRow] using h.size, fun g hg hk => (setRow_far w' j cs g (by omega)).trans (h.block g hg hk)⟩
theorem KB.alloc {w w' : World} {k : Nat} (h : KB w w' k) (o : Obj) : KB w (w'.alloc o) k := ⟨Nat.le_trans h.size (by simp), fun g hg hk => (Below.heap_alloc w' o g (Nat.lt_of_lt_of_le hg h.size)).trans (h.block g hg hk)⟩
theorem KB.held {w w' : World} {k g : Nat} {t : TypeId} {cs : Array Value} (h : KB w w' k) (hh : Held w g t cs) (hne : g ≠ k) : Held w' g t cs := (h.block g hh.lt hne).trans hh
/-- A block of another type is no list's. -/
theorem row_apart {w : World} {B n size k : Nat} {e t : TypeId} {v : Value} {xs : List Value} {cs : Array Value} (h : w.ownsRow B e size v n xs) (hk : Held w k t cs) (ht : t ≠ e) : ∀ g, v.ownBlock = some g → g ≠ k := by
  rintro g hg rfl
  rcases h.2 with ⟨rfl, _⟩ | ⟨g', cap, cur, rfl, _, hh, _⟩
  · simp [Value.ownBlock] at hg
  · simp only [Value.ownBlock, Option.some.injEq] at hg
    subst hg
    rw [Held] at hk
    rw [hk] at hh
    simp at hh
    exact ht hh.2
theorem OwnF.kb {w w' : World} {B k : Nat} {v : Value} {F : Frm} {t : TypeId} {cs : Array Value} (h : OwnF w B v F) (hk : Held w k t cs) (ht : t ≠ 35) (ht2 : t ≠ 121) (hb : KB w w' k) : OwnF w' B v F := by
  obtain ⟨s, l, o, rfl, h1, h2, h3⟩ := h
  exact ⟨s, l, o, rfl, row_same h1 fun g e => hb.block g (h1.lt g e).2 (row_apart h1 hk ht g e), row_same h2 fun g e => hb.block g (h2.lt g e).2 (row_apart h2 hk ht g e), row_same h3 fun g e => hb.block g (h3.lt g e).2 (row_apart h3 hk ht2 g e)⟩
theorem ActO.kb {w w' : World} {B k : Nat} {v : Value} {a : ActP} {t : TypeId} {cs : Array Value} (h : ActO w B v a) (hk : Held w k t cs) (ht : t ≠ 35) (hb : KB w w' k) : ActO w' B v a := by
  obtain ⟨A, c, rfl, h1⟩ := h
  exact ⟨A, c, rfl, row_same h1 fun g e => hb.block g (h1.lt g e).2 (row_apart h1 hk ht g e)⟩
theorem ActO.below {w w' : World} {B : Nat} {v : Value} {a : ActP} (h : ActO w B v a) (hb : Below w.heap.size w w') : ActO w' B v a := by
  obtain ⟨A, c, rfl, h1⟩ := h
  exact ⟨A, c, rfl, row_same h1 fun g e => hb.block g (h1.lt g e).2⟩
/-- The cells of an act. -/
structure AC (cs : Array Value) (a : ActP) : Prop where
  size : cs.size = 5
  one : cs.all (·.oneCell') = true
  c0 : cs[0]? = some (.int .i64 a.kd)
  c1 : cs[1]? = some (.int .i64 a.fn)
  c2 : cs[2]? = some (.int .i64 a.sl)
  c3 : cs[3]? = some (.int .i64 a.sd)
  c4 : ∃ A c, cs[4]? = some (.slice A a.ar.length c)
theorem ActO.cells {w : World} {B : Nat} {v : Value} {a : ActP} (h : ActO w B v a) : ∃ cs, v = .agg cs ∧ AC cs a := by
  obtain ⟨A, c, rfl, _⟩ := h
  exact ⟨_, rfl, rfl, by simp [Value.oneCell'], rfl, rfl, rfl, rfl, ⟨_, _, rfl⟩⟩
/-- Block g is a variable that holds this frame, this act. -/
structure FB (W : World) (B g : Nat) (cs : Array Value) (F : Frm) : Prop where
  held : Held W g 54 cs
  own : OwnF W 0 (.agg cs) F
  fc : FC cs F
  ge : B ≤ g
theorem FB.kb {W W' : World} {B g k : Nat} {cs cs0 : Array Value} {F : Frm} {t : TypeId} (h : FB W B g cs F) (hk : Held W k t cs0) (ht : t ≠ 35) (ht2 : t ≠ 121) (hb : KB W W' k) (hne : g ≠ k) : FB W' B g cs F := ⟨hb.held h.held hne, h.own.kb hk ht ht2 hb, h.fc, h.ge⟩
theorem FB.below {W W' : World} {B g : Nat} {cs : Array Value} {F : Frm} (h : FB W B g cs F) (hb : Below W.heap.size W W') : FB W' B g cs F := ⟨h.held.below hb, h.own.below hb, h.fc, h.ge⟩
theorem FB.frm {W : World} {B g : Nat} {cs : Array Value} {F : Frm} (h : FB W B g cs F) : FrmAt W W.heap.size (.agg cs) F := h.own.at
theorem FB.lt {W : World} {B g : Nat} {cs : Array Value} {F : Frm} (h : FB W B g cs F) : g < W.heap.size := h.held.lt
theorem tyFV : 54 ≠ 35 := by decide
theorem tyFS : 54 ≠ 121 := by decide
theorem FB.top {W : World} {B g : Nat} {cs : Array Value} {F : Frm} (h : FB W B g cs F) {x : V} (hx : F.stk = [x]) : ∃ b c, cs[2]? = some (.slice (some ⟨b, 0, none⟩) 1 c) ∧ W.cell? ⟨b, 0, none⟩ = some (.int .i64 x.1) ∧ W.cell? ⟨b, 1, none⟩ = some (.int .i64 x.2) := by
  obtain ⟨s, l, o, e, h1, _, _⟩ := h.own
  rw [hx] at h1
  obtain ⟨b, c', e2⟩ := own_form h1 (by simp)
  rw [e2] at h1 e
  have k := own_vs h1 (k := 0) (by simp)
  simp only [Value.agg.injEq] at e
  subst e
  exact ⟨b, c', rfl, k.1, k.2.1⟩
/-- Block g is a parameter that is this frame, whose lists lie below B. -/
structure PB (W : World) (B g : Nat) (cs : Array Value) (F : Frm) : Prop where
  held : Held W g 54 cs
  at_ : FrmAt W B (.agg cs) F
  fc : FC cs F
  le : B ≤ W.heap.size
theorem PB.below {W W' : World} {B g : Nat} {cs : Array Value} {F : Frm} (h : PB W B g cs F) (hb : Below W.heap.size W W') : PB W' B g cs F := ⟨h.held.below hb, h.at_.below hb h.le, h.fc, Nat.le_trans h.le hb.size⟩
theorem PB.frm {W : World} {B g : Nat} {cs : Array Value} {F : Frm} (h : PB W B g cs F) : FrmAt W W.heap.size (.agg cs) F := h.at_.more h.le
end Go.Proofs.YtjibkgildfjjoaaDoor

/- Layer 9: the document's end, trap. -/
namespace Go.Proofs.YtjibkgildfjjoaaDoor
set_option linter.unusedVariables false
set_option linter.unusedSimpArgs false
open Gm Go.RowKit Go.ChangeShapes Go.WideShapes Go.ChangeAt Go.Sort

end Go.Proofs.YtjibkgildfjjoaaDoor

/- Layer 9: the document's trap. -/
namespace Go.Proofs.YtjibkgildfjjoaaDoor
set_option linter.unusedVariables false
set_option linter.unusedSimpArgs false
open Gm Go.RowKit Go.ChangeShapes Go.WideShapes Go.ChangeAt Go.Sort

end Go.Proofs.YtjibkgildfjjoaaDoor

/- Layer 9: the document's Copy: a frame in memory of its own. -/
namespace Go.Proofs.YtjibkgildfjjoaaDoor
set_option linter.unusedVariables false
set_option linter.unusedSimpArgs false
open Gm Go.RowKit Go.ChangeShapes Go.WideShapes Go.ChangeAt Go.Sort

theorem row_later {u u' : World} {B n size : Nat} {e : TypeId} {v : Value} {xs : List Value} (h : u.ownsRow B e size v n xs) (hb : Below u.heap.size u u') : u'.ownsRow B e size v n xs :=
  row_same h fun g hgv => hb.block g (h.lt g hgv).2
end Go.Proofs.YtjibkgildfjjoaaDoor

/- Layer 9, plain: lengths, and ends that are given in whatever order. -/
namespace Go.Proofs.YtjibkgildfjjoaaDoor
set_option linter.unusedVariables false
set_option linter.unusedSimpArgs false
open Gm Go Go.RowKit

end Go.Proofs.YtjibkgildfjjoaaDoor

/- Drawn regions, way by way: the steps. -/
namespace Go.Proofs.YtjibkgildfjjoaaDoor
set_option linter.unusedVariables false
set_option linter.unusedSimpArgs false
open Gm Go.RowKit Go.ChangeShapes Go.WideShapes Go.ChangeAt Go.Sort

theorem OwnF.alloc {w : World} {B : Nat} {v : Value} {F : Frm} (h : OwnF w B v F) (o : Obj) : OwnF (w.alloc o) B v F := h.below ((Below.refl _ _).alloc (Nat.le_refl _) _)
theorem ActO.alloc {w : World} {B : Nat} {v : Value} {a : ActP} (h : ActO w B v a) (o : Obj) : ActO (w.alloc o) B v a := h.below ((Below.refl _ _).alloc (Nat.le_refl _) _)
end Go.Proofs.YtjibkgildfjjoaaDoor

/- Layer 9's code: whether one of a list of values is not valid. -/
namespace Go.Proofs.YtjibkgildfjjoaaDoor
set_option linter.unusedVariables false
set_option linter.unusedSimpArgs false
open Gm Go.RowKit Go.ChangeShapes Go.WideShapes Go.ChangeAt Go.Sort

set_option maxHeartbeats 1000000 in
set_option maxRecDepth 100000 in
theorem newbad_any (v : V) (w : World) : Calls Tryd.prog 52 #[gv v.1 v.2] w fun e w' => e = .returned (.bool (!mayB v.1 v.2)) ∧ Below w.heap.size w w' := by
  have C := fun W => Lib.hid (may_any v.1 v.2 W)
  change ∀ W, Hid (Calls Tryd.prog 53 #[gv v.1 v.2] W fun e w' => e = .returned (.bool (mayB v.1 v.2)) ∧ Below W.heap.size W w') at C
  generalize mayB v.1 v.2 = b at *
  cases b
  all_goals
    go_enter Tryd.func52, Tryd.ntmps52
    go_wp2_with (go_at_call 53; (with_reducible refine (C _).out.mono ?_); rintro _ u ⟨rfl, hb⟩; have hbw := below_laid hb)
    go_ret
    exact ⟨rfl, hbw⟩
set_option maxHeartbeats 1000000 in
set_option maxRecDepth 100000 in
theorem anybad_any {B : Nat} {A : Option Addr} {l : List V} (c : Nat) (w : World) (h : VAt w B A l) (hl : l.length ≤ 1000) (hB : B ≤ w.heap.size) :
    Calls Tryd.prog 51 #[.slice A l.length c, fnS 52] w fun e w' => e = .returned (.bool (!l.all fun v => mayB v.1 v.2)) ∧ Below w.heap.size w w' := by
  have IX : Calls Tryd.prog 73 #[.slice A l.length c, fnS 52] w fun e w' => ∃ n : Int, e = .returned (.int .i64 n) ∧ (decide (0 ≤ n) = !l.all fun v => mayB v.1 v.2) ∧ Below w.heap.size w w' := by
    have HA := Lib.hid h
    have hl2 : (l.length : Int) ≤ 1000 := by omega
    clear h
    go_enter Tryd.func73, Tryd.ntmps73
    go_wp2
    go_loopw [8] (fun i W => ∃ j : Nat, j ≤ l.length ∧ i = .int .i64 j ∧ (∀ x ∈ l.take j, mayB x.1 x.2 = true) ∧ Below w.heap.size w W) (fun i _ => l.length - (intOf i).toNat)
    case atStart => exact ⟨0, by omega, rfl, by simp, Below.refl _ _⟩
    case round =>
      obtain ⟨j, hj, rfl, hall, hw⟩ := hrel
      have HJ := Lib.hid hall
      clear hall
      have hwz := hw.size
      by_cases hlt : j < l.length
      · obtain ⟨b, off, rfl, hbl, hd⟩ := (HA.out.below hw hB) (by omega)
        obtain ⟨d0, d1⟩ := hd j hlt
        clear hd
        have hjt : l.take (j + 1) = l.take j ++ [l[j]] := List.take_succ_eq_append_getElem hlt
        have hjm : l[j] ∈ l := List.getElem_mem hlt
        have HJT := Lib.hid hjt
        have HJM := Lib.hid hjm
        have CM := fun W => Lib.hid (newbad_any l[j] W)
        generalize l[j] = x at *
        clear hjt hjm
        cases hx : mayB x.1 x.2
        · rw [hx] at CM
          have hf : (l.all fun v => mayB v.1 v.2) = false := by
            rw [← Bool.not_eq_true, List.all_eq_true]
            intro h
            have := h _ HJM.out
            rw [hx] at this
            cases this
          have HF := Lib.hid hf
          clear hf hx
          go_wp2_with (go_at_call 52; (with_reducible refine (CM _).out.mono ?_); rintro e v ⟨rfl, hb⟩; replace hw := Below.step hw hb; clear hb)
          go_ret
          exact ⟨_, rfl, by rw [HF.out]; simp, hw⟩
        · rw [hx] at CM
          have HX := Lib.hid hx
          clear hx
          go_wp2_with (go_at_call 52; (with_reducible refine (CM _).out.mono ?_); rintro e v ⟨rfl, hb⟩; replace hw := Below.step hw hb; clear hb)
          go_roundw
          case rel =>
            refine ⟨j + 1, by omega, by go_num, ?_, hw⟩
            rw [HJT.out]
            intro y hy
            rcases List.mem_append.1 hy with h | h
            · exact HJ.out y h
            · simp only [List.mem_singleton] at h
              subst h
              exact HX.out
          case measure => simp [intOf]; omega
      · obtain rfl : j = l.length := by omega
        have hall := HJ.out
        rw [List.take_length] at hall
        have hf : (l.all fun v => mayB v.1 v.2) = true := List.all_eq_true.2 hall
        have HF := Lib.hid hf
        clear hf hall
        go_wp2_with fail
        go_ret
        exact ⟨_, rfl, by rw [HF.out]; simp, hw⟩
  have IX2 := Lib.hid IX
  clear IX h
  generalize (l.all fun v => mayB v.1 v.2) = r at *
  go_enter Tryd.func51, Tryd.ntmps51
  go_wp2_with (go_at_call 73; (with_reducible refine IX2.out.mono ?_); rintro _ u ⟨n, rfl, hn, hb⟩)
  go_ret
  exact ⟨ret_bool (by rw [← hn]), hb⟩
end Go.Proofs.YtjibkgildfjjoaaDoor

/- Layer 9: New. -/
namespace Go.Proofs.YtjibkgildfjjoaaDoor
set_option linter.unusedVariables false
set_option linter.unusedSimpArgs false
open Gm Go.RowKit Go.ChangeShapes Go.WideShapes Go.ChangeAt Go.Sort

def zeroV (n : Nat) : Array Value := (flatV (List.replicate n (0, 0))).toArray
def zeroS (n : Nat) : Array Value := (flatS (List.replicate n slt0)).toArray
def cellsV (l : List V) : Array Value := (flatV l).toArray
theorem flatV_rep : ∀ n, flatV (List.replicate n (0, 0)) = List.replicate (n * 2) (.int .i64 0)
  | 0 => rfl
  | n + 1 => by
    rw [List.replicate_succ, show (n + 1) * 2 = n * 2 + 1 + 1 by omega, List.replicate_succ, List.replicate_succ, ← flatV_rep n]
    rfl
theorem flatS_rep : ∀ n, flatS (List.replicate n slt0) = List.replicate (n * 6) (.int .i64 0)
  | 0 => rfl
  | n + 1 => by
    rw [List.replicate_succ, show (n + 1) * 6 = n * 6 + 1 + 1 + 1 + 1 + 1 + 1 by omega, List.replicate_succ, List.replicate_succ, List.replicate_succ, List.replicate_succ, List.replicate_succ, List.replicate_succ, ← flatS_rep n]
    rfl
theorem madeV (n : Nat) : madeCells #[Value.int .i64 0, .int .i64 0] (n * 2) = zeroV n := by
  unfold zeroV
  rw [flatV_rep]
  apply Array.ext'
  apply List.ext_getElem?
  intro j
  simp only [madeCells]
  by_cases hj : j < n * 2
  · have hm : j % 2 = 0 ∨ j % 2 = 1 := by omega
    rcases hm with hm | hm <;> simp [hj, hm]
  · simp [hj]
theorem madeS (n : Nat) : madeCells #[Value.int .i64 0, .int .i64 0, .int .i64 0, .int .i64 0, .int .i64 0, .int .i64 0] (n * 6) = zeroS n := by
  unfold zeroS
  rw [flatS_rep]
  apply Array.ext'
  apply List.ext_getElem?
  intro j
  simp only [madeCells]
  by_cases hj : j < n * 6
  · have hm : j % 6 = 0 ∨ j % 6 = 1 ∨ j % 6 = 2 ∨ j % 6 = 3 ∨ j % 6 = 4 ∨ j % 6 = 5 := by omega
    rcases hm with hm | hm | hm | hm | hm | hm <;> simp [hj, hm]
  · simp [hj]
theorem make_vs {n : Nat} (hn : n ≤ 1000) (w : World) : (Instr.makeSlice 51 (.int .i64 (n : Int)) (.int .i64 (n : Int))).run Tryd.prog w = .ok (.slice (some ⟨w.heap.size, 0, none⟩) n n) (w.alloc (.cells (zeroV n) 35)) := by
  obtain ⟨q, hi, hz0, hz1, hz2⟩ := info_parts infoV
  have hr := run_make (P := Tryd.prog) w 51 35 q _ Tryd.underlying51 hi hz0 .i64 .i64 n n (by omega) (Int.le_refl _) (by rw [hz2]; omega) (by omega)
  simp only [Int.toNat_natCast, hz1] at hr
  rw [hr, ← madeV]
  rfl
theorem make_ss {n : Nat} (hn : n ≤ 1000) (w : World) : (Instr.makeSlice 52 (.int .i64 (n : Int)) (.int .i64 (n : Int))).run Tryd.prog w = .ok (.slice (some ⟨w.heap.size, 0, none⟩) n n) (w.alloc (.cells (zeroS n) 121)) := by
  obtain ⟨q, hi, hz0, hz1, hz2⟩ := info_parts infoS
  have hr := run_make (P := Tryd.prog) w 52 121 q _ Tryd.underlying52 hi hz0 .i64 .i64 n n (by omega) (Int.le_refl _) (by rw [hz2]; omega) (by omega)
  simp only [Int.toNat_natCast, hz1] at hr
  rw [hr, ← madeS]
  rfl
/-- The copy of arguments into new locals. -/
theorem copy_vs {n : Nat} {l : List V} (hl : l.length ≤ n) {B : Nat} {A : Option Addr} (w : World) (h : VAt w B A l) (hB : B ≤ w.heap.size) (c : Nat) (ty : TypeId) :
    (Builtin.copy_ #[51, 51] ty #[.slice (some ⟨w.heap.size, 0, none⟩) n n, .slice A l.length c]).run Tryd.prog (w.alloc (.cells (zeroV n) 35)) =
      .ok (.int .i64 l.length) (w.alloc (.cells (cellsV (l ++ List.replicate (n - l.length) (0, 0))) 35)) := by
  obtain ⟨q, hi, hz0, hz1, hz2⟩ := info_parts infoV
  have hmin : Nat.min l.length n = l.length := Nat.min_eq_left hl
  by_cases h0 : l = []
  · subst h0
    have hl : ∀ (x : Addr), (loadCells x 0).run Tryd.prog (w.alloc (.cells (zeroV n) 35)) = .ok #[] (w.alloc (.cells (zeroV n) 35)) := fun x => by simpa using run_loadCells_list (P := Tryd.prog) _ x [] (by simp)
    have e : cellsV ([] ++ List.replicate (n - ([] : List V).length) (0, 0)) = zeroV n := by simp [cellsV, zeroV]
    rw [e]
    generalize zeroV n = z at *
    cases A <;> simp [Builtin.copy_, run_underlying Tryd.underlying51, Builtin.lenOf, Builtin.firstCells, sizeOf, typeInfo, hi, hz1, storeCells, hl, goInt]
  · obtain ⟨b, off, rfl, hb, hc⟩ := h (by cases l with | nil => exact absurd rfl h0 | cons x l => simp)
    have hb' : Below w.heap.size w (w.alloc (.cells (zeroV n) 35)) := (Below.refl _ _).alloc (Nat.le_refl _) _
    have hc' : VAt (w.alloc (.cells (zeroV n) 35)) B (some ⟨b, off, none⟩) l := h.below hb' hB
    obtain ⟨b2, off2, e2, hb2, hc2⟩ := hc' (by cases l with | nil => exact absurd rfl h0 | cons x l => simp)
    simp only [Option.some.injEq, Addr.mk.injEq] at e2
    obtain ⟨rfl, rfl, _⟩ := e2
    have hl1 := run_loadCells_list (P := Tryd.prog) (w.alloc (.cells (zeroV n) 35)) ⟨b, off, none⟩ (flatV l) (newsV (C := B) hc2)
    have hst := run_storeCells_at Tryd.prog w.heap.size 0 35 (flatV l) 0 (zeroV n) (w.alloc (.cells (zeroV n) 35)) (heap_alloc_last w _) (by
      rw [flatV_len]
      simp only [zeroV, flatV_rep, List.size_toArray, List.length_replicate]
      omega) oneV
    rw [flatV_len] at hl1
    rw [flatV_len] at hst
    have hcells : ((zeroV n).toList.take (0 + 0) ++ flatV l ++ (zeroV n).toList.drop (0 + 0 + l.length * 2)).toArray = cellsV (l ++ List.replicate (n - l.length) (0, 0)) := by
      unfold cellsV
      rw [flatV_append, flatV_rep]
      simp only [zeroV, flatV_rep, Nat.zero_add, List.take_zero, List.nil_append, List.drop_replicate]
      rw [show n * 2 - l.length * 2 = (n - l.length) * 2 by omega]
    rw [hcells, World.setRow_alloc_new] at hst
    simp [Builtin.copy_, run_underlying Tryd.underlying51, Builtin.lenOf, Builtin.firstCells, sizeOf, typeInfo, hi, hz1, hmin, hl1, hst, goInt]
theorem OwnVs.held {w : World} {B g : Nat} {l : List V} (h : Held w g 35 (cellsV l)) (hB : B ≤ g) (hl : l.length ≤ 1000) : OwnVs w B (.slice (some ⟨g, 0, none⟩) l.length l.length) l := by
  refine ⟨flatV_len l, .inr ⟨g, l.length, cellsV l, rfl, hB, h, Nat.le_refl _, by unfold maxLen; omega, ?_, ?_⟩⟩
  · simp [cellsV, flatV_len]
  · rw [← flatV_len l]
    simp [cellsV]
theorem OwnSs.held {w : World} {B g n : Nat} (h : Held w g 121 (zeroS n)) (hB : B ≤ g) (hl : n ≤ 1000) : OwnSs w B (.slice (some ⟨g, 0, none⟩) n n) (List.replicate n slt0) := by
  have hf := flatS_len (List.replicate n slt0)
  rw [List.length_replicate] at hf
  unfold OwnSs
  rw [List.length_replicate]
  refine ⟨hf, .inr ⟨g, n, zeroS n, rfl, hB, h, Nat.le_refl _, by unfold maxLen; omega, ?_, ?_⟩⟩
  · simp [zeroS, hf]
  · rw [← hf]
    simp [zeroS]
theorem fz0_own (w : World) (B : Nat) : OwnF w B (.agg fz0) frm0 := ⟨_, _, _, rfl, OwnVs.nil _ _, OwnVs.nil _ _, OwnSs.nil _ _⟩
/-- What New leaves. -/
def NewQ (w : World) (R : Frm × Bool) (e : Ending) (w' : World) : Prop := ∃ v', e = .returned (.tuple #[v', .bool R.2]) ∧ OwnF w' w.heap.size v' R.1 ∧ Below w.heap.size w w'
theorem newF_no {p : List Fun} {fn s : Int} {args : List V} (h : ¬ (mayP p = true ∧ hasI p.length fn = true ∧ isZ s = true)) : newF p fn args s = (frm0, false) := by
  unfold newF
  rw [if_neg h]
theorem newF_at {p : List Fun} {fn s : Int} {args : List V} (h1 : mayP p = true) (h2 : hasI p.length fn = true) (h3 : isZ s = true) {g : Fun} (hg : p[fn.toNat]? = some g) :
    newF p fn args s = if g.ar ≤ g.lo ∧ g.ar = args.length ∧ (args.all fun v => mayB v.1 v.2) = true
          then (⟨fn, 0, [], args ++ List.replicate (g.lo.toNat - args.length) (0, 0), List.replicate g.sl.toNat slt0, s, 0, 0, 0, 0, 0, 0, 0, -1, 0, 0⟩, true) else (frm0, false) := by
  unfold newF
  rw [if_pos ⟨h1, h2, h3⟩, hg]
theorem size16 (W : World) (g : Nat) (x0 x1 x2 x3 x4 x5 x6 x7 x8 x9 x10 x11 x12 x13 x14 x15 : Value) : ((((((((((((((((W.setCell ⟨g, 0, none⟩ x0).setCell ⟨g, 1, none⟩ x1).setCell ⟨g, 2, none⟩ x2).setCell ⟨g, 3, none⟩ x3).setCell ⟨g, 4, none⟩ x4).setCell ⟨g, 5, none⟩ x5).setCell ⟨g, 6, none⟩ x6).setCell ⟨g, 7, none⟩ x7).setCell ⟨g, 8, none⟩ x8).setCell ⟨g, 9, none⟩ x9).setCell ⟨g, 10, none⟩ x10).setCell ⟨g, 11, none⟩ x11).setCell ⟨g, 12, none⟩ x12).setCell ⟨g, 13, none⟩ x13).setCell ⟨g, 14, none⟩ x14).setCell ⟨g, 15, none⟩ x15).heap.size = W.heap.size := by simp [World.setCell]
set_option maxHeartbeats 2000000 in
set_option maxRecDepth 100000 in
theorem new_no {B : Nat} {A A2 : Option Addr} {p : List Fun} {args : List V} (c c2 : Nat) (fn s : Int) (w : World) (hT : TabB w B) (h : ProgAt w B A p) (hz : SizedP p) (hB : B ≤ w.heap.size) (hno : ¬ (mayP p = true ∧ hasI p.length fn = true ∧ isZ s = true)) :
    Calls Tryd.prog 31 #[.slice A p.length c, .int .i64 fn, .slice A2 args.length c2, .int .i64 s] w fun e w' => NewQ w (newF p fn args s) e w' := by
  rw [newF_no hno]
  have CM := fun W (hb : Below w.heap.size w W) => Lib.hid (cmay_any c W (hT.below hb hB).ot (h.below hb hB) hz (Nat.le_trans hB hb.size))
  have HF := hasF_any A p.length c fn
  have hF : ∀ W B, OwnF W B (.agg fz0) frm0 := fz0_own
  have HFz := Lib.hid hF
  have hcs : (mayP p = false) ∨ (mayP p = true ∧ hasI p.length fn = false) ∨ (mayP p = true ∧ hasI p.length fn = true ∧ decide (s < 0) = true) ∨ (mayP p = true ∧ hasI p.length fn = true ∧ decide (s < 0) = false ∧ decide (4294967295 < s) = true) := by
    by_cases h1 : mayP p = true
    · by_cases h2 : hasI p.length fn = true
      · by_cases h3 : s < 0
        · exact .inr (.inr (.inl ⟨h1, h2, by simpa using h3⟩))
        · refine .inr (.inr (.inr ⟨h1, h2, by simpa using h3, ?_⟩))
          by_cases h4 : 4294967295 < s
          · simpa using h4
          · exact absurd ⟨h1, h2, by simp [isZ]; omega⟩ hno
      · exact .inr (.inl ⟨h1, by simpa using h2⟩)
    · exact .inl (by simpa using h1)
  clear hT h hz hB hno hF
  generalize mayP p = m at *
  generalize hasI p.length fn = hh at *
  rcases hcs with rfl | ⟨rfl, rfl⟩ | ⟨rfl, rfl, e1⟩ | ⟨rfl, rfl, e1, e2⟩
  all_goals
    go_enter Tryd.func31, Tryd.ntmps31
    go_wp2_with (first
      | (go_at_call 47; (with_reducible refine (CM _ ((Below.refl _ _).alloc (Nat.le_refl _) _)).out.mono ?_); rintro _ u ⟨rfl, hb⟩; have hx := (Held.new w 54 fz0).below hb; have hbw := below_laid hb)
      | (go_at_call 50; (with_reducible refine (HF.go _).mono ?_); rintro _ u2 ⟨rfl, rfl⟩)
      | (refine wpList_store_row rfl 54 _ _ rfl w.heap.size fz0 rfl rfl _ _ hx (by kernel_rfl) rfl (by simp [Value.oneCell']) ?_))
    have l1 := run_loadVar_row (P := Tryd.prog) _ w.heap.size 54 54 _ (0, 0) _ (hx.rowSelf fz0) Tryd.underlying54 rfl (by kernel_rfl)
    exact bodyPost_ret (results_ct rfl _ _ rfl rfl l1) rfl ⟨_, rfl, HFz.out _ _, below_setRow hbw (Nat.le_refl _) _⟩
set_option maxHeartbeats 4000000 in
set_option maxRecDepth 100000 in
theorem new_yes {B : Nat} {A A2 : Option Addr} {p : List Fun} {args : List V} (c c2 : Nat) (fn s : Int) (w : World) (hT : TabB w B) (h : ProgAt w B A p) (hz : SizedP p) (ha : VAt w B A2 args) (hl : args.length ≤ 1000) (hB : B ≤ w.heap.size) (h1 : mayP p = true) (h2 : hasI p.length fn = true) (h3 : isZ s = true) :
    Calls Tryd.prog 31 #[.slice A p.length c, .int .i64 fn, .slice A2 args.length c2, .int .i64 s] w fun e w' => NewQ w (newF p fn args s) e w' := by
  obtain ⟨k, rfl, hk⟩ : ∃ k : Nat, fn = k ∧ k < p.length := by
    simp [hasI] at h2
    exact ⟨fn.toNat, by omega, by omega⟩
  have hR := newF_at (args := args) h1 h2 h3 (g := p[k]) (by rw [Int.toNat_natCast, List.getElem?_eq_getElem hk])
  generalize newF p k args s = R at *
  have HR := Lib.hid hR
  clear hR
  have hmf := ((mayP_iff p).1 h1).2.2 p[k] (List.getElem_mem hk)
  have hhd : headB p[k].ar p[k].lo p[k].sl = true := by
    unfold mayF at hmf
    simp at hmf
    exact hmf.1.1
  obtain ⟨⟨a0, a1⟩, ⟨b0, b1⟩, c0, c1⟩ := (headB_iff _ _ _).1 hhd
  have CM := fun W (hb : Below w.heap.size w W) => Lib.hid (cmay_any c W (hT.below hb hB).ot (h.below hb hB) hz (Nat.le_trans hB hb.size))
  have HF := hasF_any A p.length c k
  rw [h1] at CM
  rw [h2] at HF
  have ABd := fun W (hb : Below w.heap.size w W) => Lib.hid (anybad_any c2 W (ha.below hb hB) hl (Nat.le_trans hB hb.size))
  have CP := fun n (hn : args.length ≤ n) W (hb : Below w.heap.size w W) => copy_vs hn W (ha.below hb hB) (Nat.le_trans hB hb.size) c2
  have HP : ∀ W, Below w.heap.size w W → Hid (∃ b off, A = some ⟨b, off, none⟩ ∧ b < B ∧ FunAt W B b (off + k * 4) p[k]) := fun W hb => by
    obtain ⟨b, off, e1, hbl, hf⟩ := (h.below hb hB) (by omega)
    exact Lib.hid ⟨b, off, e1, hbl, hf k hk⟩
  have NB := fun W (hb : Below w.heap.size w W) => Lib.hid (hT.below hb hB).nb
  have HFz := Lib.hid (fz0_own)
  have s0 : decide (s < 0) = false := by simp [isZ] at h3; simpa using h3.1
  have s1 : decide (4294967295 < s) = false := by simp [isZ] at h3; simpa using h3.2
  have hk2 : (k : Int) < p.length := by omega
  have HL := Lib.hid hl
  generalize p[k] = g at *
  obtain ⟨ar, lo, sl, code⟩ := g
  simp only at a0 a1 b0 b1 c0 c1
  clear hmf hhd hT h hz ha hl h1 h2 h3 hk
  generalize hnL : args.length = nL at *
  generalize hpL : p.length = pL at *
  go_enter Tryd.func31, Tryd.ntmps31
  go_upto_region 3 with (first
    | (go_at_call 47; (with_reducible refine (CM _ ((Below.refl _ _).alloc (Nat.le_refl _) _)).out.mono ?_); rintro _ u ⟨rfl, hb⟩; have hx := (Held.new w 54 fz0).below hb; have hbw := below_laid hb)
    | (go_at_call 50; (with_reducible refine (HF.go _).mono ?_); rintro _ u2 ⟨rfl, rfl⟩))
  obtain ⟨b, off, e1, hbl, hf⟩ := (HP _ hbw).out
  subst e1
  obtain ⟨f0, f1, f2, Ac, cc, f3, _⟩ := hf
  simp only at f0 f1 f2 f3
  have hxl := hx.lt
  clear hb
  go_upto_region 4 with fail
  have g0 := hx.alloc (.cells #[.int .i64 ar, .int .i64 lo, .int .i64 sl, .slice Ac code.length cc] 89)
  have g1 := Held.new u 89 #[.int .i64 ar, .int .i64 lo, .int .i64 sl, .slice Ac code.length cc]
  have gb := hbw.alloc hbw.size (.cells #[.int .i64 ar, .int .i64 lo, .int .i64 sl, .slice Ac code.length cc] 89)
  clear hx hbw HP CM HF f0 f1 f2 f3
  generalize u.alloc (.cells #[.int .i64 ar, .int .i64 lo, .int .i64 sl, .slice Ac code.length cc] 89) = W1 at *
  generalize u.heap.size = fb at *
  have y0 := g1.cell 0
  have y1 := g1.cell 1
  have y2 := g1.cell 2
  simp at y0 y1 y2
  have hcs : (decide (lo < ar) = true ∧ ¬ (ar ≤ lo)) ∨ (decide (lo < ar) = false ∧ (ar != (nL : Int)) = true ∧ ar ≠ nL) ∨ (decide (lo < ar) = false ∧ (ar != (nL : Int)) = false ∧ ar ≤ lo ∧ ar = nL) := by
    by_cases q1 : lo < ar
    · exact .inl ⟨by simpa using q1, by omega⟩
    · by_cases q2 : ar = nL
      · exact .inr (.inr ⟨by simpa using q1, by simpa using q2, by omega, q2⟩)
      · exact .inr (.inl ⟨by simpa using q1, by simpa using q2, q2⟩)
  rcases hcs with ⟨q1, q2⟩ | ⟨q1, q2, q3⟩ | ⟨q1, q2, q3, q4⟩
  · obtain rfl : R = (frm0, false) := by rw [HR.out, if_neg (fun e => q2 (by have := e.1; omega))]
    clear q2
    go_wp2_with (first
      | (refine wpList_store_row rfl 54 _ _ rfl w.heap.size fz0 rfl rfl _ _ g0 (by kernel_rfl) rfl (by simp [Value.oneCell']) ?_))
    have l1 := run_loadVar_row (P := Tryd.prog) _ w.heap.size 54 54 _ (0, 0) _ (g0.rowSelf fz0) Tryd.underlying54 rfl (by kernel_rfl)
    exact bodyPost_ret (results_ct rfl _ _ rfl rfl l1) rfl ⟨_, rfl, HFz.out _ _, below_setRow gb (Nat.le_refl _) _⟩
  · obtain rfl : R = (frm0, false) := by rw [HR.out, if_neg (fun e => q3 (by have := e.2.1; omega))]
    clear q3
    go_wp2_with (first
      | (refine wpList_store_row rfl 54 _ _ rfl w.heap.size fz0 rfl rfl _ _ g0 (by kernel_rfl) rfl (by simp [Value.oneCell']) ?_))
    have l1 := run_loadVar_row (P := Tryd.prog) _ w.heap.size 54 54 _ (0, 0) _ (g0.rowSelf fz0) Tryd.underlying54 rfl (by kernel_rfl)
    exact bodyPost_ret (results_ct rfl _ _ rfl rfl l1) rfl ⟨_, rfl, HFz.out _ _, below_setRow gb (Nat.le_refl _) _⟩
  · by_cases hab : (args.all fun v => mayB v.1 v.2) = true
    · obtain ⟨nl, hnl⟩ : ∃ n : Nat, lo.toNat = n := ⟨_, rfl⟩
      obtain ⟨ns, hns⟩ : ∃ n : Nat, sl.toNat = n := ⟨_, rfl⟩
      obtain rfl : R = (⟨k, 0, [], args ++ List.replicate (nl - nL) (0, 0), List.replicate ns slt0, s, 0, 0, 0, 0, 0, 0, 0, -1, 0, 0⟩, true) := by
        rw [HR.out, if_pos ⟨q3, q4, hab⟩, ← hnl, ← hns]
      rw [hab] at ABd
      have MV := fun W => make_vs (n := nl) (by omega) W
      have CPn := CP nl (by omega)
      have MS := fun W => make_ss (n := ns) (by omega) W
      rw [show (nl : Int) = lo by omega] at MV
      rw [show (ns : Int) = sl by omega] at MS
      have HN := Lib.hid (show nl ≤ 16 ∧ ns ≤ 8 ∧ nL ≤ nl by omega)
      clear CP hab q3 q4 a0 a1 b0 b1 c0 c1 hnl hns
      have HnL := Lib.hid hnL
      clear hnL
      go_upto_region 7 with (first
        | (go_at_call 51; (with_reducible refine (ABd _ gb).out.mono ?_); rintro _ u2 ⟨rfl, hb2⟩; have g0x := g0.below hb2; have g1x := g1.below hb2; have gbx := Below.step gb hb2; have y1 := g1x.cell 1; simp at y1))
      have CPu := CPn u2 gbx
      go_upto_region 8 with fail
      have k0 := g0x.alloc (.cells (cellsV (args ++ List.replicate (nl - nL) (0, 0))) 35)
      have k1 := g1x.alloc (.cells (cellsV (args ++ List.replicate (nl - nL) (0, 0))) 35)
      have k2 := Held.new u2 35 (cellsV (args ++ List.replicate (nl - nL) (0, 0)))
      have kb := gbx.alloc gbx.size (.cells (cellsV (args ++ List.replicate (nl - nL) (0, 0))) 35)
      have hlu : fb < u2.heap.size := g1x.lt
      clear g0 g1 gb g0x g1x gbx hb2 y0 y1 y2 ABd MV CPn CPu
      generalize u2.alloc (.cells (cellsV (args ++ List.replicate (nl - nL) (0, 0))) 35) = W3 at *
      generalize u2.heap.size = lb at *
      obtain ⟨ty, nb⟩ := (NB _ kb).out
      replace nb : Held W3 1 ty #[.int .i64 (-1), .int .i64 0] := nb
      have n0 := nb.cell 0
      have n1 := nb.cell 1
      have y2 := k1.cell 2
      simp at n0 n1 y2
      have kl := k0.lt
      have kf := k1.lt
      have kn := nb.lt
      have MS3 := MS W3
      have p0 := k0.cell 0
      have pz0 := k0.fz 0
      have p1 := k0.cell 1
      have pz1 := k0.fz 1
      have p2 := k0.cell 2
      have pz2 := k0.fz 2
      have p3 := k0.cell 3
      have pz3 := k0.fz 3
      have p4 := k0.cell 4
      have pz4 := k0.fz 4
      have p5 := k0.cell 5
      have pz5 := k0.fz 5
      have p6 := k0.cell 6
      have pz6 := k0.fz 6
      have p7 := k0.cell 7
      have pz7 := k0.fz 7
      have p8 := k0.cell 8
      have pz8 := k0.fz 8
      have p9 := k0.cell 9
      have pz9 := k0.fz 9
      have p10 := k0.cell 10
      have pz10 := k0.fz 10
      have p11 := k0.cell 11
      have pz11 := k0.fz 11
      have p12 := k0.cell 12
      have pz12 := k0.fz 12
      have p13 := k0.cell 13
      have pz13 := k0.fz 13
      have p14 := k0.cell 14
      have pz14 := k0.fz 14
      have p15 := k0.cell 15
      have pz15 := k0.fz 15
      simp at p0 p1 p2 p3 p4 p5 p6 p7 p8 p9 p10 p11 p12 p13 p14 p15
      go_region
      have s1 := set16 k0 (.int .i64 k) (.int .i64 0) (.slice none 0 0) (.slice (some ⟨lb, 0, none⟩) nl nl) (.slice (some ⟨W3.heap.size, 0, none⟩) ns ns) (.int .i64 s) (.int .i64 0) (.int .i64 0) (.int .i64 0) (.int .i64 0) (.int .i64 0) (.int .i64 0) (.int .i64 0) (.int .i64 (-1)) (.int .i64 0) (.int .i64 0)
      have s2 := far16 W3 w.heap.size (.int .i64 k) (.int .i64 0) (.slice none 0 0) (.slice (some ⟨lb, 0, none⟩) nl nl) (.slice (some ⟨W3.heap.size, 0, none⟩) ns ns) (.int .i64 s) (.int .i64 0) (.int .i64 0) (.int .i64 0) (.int .i64 0) (.int .i64 0) (.int .i64 0) (.int .i64 0) (.int .i64 (-1)) (.int .i64 0) (.int .i64 0)
      have s3 := below16 (.int .i64 k) (.int .i64 0) (.slice none 0 0) (.slice (some ⟨lb, 0, none⟩) nl nl) (.slice (some ⟨W3.heap.size, 0, none⟩) ns ns) (.int .i64 s) (.int .i64 0) (.int .i64 0) (.int .i64 0) (.int .i64 0) (.int .i64 0) (.int .i64 0) (.int .i64 0) (.int .i64 (-1)) (.int .i64 0) (.int .i64 0) (Nat.le_refl w.heap.size) kb
      have s4 := size16 W3 w.heap.size (.int .i64 k) (.int .i64 0) (.slice none 0 0) (.slice (some ⟨lb, 0, none⟩) nl nl) (.slice (some ⟨W3.heap.size, 0, none⟩) ns ns) (.int .i64 s) (.int .i64 0) (.int .i64 0) (.int .i64 0) (.int .i64 0) (.int .i64 0) (.int .i64 0) (.int .i64 0) (.int .i64 (-1)) (.int .i64 0) (.int .i64 0)
      generalize (World.setCell (World.setCell _ ⟨w.heap.size, 14, none⟩ _) ⟨w.heap.size, 15, none⟩ _) = W4 at *
      have k5 : Held W4 lb 35 (cellsV (args ++ List.replicate (nl - nL) (0, 0))) := (s2 lb (by omega)).trans k2
      have hN := HN.out
      have hLl : (args ++ List.replicate (nl - nL) (0, 0)).length = nl := by
        rw [List.length_append, List.length_replicate, HnL.out]
        omega
      have ov := OwnVs.held (B := w.heap.size) (k5.alloc (.cells (zeroS ns) 121)) (by omega) (by omega)
      rw [hLl] at ov
      have os := OwnSs.held (B := w.heap.size) (Held.new W4 121 (zeroS ns)) (by omega) (by omega)
      rw [s4] at os
      have s6 := s1.alloc (.cells (zeroS ns) 121)
      have s7 := s3.alloc s3.size (.cells (zeroS ns) 121)
      have hfin := Lib.hid (show OwnF (W4.alloc (.cells (zeroS ns) 121)).drew w.heap.size (fv ⟨k, 0, [], args ++ List.replicate (nl - nL) (0, 0), List.replicate ns slt0, s, 0, 0, 0, 0, 0, 0, 0, -1, 0, 0⟩ (.slice none 0 0) (.slice (some ⟨lb, 0, none⟩) nl nl) (.slice (some ⟨W3.heap.size, 0, none⟩) ns ns)) _ ∧ Below w.heap.size w (W4.alloc (.cells (zeroS ns) 121)).drew from ⟨⟨_, _, _, rfl, OwnVs.nil _ _, ov, os⟩, s7.drew⟩)
      have l1 := run_loadVar_row (P := Tryd.prog) _ w.heap.size 54 54 _ (0, 0) _ (held_drew s6) Tryd.underlying54 rfl (by kernel_rfl)
      clear p0 p1 p2 p3 p4 p5 p6 p7 p8 p9 p10 p11 p12 p13 p14 p15 pz0 pz1 pz2 pz3 pz4 pz5 pz6 pz7 pz8 pz9 pz10 pz11 pz12 pz13 pz14 pz15 s1 s2 s3 s4 k0 k1 k2 kb k5 hN hLl ov os s6 s7 n0 n1 y2 kl kf kn MS3 MS nb hlu hxl q1 q2 HN HnL NB HFz HL HR
      generalize (W4.alloc (.cells (zeroS ns) 121)).drew = W5 at *
      go_wp2_with fail
      exact bodyPost_ret (results_ct rfl _ _ rfl rfl l1) rfl ⟨_, rfl, hfin.out.1, hfin.out.2⟩
    · obtain rfl : R = (frm0, false) := by rw [HR.out, if_neg (fun e => hab e.2.2)]
      rw [Bool.not_eq_true] at hab
      rw [hab] at ABd
      clear hab
      go_wp2_with (first
        | (go_at_call 51; (with_reducible refine (ABd _ gb).out.mono ?_); rintro _ u2 ⟨rfl, hb2⟩; have g0x := g0.below hb2; have gbx := Below.step gb hb2)
        | (refine wpList_store_row rfl 54 _ _ rfl w.heap.size fz0 rfl rfl _ _ g0x (by kernel_rfl) rfl (by simp [Value.oneCell']) ?_))
      have l1 := run_loadVar_row (P := Tryd.prog) _ w.heap.size 54 54 _ (0, 0) _ (g0x.rowSelf fz0) Tryd.underlying54 rfl (by kernel_rfl)
      exact bodyPost_ret (results_ct rfl _ _ rfl rfl l1) rfl ⟨_, rfl, HFz.out _ _, below_setRow gbx (Nat.le_refl _) _⟩
end Go.Proofs.YtjibkgildfjjoaaDoor

/- Layer 9: the listed variables, out of what they read as: a struct of ints; both tables. -/
namespace Go.Proofs.YtjibkgildfjjoaaDoor
set_option linter.unusedVariables false
set_option linter.unusedSimpArgs false
open Go Go.Lib

/-- A listed struct of one-cell fields is what stands in the variable's block. -/
theorem held_of_laid1 {P : Program} {W : World} {name : String} {ls : List Lit} {rest : List (String × DataW Unit)} {g : Nat} {t : TypeId} {k : Nat} {fs : Array Field}
    (hg : P.globalNamed name = some g) (hty : (P.globals[g]?).map (·.type) = some t) (ht : P.underlying t = some (.struct fs)) (hct : P.cellsOf t = k) (hfl : fs.toList.length = k)
    (hf : (List.range k).all (fun j => match fs.toList[j]? with | some f => f.offset == j && P.cellsOf f.type == 1 && plainB P f.type | none => false) = true) (hn : 0 < ls.length)
    (h : laidMet P ((name, .agg (ls.map .lit)) :: rest) W) : ∃ ty, W.heap[g]? = some (.cells (ls.map Lit.value).toArray ty (0, 0)) := by
  obtain ⟨ps, ⟨g', t', cs, fuel, p, q, hg', ht', hvar, hd, _, hps⟩, _, hall⟩ := h
  obtain rfl := Option.some.inj (hg.symm.trans hg')
  obtain rfl := Option.some.inj (hty.symm.trans ht')
  have hcs := chunk_of_trod ht hct hfl hf hd
  have hpos : 0 < cs.size := by
    have : cs.toList.length = ls.length := by rw [hcs]; simp
    have h3 : cs.size = cs.toList.length := by simp
    omega
  obtain ⟨⟨c, ty, hc⟩, _⟩ := hall g 0 (by
    rw [hps]
    refine List.mem_append_left _ (List.mem_append_left _ ?_)
    exact MemPlace.mem_row.2 ⟨0, hpos, by simp⟩)
  have hv : W.var? P name = some c := by unfold World.var?; rw [hg]; simp [hc]
  obtain rfl := Option.some.inj (hv.symm.trans hvar)
  refine ⟨ty, ?_⟩
  rw [hc]
  congr 2
  exact Array.toList_inj.1 (by rw [hcs])
def Nob (W : World) : Prop := ∃ ty, Held W 1 ty #[.int .i64 (-1), .int .i64 0]
theorem nob_global : Tryd.prog.globalNamed "transhumance/frame.nobody" = some 1 := by kernel_rfl
theorem nob_type : (Tryd.prog.globals[1]?).map (·.type) = some 33 := by kernel_rfl
theorem nob_cells : Tryd.prog.cellsOf 33 = 2 := by kernel_rfl
theorem nob_is : Rows.laid_transhumance_frame_nobody (H := Unit) = .agg ([Lit.int .i64 (-1), Lit.int .i64 0].map .lit) := by kernel_rfl
theorem nob_of_laid {W : World} {rest : List (String × DataW Unit)} (h : laidMet Tryd.prog (("transhumance/frame.nobody", Rows.laid_transhumance_frame_nobody) :: rest) W) : Nob W := by
  rw [nob_is] at h
  exact held_of_laid1 nob_global nob_type Tryd.underlying33 nob_cells rfl (by kernel_rfl) (by decide) h
theorem tabB_of {W : World} (h1 : Otab W) (h2 : Nob W) : TabB W W.heap.size := ⟨h1, h1.lt, h2, by obtain ⟨_, h⟩ := h2; exact h.lt⟩
end Go.Proofs.YtjibkgildfjjoaaDoor

