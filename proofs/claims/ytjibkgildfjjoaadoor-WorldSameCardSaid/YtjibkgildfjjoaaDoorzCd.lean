/- Layer 8's code: Depths. -/
import Derived.Test.YtjibkgildfjjoaaDoorzOww
import Derived.Test.YtjibkgildfjjoaaDoorzFrp
import Derived.Test.YtjibkgildfjjoaaDoorzHd
import Derived.Great.BuildSlice
import Derived.Test.YtjibkgildfjjoaaDoorzPr1
namespace Go.Proofs.YtjibkgildfjjoaaDoor
set_option linter.unusedVariables false
set_option linter.unusedSimpArgs false
open Go.RowKit Go.ChangeShapes Go.WideShapes Go.ChangeAt Go.Sort

theorem firstF_zero {p : List Fun} : ∀ (l : List Fun) (k : Int), (firstF p l k).2.2 = 0 → ∀ f ∈ l, (funE p f).2 = 0
  | [], _, _, x, hx => by simp at hx
  | y :: l, k, h, x, hx => by
    rw [firstF_cons] at h
    split at h
    · rcases List.mem_cons.1 hx with rfl | hx
      · assumption
      · exact firstF_zero l _ h x hx
    · contradiction
theorem check_facts {p : List Fun} (h : (checkP p).2.2 = 0) : mayP p = true ∧ ∀ f ∈ p, (funE p f).2 = 0 := by
  unfold checkP at h
  split at h
  · rename_i hm
    exact ⟨hm, firstF_zero p 0 h⟩
  · cases h
end Go.Proofs.YtjibkgildfjjoaaDoor

/- Layer 9, plain: a frame of a program with which nothing is wrong never ends for want of a value, of room, or of a place. -/
namespace Go.Proofs.YtjibkgildfjjoaaDoor
set_option linter.unusedVariables false
set_option linter.unusedSimpArgs false
open Gm Go Go.RowKit

/-- A frame at a place that is reached, with the depth with which it is reached. -/
structure Safe (p : List Fun) (k : Nat) (g : Fun) (T : Int → Prop) (f : Frm) : Prop where
  fn : f.fn = k
  at_ : ∃ i : Nat, f.pc = i ∧ (depthsP p k)[i]? = some (f.stk.length : Int)
  loc : (f.loc.length : Int) = g.lo
  slt : (f.slt.length : Int) = g.sl
  own : ∀ s ∈ f.slt, s.st = 0 ∨ (s.st = 2 ∧ T s.tr)
theorem Safe.mono {p : List Fun} {k : Nat} {g : Fun} {T S : Int → Prop} {f : Frm} (h : Safe p k g T f) (hT : ∀ t, T t → S t) : Safe p k g S f :=
  ⟨h.fn, h.at_, h.loc, h.slt, fun s hs => (h.own s hs).imp id fun e => ⟨e.1, hT _ e.2⟩⟩
end Go.Proofs.YtjibkgildfjjoaaDoor

/- Layer 10, plain: tasks, each child run to its end at once. -/
namespace Go.Proofs.YtjibkgildfjjoaaDoor
set_option linter.unusedVariables false
set_option linter.unusedSimpArgs false
open Gm Go Go.RowKit

end Go.Proofs.YtjibkgildfjjoaaDoor

/- Layer 10, plain: fuel; seeds. -/
namespace Go.Proofs.YtjibkgildfjjoaaDoor
set_option linter.unusedVariables false
set_option linter.unusedSimpArgs false
open Gm Go Go.RowKit

end Go.Proofs.YtjibkgildfjjoaaDoor

/- Layer 10, plain: what a program with which nothing is wrong ends with. -/
namespace Go.Proofs.YtjibkgildfjjoaaDoor
set_option linter.unusedVariables false
set_option linter.unusedSimpArgs false
open Gm Go Go.RowKit

/-- Values are values, and codes that are kept are such. -/
structure Inv (T : Int → Prop) (f : Frm) : Prop where
  stk : ∀ v ∈ f.stk, gMay v
  loc : ∀ v ∈ f.loc, gMay v
  slt : ∀ s ∈ f.slt, gMay (s.re, s.im) ∧ T s.tr ∧ (s.st = 2 → s.tr ≠ 0 → s.re = 0 ∧ s.im = 0)
  out : gMay (f.ore, f.oim) ∧ (f.otr ≠ 0 → f.ore = 0 ∧ f.oim = 0)
theorem vmay0 : gMay (0, 0) := ⟨by decide, by decide, by decide, by decide⟩
theorem getD_may {l : List V} (h : ∀ v ∈ l, gMay v) (i : Nat) : gMay (l.getD i (0, 0)) := by
  rw [List.getD_eq_getElem?_getD]
  cases hi : l[i]? with
  | none => exact vmay0
  | some v => exact h v (List.mem_of_getElem? hi)
section
variable {T : Int → Prop} {f : Frm}
theorem Inv.top (h : Inv T f) : gMay (topF f) := getD_may h.stk _
theorem Inv.low (h : Inv T f) : gMay (lowF f) := getD_may h.stk _
theorem Inv.set (h : Inv T f) (i : Nat) {s : Slt} (hs : gMay (s.re, s.im) ∧ T s.tr ∧ (s.st = 2 → s.tr ≠ 0 → s.re = 0 ∧ s.im = 0)) : Inv T { f with slt := f.slt.set i s } := ⟨h.stk, h.loc, fun x hx => (List.mem_or_eq_of_mem_set hx).elim (h.slt x) (fun e => e ▸ hs), h.out⟩
end
end Go.Proofs.YtjibkgildfjjoaaDoor

/- Layer 10, plain: a program with which nothing is wrong ends with a value, or with a trap that is none of want of values or places. -/
namespace Go.Proofs.YtjibkgildfjjoaaDoor
set_option linter.unusedVariables false
set_option linter.unusedSimpArgs false
open Gm Go Go.RowKit

end Go.Proofs.YtjibkgildfjjoaaDoor

/- Layer 10, plain: empty slots are all zero on the way, of frames that begin. -/
namespace Go.Proofs.YtjibkgildfjjoaaDoor
set_option linter.unusedVariables false
set_option linter.unusedSimpArgs false
open Gm Go Go.RowKit

/-- An empty slot is all zero. -/
def InvZ (f : Frm) : Prop := ∀ s ∈ f.slt, s.st = 0 → s = slt0
theorem InvZ.same {f g : Frm} (h : InvZ f) (e : g.slt = f.slt) : InvZ g := fun s hs h0 => h s (e ▸ hs) h0
theorem InvZ.set {f : Frm} (h : InvZ f) (i : Nat) {x : Slt} (hx : x.st = 0 → x = slt0) {g : Frm} (e : g.slt = f.slt.set i x) : InvZ g := fun s hs h0 => by
  rw [e] at hs
  rcases List.mem_or_eq_of_mem_set hs with hs | rfl
  · exact h s hs h0
  · exact hx h0
end Go.Proofs.YtjibkgildfjjoaaDoor

/- Layer 9: the document's spawn. -/
namespace Go.Proofs.YtjibkgildfjjoaaDoor
set_option linter.unusedVariables false
set_option linter.unusedSimpArgs false
open Gm Go.RowKit Go.ChangeShapes Go.WideShapes Go.ChangeAt Go.Sort

end Go.Proofs.YtjibkgildfjjoaaDoor

/- Layer 9: the document's join. -/
namespace Go.Proofs.YtjibkgildfjjoaaDoor
set_option linter.unusedVariables false
set_option linter.unusedSimpArgs false
open Gm Go.RowKit Go.ChangeShapes Go.WideShapes Go.ChangeAt Go.Sort

end Go.Proofs.YtjibkgildfjjoaaDoor

/- Layer 9: the document's lays. -/
namespace Go.Proofs.YtjibkgildfjjoaaDoor
set_option linter.unusedVariables false
set_option linter.unusedSimpArgs false
open Gm Go.RowKit Go.ChangeShapes Go.WideShapes Go.ChangeAt Go.Sort

theorem OwnVs.one (w : World) (x y : Int) : OwnVs (w.alloc (.cells #[.int .i64 x, .int .i64 y] 35)) w.heap.size (.slice (some ⟨w.heap.size, 0, none⟩) 1 1) [(x, y)] :=
  ⟨rfl, .inr ⟨w.heap.size, 1, _, rfl, Nat.le_refl _, Held.new w 35 _, Nat.le_refl _, by decide, rfl, rfl⟩⟩
theorem OwnVs.mono {w : World} {B C : Nat} {v : Value} {l : List V} (h : OwnVs w B v l) (hC : C ≤ B) : OwnVs w C v l := row_mono h hC
end Go.Proofs.YtjibkgildfjjoaaDoor

/- Layer 9: values appended, be there any or none. -/
namespace Go.Proofs.YtjibkgildfjjoaaDoor
set_option linter.unusedVariables false
set_option linter.unusedSimpArgs false
open Gm Go.RowKit Go.ChangeShapes Go.WideShapes Go.ChangeAt Go.Sort

end Go.Proofs.YtjibkgildfjjoaaDoor

/- Layer 9: what the document's New makes, on the way. -/
namespace Go.Proofs.YtjibkgildfjjoaaDoor
set_option linter.unusedVariables false
set_option linter.unusedSimpArgs false
open Gm Go.RowKit Go.ChangeShapes Go.WideShapes Go.ChangeAt Go.Sort

abbrev frmN (k s : Int) (L : List V) (S : List Slt) : Frm := ⟨k, 0, [], L, S, s, 0, 0, 0, 0, 0, 0, 0, -1, 0, 0⟩
/-- Locals are laid, one by one. -/
structure NwL (w : World) (gX gF : Nat) (xs : Array Value) (k s : Int) (P : List V) (j : Nat) (A9 : Option Addr) (c9 : Nat) (W : World) : Prop where
  hx : Held W gX 89 xs
  hf : Held W gF 54 (fcA (frmN k s P []) (.slice none 0 0) (.slice A9 j c9) (.slice none 0 0))
  h8 : Held W w.heap.size 54 fz0
  ol : OwnVs W w.heap.size (.slice A9 j c9) P
  bw : Below w.heap.size w W
  ne : w.heap.size < gF
theorem NwL.below {w W W' : World} {gX gF j c9 : Nat} {xs : Array Value} {k s : Int} {P : List V} {A9 : Option Addr} (h : NwL w gX gF xs k s P j A9 c9 W) (hb : Below W.heap.size W W') : NwL w gX gF xs k s P j A9 c9 W' :=
  ⟨h.hx.below hb, h.hf.below hb, h.h8.below hb, row_later h.ol hb, Below.step h.bw hb, h.ne⟩
/-- Slots are laid, one by one. -/
structure NwS (w : World) (gX gF : Nat) (xs : Array Value) (k s : Int) (P : List V) (lv : Value) (S : List Slt) (j : Nat) (A9 : Option Addr) (c9 : Nat) (W : World) : Prop where
  hx : Held W gX 89 xs
  hf : Held W gF 54 (fcA (frmN k s P S) (.slice none 0 0) lv (.slice A9 j c9))
  h8 : Held W w.heap.size 54 fz0
  ol : OwnVs W w.heap.size lv P
  os : OwnSs W w.heap.size (.slice A9 j c9) S
  bw : Below w.heap.size w W
  ne : w.heap.size < gF
theorem NwS.below {w W W' : World} {gX gF j c9 : Nat} {xs : Array Value} {k s : Int} {P : List V} {lv : Value} {S : List Slt} {A9 : Option Addr} (h : NwS w gX gF xs k s P lv S j A9 c9 W) (hb : Below W.heap.size W W') : NwS w gX gF xs k s P lv S j A9 c9 W' :=
  ⟨h.hx.below hb, h.hf.below hb, h.h8.below hb, row_later h.ol hb, row_later h.os hb, Below.step h.bw hb, h.ne⟩
theorem NwS.done {w W : World} {gX gF j c9 : Nat} {xs : Array Value} {k s : Int} {P : List V} {lv : Value} {S : List Slt} {A9 : Option Addr} (h : NwS w gX gF xs k s P lv S j A9 c9 W) :
    OwnF (W.setRow w.heap.size (fcA (frmN k s P S) (.slice none 0 0) lv (.slice A9 j c9))) w.heap.size (.agg (fcA (frmN k s P S) (.slice none 0 0) lv (.slice A9 j c9))) (frmN k s P S) :=
  ⟨_, _, _, rfl, OwnVs.nil _ _, row_same h.ol fun b e => setRow_far _ _ _ b (row_apart h.ol h.h8 tyFV b e), row_same h.os fun b e => setRow_far _ _ _ b (row_apart h.os h.h8 tyFS b e)⟩
end Go.Proofs.YtjibkgildfjjoaaDoor

/- Layer 9: the document's New. -/
namespace Go.Proofs.YtjibkgildfjjoaaDoor
set_option linter.unusedVariables false
set_option linter.unusedSimpArgs false
open Gm Go.RowKit Go.ChangeShapes Go.WideShapes Go.ChangeAt Go.Sort

end Go.Proofs.YtjibkgildfjjoaaDoor

/- Layer 8: the document's function, Check, Good, Depths. -/
namespace Go.Proofs.YtjibkgildfjjoaaDoor
set_option linter.unusedVariables false
set_option linter.unusedSimpArgs false
open Go.RowKit Go.ChangeShapes Go.WideShapes Go.ChangeAt Go.Sort

end Go.Proofs.YtjibkgildfjjoaaDoor

/- Layer 8: the document's Check, Good, Depths. -/
namespace Go.Proofs.YtjibkgildfjjoaaDoor
set_option linter.unusedVariables false
set_option linter.unusedSimpArgs false
open Go.RowKit Go.ChangeShapes Go.WideShapes Go.ChangeAt Go.Sort

end Go.Proofs.YtjibkgildfjjoaaDoor

