/- Layer 8's code: Depths. -/
import Derived.Test.YtjibkgildfjjoaaGreatDoorzOww
import Derived.Test.YtjibkgildfjjoaaGreatDoorzPp
import Derived.Test.YtjibkgildfjjoaaGreatDoorzFm
import Derived.Test.YtjibkgildfjjoaaGreatDoorzHd
import Derived.Great.BuildSlice
import Derived.Test.YtjibkgildfjjoaaGreatDoorzPr1
import Derived.Test.YtjibkgildfjjoaaGreatDoorzFnw
namespace Go.Proofs.YtjibkgildfjjoaaGreatDoor
set_option linter.unusedVariables false
set_option linter.unusedSimpArgs false
open Go.RowKit Go.ChangeShapes Go.WideShapes Go.ChangeAt Go.Sort

theorem firstF_zero {p : List Fun} : ∀ (l : List Fun) (k : Int), (firstF p l k).2.2 = 0 → ∀ f ∈ l, (funE p f).2 = 0
  | [], _, _, x, hx => by simp at hx
  | y :: l, k, h, x, hx => by
    rw [firstF_cons] at h
    split at h
    · rcases List.mem_cons.1 hx with rfl | hx
      · assumption
      · exact firstF_zero l _ h x hx
    · contradiction
theorem check_facts {p : List Fun} (h : (checkP p).2.2 = 0) : mayP p = true ∧ ∀ f ∈ p, (funE p f).2 = 0 := by
  unfold checkP at h
  split at h
  · rename_i hm
    exact ⟨hm, firstF_zero p 0 h⟩
  · cases h
end Go.Proofs.YtjibkgildfjjoaaGreatDoor

/- Layer 9, plain: a frame of a program with which nothing is wrong never ends for want of a value, of room, or of a place. -/
namespace Go.Proofs.YtjibkgildfjjoaaGreatDoor
set_option linter.unusedVariables false
set_option linter.unusedSimpArgs false
open Gm Go Go.RowKit

/-- A frame at a place that is reached, with the depth with which it is reached. -/
structure Safe (p : List Fun) (k : Nat) (g : Fun) (T : Int → Prop) (f : Frm) : Prop where
  fn : f.fn = k
  at_ : ∃ i : Nat, f.pc = i ∧ (depthsP p k)[i]? = some (f.stk.length : Int)
  loc : (f.loc.length : Int) = g.lo
  slt : (f.slt.length : Int) = g.sl
  own : ∀ s ∈ f.slt, s.st = 0 ∨ (s.st = 2 ∧ T s.tr)
theorem Safe.mono {p : List Fun} {k : Nat} {g : Fun} {T S : Int → Prop} {f : Frm} (h : Safe p k g T f) (hT : ∀ t, T t → S t) : Safe p k g S f :=
  ⟨h.fn, h.at_, h.loc, h.slt, fun s hs => (h.own s hs).imp id fun e => ⟨e.1, hT _ e.2⟩⟩
end Go.Proofs.YtjibkgildfjjoaaGreatDoor

/- Layer 10, plain: tasks, each child run to its end at once. -/
namespace Go.Proofs.YtjibkgildfjjoaaGreatDoor
set_option linter.unusedVariables false
set_option linter.unusedSimpArgs false
open Gm Go Go.RowKit

end Go.Proofs.YtjibkgildfjjoaaGreatDoor

/- Layer 10, plain: fuel; seeds. -/
namespace Go.Proofs.YtjibkgildfjjoaaGreatDoor
set_option linter.unusedVariables false
set_option linter.unusedSimpArgs false
open Gm Go Go.RowKit

end Go.Proofs.YtjibkgildfjjoaaGreatDoor

/- Layer 10, plain: what a program with which nothing is wrong ends with. -/
namespace Go.Proofs.YtjibkgildfjjoaaGreatDoor
set_option linter.unusedVariables false
set_option linter.unusedSimpArgs false
open Gm Go Go.RowKit

/-- Values are values, and codes that are kept are such. -/
structure Inv (T : Int → Prop) (f : Frm) : Prop where
  stk : ∀ v ∈ f.stk, gMay v
  loc : ∀ v ∈ f.loc, gMay v
  slt : ∀ s ∈ f.slt, gMay (s.re, s.im) ∧ T s.tr ∧ (s.st = 2 → s.tr ≠ 0 → s.re = 0 ∧ s.im = 0)
  out : gMay (f.ore, f.oim) ∧ (f.otr ≠ 0 → f.ore = 0 ∧ f.oim = 0)
theorem vmay0 : gMay (0, 0) := ⟨by decide, by decide, by decide, by decide⟩
theorem getD_may {l : List V} (h : ∀ v ∈ l, gMay v) (i : Nat) : gMay (l.getD i (0, 0)) := by
  rw [List.getD_eq_getElem?_getD]
  cases hi : l[i]? with
  | none => exact vmay0
  | some v => exact h v (List.mem_of_getElem? hi)
section
variable {T : Int → Prop} {f : Frm}
theorem Inv.top (h : Inv T f) : gMay (topF f) := getD_may h.stk _
theorem Inv.low (h : Inv T f) : gMay (lowF f) := getD_may h.stk _
theorem Inv.set (h : Inv T f) (i : Nat) {s : Slt} (hs : gMay (s.re, s.im) ∧ T s.tr ∧ (s.st = 2 → s.tr ≠ 0 → s.re = 0 ∧ s.im = 0)) : Inv T { f with slt := f.slt.set i s } := ⟨h.stk, h.loc, fun x hx => (List.mem_or_eq_of_mem_set hx).elim (h.slt x) (fun e => e ▸ hs), h.out⟩
end
end Go.Proofs.YtjibkgildfjjoaaGreatDoor

/- Layer 10, plain: a program with which nothing is wrong ends with a value, or with a trap that is none of want of values or places. -/
namespace Go.Proofs.YtjibkgildfjjoaaGreatDoor
set_option linter.unusedVariables false
set_option linter.unusedSimpArgs false
open Gm Go Go.RowKit

end Go.Proofs.YtjibkgildfjjoaaGreatDoor

/- Layer 10, plain: empty slots are all zero on the way, of frames that begin. -/
namespace Go.Proofs.YtjibkgildfjjoaaGreatDoor
set_option linter.unusedVariables false
set_option linter.unusedSimpArgs false
open Gm Go Go.RowKit

/-- An empty slot is all zero. -/
def InvZ (f : Frm) : Prop := ∀ s ∈ f.slt, s.st = 0 → s = slt0
theorem InvZ.same {f g : Frm} (h : InvZ f) (e : g.slt = f.slt) : InvZ g := fun s hs h0 => h s (e ▸ hs) h0
theorem InvZ.set {f : Frm} (h : InvZ f) (i : Nat) {x : Slt} (hx : x.st = 0 → x = slt0) {g : Frm} (e : g.slt = f.slt.set i x) : InvZ g := fun s hs h0 => by
  rw [e] at hs
  rcases List.mem_or_eq_of_mem_set hs with hs | rfl
  · exact h s hs h0
  · exact hx h0
end Go.Proofs.YtjibkgildfjjoaaGreatDoor

/- Layer 9: the document's spawn. -/
namespace Go.Proofs.YtjibkgildfjjoaaGreatDoor
set_option linter.unusedVariables false
set_option linter.unusedSimpArgs false
open Gm Go.RowKit Go.ChangeShapes Go.WideShapes Go.ChangeAt Go.Sort

/-- Rows of different types lie in different blocks. -/
theorem rows_ne {w : World} {B C n m s t : Nat} {e d : TypeId} {v u : Value} {xs ys : List Value} (h : w.ownsRow B e s v n xs) (k : w.ownsRow C d t u m ys) (hne : e ≠ d) : ∀ g, v.ownBlock = some g → u.ownBlock ≠ some g := by
  intro g h1 h2
  rcases k.2 with ⟨rfl, _⟩ | ⟨g', cap, cur, rfl, _, hh, _⟩
  · simp [Value.ownBlock] at h2
  · simp only [Value.ownBlock, Option.some.injEq] at h2
    subst h2
    exact row_apart h (show Held w g' d cur from hh) hne.symm g' h1 rfl
theorem tyVS : 38 ≠ 96 := by decide
end Go.Proofs.YtjibkgildfjjoaaGreatDoor

/- Layer 9: the document's join. -/
namespace Go.Proofs.YtjibkgildfjjoaaGreatDoor
set_option linter.unusedVariables false
set_option linter.unusedSimpArgs false
open Gm Go.RowKit Go.ChangeShapes Go.WideShapes Go.ChangeAt Go.Sort

theorem row_off {B : Nat} {w w' : World} {v : Value} {n size : Nat} {e : TypeId} {xs : List Value} {k : Option Nat} (hg : w.grownBy w' k) (h : w.ownsRow B e size v n xs) (hne : ∀ b, k = some b → v.ownBlock ≠ some b) : w'.ownsRow B e size v n xs :=
  row_same h fun g e => hg.block g (h.lt g e).2 (fun e2 => hne g e2.symm e)
end Go.Proofs.YtjibkgildfjjoaaGreatDoor

/- Layer 9: the document's lays. -/
namespace Go.Proofs.YtjibkgildfjjoaaGreatDoor
set_option linter.unusedVariables false
set_option linter.unusedSimpArgs false
open Gm Go.RowKit Go.ChangeShapes Go.WideShapes Go.ChangeAt Go.Sort

theorem OwnVs.one (w : World) (x y : Int) : OwnVs (w.alloc (.cells #[.int .i64 x, .int .i64 y] 38)) w.heap.size (.slice (some ⟨w.heap.size, 0, none⟩) 1 1) [(x, y)] :=
  ⟨rfl, .inr ⟨w.heap.size, 1, _, rfl, Nat.le_refl _, Held.new w 38 _, Nat.le_refl _, by decide, rfl, rfl⟩⟩
theorem OwnVs.mono {w : World} {B C : Nat} {v : Value} {l : List V} (h : OwnVs w B v l) (hC : C ≤ B) : OwnVs w C v l := row_mono h hC
end Go.Proofs.YtjibkgildfjjoaaGreatDoor

/- Layer 9: values appended, be there any or none. -/
namespace Go.Proofs.YtjibkgildfjjoaaGreatDoor
set_option linter.unusedVariables false
set_option linter.unusedSimpArgs false
open Gm Go.RowKit Go.ChangeShapes Go.WideShapes Go.ChangeAt Go.Sort

end Go.Proofs.YtjibkgildfjjoaaGreatDoor

/- Layer 9: what the document's New makes, on the way. -/
namespace Go.Proofs.YtjibkgildfjjoaaGreatDoor
set_option linter.unusedVariables false
set_option linter.unusedSimpArgs false
open Gm Go.RowKit Go.ChangeShapes Go.WideShapes Go.ChangeAt Go.Sort

theorem wpList_append_ss {w : World} {ops : Array Oper} {rest : List Oper} {o : Oper} {a : Act} {Q : Exit → Act → World → Prop}
    (hg : o.guard = none) (s x : Operand) (hop : o.op = Op.call { callee := Callee.builtin Builtin.append, args := #[s, x], argTypes := #[58, 58] })
    (B : Nat) (v : Value) (l : List Slt) (hs : a.eval s = v) (own : OwnSs w B v l) {A : Option Addr} {k : List Slt} {n c C : Nat} (hn : k.length = n) (hx : a.eval x = .slice A n c) (hc : SAt w C A k)
    (h1 : 1 ≤ n) (hlen : l.length + n ≤ 1000000) (hB : B ≤ w.heap.size)
    (h : ∀ v' w', OwnSs w' B v' (l ++ k) → w.grownBy w' v.ownBlock → (∀ b, v'.ownBlock = some b → v.ownBlock = some b ∨ w.heap.size ≤ b) → wpList Tryz.prog ops Q rest (a.put o.dst v') w') : wpList Tryz.prog ops Q (o :: rest) a w := by
  subst hn
  obtain ⟨b, off, rfl, hbC, hf⟩ := hc (by omega)
  obtain ⟨q, hi, hz0, hz1, hz2⟩ := info_parts infoS
  refine wpList_append_lies _ hg s x 58 hop B 96 q (.agg #[.int .i64 0, .int .i64 0, .int .i64 0, .int .i64 0, .int .i64 0, .int .i64 0]) 6 48 Tryz.underlying58 hi hz0 hz1 hz2 rfl (by decide) v l.length (flatS l) hs own ⟨b, off, none⟩ k.length c
    (flatS k) hx (flatS_len k) (newsS hf) oneS (by omega) (by unfold maxLen; omega) (by omega) hB _ rfl ?_
  intro g cap w' k1 k2 k3 k4
  refine h _ w' ?_ k2 ?_
  · have e : flatS (l ++ k) = flatS l ++ flatS k := by simp [flatS]
    unfold OwnSs
    rw [List.length_append, e]
    exact k1
  · intro b hb
    simp only [Value.ownBlock, Option.some.injEq] at hb
    subst hb
    rcases k3 with k3 | k3
    · exact .inl k3
    · exact .inr (by omega)
abbrev frmN (k s : Int) (L : List V) (S : List Slt) : Frm := ⟨k, 0, [], L, S, s, 0, 0, 0, 0, 0, 0, 0, -1, 0, 0⟩
abbrev sz0 : Array Value := #[.int .i64 0, .int .i64 0, .int .i64 0, .int .i64 0, .int .i64 0, .int .i64 0]
theorem tyUF : 73 ≠ 60 := by decide
theorem tyUV : 73 ≠ 38 := by decide
theorem tyUS : 73 ≠ 96 := by decide
/-- Locals are laid, one by one. -/
structure NwL (w : World) (gX gF : Nat) (xs : Array Value) (k s : Int) (P : List V) (j : Nat) (A9 : Option Addr) (c9 : Nat) (W : World) : Prop where
  hx : Held W gX 73 xs
  hf : Held W gF 60 (fcA (frmN k s P []) (.slice none 0 0) (.slice A9 j c9) (.slice none 0 0))
  h8 : Held W w.heap.size 60 fz0
  ol : OwnVs W w.heap.size (.slice A9 j c9) P
  bw : Below w.heap.size w W
  ne : w.heap.size < gF
theorem NwL.below {w W W' : World} {gX gF j c9 : Nat} {xs : Array Value} {k s : Int} {P : List V} {A9 : Option Addr} (h : NwL w gX gF xs k s P j A9 c9 W) (hb : Below W.heap.size W W') : NwL w gX gF xs k s P j A9 c9 W' :=
  ⟨h.hx.below hb, h.hf.below hb, h.h8.below hb, row_later h.ol hb, Below.step h.bw hb, h.ne⟩
theorem NwL.app {w W u : World} {gX gF j c9 c' n' : Nat} {xs : Array Value} {k s : Int} {P K : List V} {A9 A' : Option Addr} (h : NwL w gX gF xs k s P j A9 c9 W) (k1 : OwnVs u w.heap.size (.slice A' n' c') K) (k2 : W.grownBy u (Value.slice A9 j c9).ownBlock) :
    NwL w gX gF xs k s K n' A' c' (u.setCell ⟨gF, 3, none⟩ (.slice A' n' c')) := by
  have nx : (Value.slice A9 j c9).ownBlock ≠ some gX := fun e => row_apart h.ol h.hx tyUV _ e rfl
  have nf : (Value.slice A9 j c9).ownBlock ≠ some gF := fun e => row_apart h.ol h.hf tyFV _ e rfl
  have n8 : (Value.slice A9 j c9).ownBlock ≠ some w.heap.size := fun e => row_apart h.ol h.h8 tyFV _ e rfl
  have hne := h.ne
  have hx := h.hx.grown k2 nx
  have hf := h.hf.grown k2 nf
  have h8 := h.h8.grown k2 n8
  have far : ∀ q, q ≠ gF → (u.setCell ⟨gF, 3, none⟩ (.slice A' n' c')).heap[q]? = u.heap[q]? := fun q hq => Below.heap_setCell u ⟨gF, 3, none⟩ _ q hq
  exact ⟨(far _ (held_ne hx hf tyUF)).trans hx, hf.set_at 3 _, (far _ (by omega)).trans h8, row_same k1 fun b e => far b (row_apart k1 hf tyFV b e),
    (h.bw.grown k2 h.bw.size (fun q e => (h.ol.lt q e).1)).setCell (p := ⟨gF, 3, none⟩) (by show w.heap.size ≤ gF; omega) _, hne⟩
/-- Slots are laid, one by one. -/
structure NwS (w : World) (gX gF : Nat) (xs : Array Value) (k s : Int) (P : List V) (lv : Value) (S : List Slt) (j : Nat) (A9 : Option Addr) (c9 : Nat) (W : World) : Prop where
  hx : Held W gX 73 xs
  hf : Held W gF 60 (fcA (frmN k s P S) (.slice none 0 0) lv (.slice A9 j c9))
  h8 : Held W w.heap.size 60 fz0
  ol : OwnVs W w.heap.size lv P
  os : OwnSs W w.heap.size (.slice A9 j c9) S
  bw : Below w.heap.size w W
  ne : w.heap.size < gF
theorem NwL.slots {w W : World} {gX gF j c9 : Nat} {xs : Array Value} {k s : Int} {P : List V} {A9 : Option Addr} (h : NwL w gX gF xs k s P j A9 c9 W) : NwS w gX gF xs k s P (.slice A9 j c9) [] 0 none 0 W :=
  ⟨h.hx, h.hf, h.h8, h.ol, OwnSs.nil _ _, h.bw, h.ne⟩
theorem NwS.below {w W W' : World} {gX gF j c9 : Nat} {xs : Array Value} {k s : Int} {P : List V} {lv : Value} {S : List Slt} {A9 : Option Addr} (h : NwS w gX gF xs k s P lv S j A9 c9 W) (hb : Below W.heap.size W W') : NwS w gX gF xs k s P lv S j A9 c9 W' :=
  ⟨h.hx.below hb, h.hf.below hb, h.h8.below hb, row_later h.ol hb, row_later h.os hb, Below.step h.bw hb, h.ne⟩
theorem NwS.app {w W u : World} {gX gF j c9 c' n' : Nat} {xs : Array Value} {k s : Int} {P : List V} {lv : Value} {S K : List Slt} {A9 A' : Option Addr} (h : NwS w gX gF xs k s P lv S j A9 c9 W) (k1 : OwnSs u w.heap.size (.slice A' n' c') K) (k2 : W.grownBy u (Value.slice A9 j c9).ownBlock) :
    NwS w gX gF xs k s P lv K n' A' c' (u.setCell ⟨gF, 4, none⟩ (.slice A' n' c')) := by
  have nx : (Value.slice A9 j c9).ownBlock ≠ some gX := fun e => row_apart h.os h.hx tyUS _ e rfl
  have nf : (Value.slice A9 j c9).ownBlock ≠ some gF := fun e => row_apart h.os h.hf tyFS _ e rfl
  have n8 : (Value.slice A9 j c9).ownBlock ≠ some w.heap.size := fun e => row_apart h.os h.h8 tyFS _ e rfl
  have hne := h.ne
  have hx := h.hx.grown k2 nx
  have hf := h.hf.grown k2 nf
  have h8 := h.h8.grown k2 n8
  have ol := row_off k2 h.ol (fun b e e2 => rows_ne h.ol h.os tyVS b e2 e)
  have far : ∀ q, q ≠ gF → (u.setCell ⟨gF, 4, none⟩ (.slice A' n' c')).heap[q]? = u.heap[q]? := fun q hq => Below.heap_setCell u ⟨gF, 4, none⟩ _ q hq
  exact ⟨(far _ (held_ne hx hf tyUF)).trans hx, hf.set_at 4 _, (far _ (by omega)).trans h8, row_same ol fun b e => far b (row_apart ol hf tyFV b e), row_same k1 fun b e => far b (row_apart k1 hf tyFS b e),
    (h.bw.grown k2 h.bw.size (fun q e => (h.os.lt q e).1)).setCell (p := ⟨gF, 4, none⟩) (by show w.heap.size ≤ gF; omega) _, hne⟩
theorem NwS.done {w W : World} {gX gF j c9 : Nat} {xs : Array Value} {k s : Int} {P : List V} {lv : Value} {S : List Slt} {A9 : Option Addr} (h : NwS w gX gF xs k s P lv S j A9 c9 W) :
    OwnF (W.setRow w.heap.size (fcA (frmN k s P S) (.slice none 0 0) lv (.slice A9 j c9))) w.heap.size (.agg (fcA (frmN k s P S) (.slice none 0 0) lv (.slice A9 j c9))) (frmN k s P S) :=
  ⟨_, _, _, rfl, OwnVs.nil _ _, row_same h.ol fun b e => setRow_far _ _ _ b (row_apart h.ol h.h8 tyFV b e), row_same h.os fun b e => setRow_far _ _ _ b (row_apart h.os h.h8 tyFS b e)⟩
theorem one_at {w : World} (x y : Int) : VAt (w.alloc (.cells #[.int .i64 x, .int .i64 y] 38)) (w.alloc (.cells #[.int .i64 x, .int .i64 y] 38)).heap.size (some ⟨w.heap.size, 0, none⟩) [(x, y)] := fun _ => by
  have h := Held.new w 38 #[.int .i64 x, .int .i64 y]
  refine ⟨_, _, rfl, h.lt, fun j hj => ?_⟩
  obtain rfl : j = 0 := by simpa using hj
  exact ⟨h.cell 0, h.cell 1⟩
theorem slot_at {w : World} : SAt (w.alloc (.cells sz0 96)) (w.alloc (.cells sz0 96)).heap.size (some ⟨w.heap.size, 0, none⟩) [slt0] := fun _ => by
  have h := Held.new w 96 sz0
  refine ⟨_, _, rfl, h.lt, fun j hj => ?_⟩
  obtain rfl : j = 0 := by simpa using hj
  exact ⟨h.cell 0, h.cell 1, h.cell 2, h.cell 3, h.cell 4, h.cell 5⟩
end Go.Proofs.YtjibkgildfjjoaaGreatDoor

/- Layer 8: the document's reach, at every function that may be. -/
namespace Go.Proofs.YtjibkgildfjjoaaGreatDoor
set_option linter.unusedVariables false
set_option linter.unusedSimpArgs false
open Go.RowKit Go.ChangeShapes Go.WideShapes Go.ChangeAt Go.Sort

/-- What reach answers, in memory. -/
def ReaR (w : World) (p : List Fun) (f : Fun) (e : Ending) (w' : World) : Prop := ∃ y D, e = .returned (.tuple #[y, .int .i64 (flowF p f.code).2.1, .int .i64 (flowF p f.code).2.2]) ∧
      LstAt w' w.heap.size y D ∧ ((flowF p f.code).2.2 = 0 → D = (flowF p f.code).1) ∧ Below w.heap.size w w'
set_option maxHeartbeats 4000000 in
set_option maxRecDepth 100000 in
theorem rreach_any {B : Nat} {Ap : Option Addr} {p : List Fun} {f : Fun} {Ac : Option Addr} (c cc : Nat) (hok : FunOk p f) (w : World) (hp : ProgAt w B Ap p) (hc : CodeAt w B Ac f.code) (hB : B ≤ w.heap.size) :
    Calls Tryz.prog 102 #[.slice Ap p.length c, .agg #[.int .i64 f.ar, .int .i64 f.lo, .int .i64 f.sl, .slice Ac f.code.length cc]] w fun e w' => ReaR w p f e w' := by
  have hn1 := hok.n1
  have hn2 := hok.n2
  have M1 := fun w => make_ints (n := f.code.length) (by omega) w
  have M2 := fun w => make_bools (n := f.code.length) (by omega) w
  rw [fillE_one hn1] at M1
  have RN := Lib.hid (rk_new (f := f) (cc := cc) hp hc hB (fillE f.code.length 1) (List.replicate f.code.length false))
  have HB0 := Lib.hid (below3 w (.cells #[.int .i64 f.ar, .int .i64 f.lo, .int .i64 f.sl, .slice Ac f.code.length cc] 73) (.cells (intA (fillE f.code.length 1)) 3) (.cells (boolA (List.replicate f.code.length false)) 4))
  have HOK := Lib.hid hok
  have hbig : (f.code.length : Int) ≤ 200 := by omega
  clear hp hc hok
  go_enter Tryz.func102, Tryz.ntmps102
  go_wp2_with fail
  go_loopw [9] (fun iv W => ∃ j : Nat, iv = .int .i64 j ∧ 1 ≤ j ∧ j ≤ f.code.length ∧ RkAt B w.heap.size (w.heap.size + 1) (w.heap.size + 1 + 1) Ap p f Ac cc (fillE f.code.length j) (List.replicate f.code.length false) W ∧ Below w.heap.size w W) (fun iv _ => f.code.length - (intOf iv).toNat)
  case atStart => exact ⟨1, rfl, by omega, by omega, RN.out, HB0.out⟩
  case round =>
    obtain ⟨j, rfl, hj1, hj, hrk, hbw⟩ := hrel
    by_cases hlt : j < f.code.length
    · have hlen := fillE_len hj1 hj
      have c0 := ints_cell hrk.hd (i := j) (by omega)
      have f0 := hrk.hd.fz j
      have hs := hrk.setD j (-1)
      rw [fillE_set hj1 hlt] at hs
      have HS := Lib.hid hs
      have HBW := Lib.hid hbw
      generalize (fillE f.code.length j)[j] = x at *
      clear hs hrk hbw
      go_wp2_with fail
      go_roundw
      case rel => exact ⟨j + 1, by go_num, by omega, by omega, HS.out, HBW.out.setCell (by show _ ≤ w.heap.size + 1; omega) _⟩
      case measure => simp [intOf]; omega
    · obtain rfl : j = f.code.length := by omega
      have HRK := Lib.hid hrk
      have HBW := Lib.hid hbw
      have H00 := Lib.hid (rinv_init hn1)
      rw [fillE_all hn1] at HRK
      clear hrk hbw RN HB0 M1 M2 hj1 hj hlt
      go_wp2_with fail
      go_loopw [10, 11, 12, 13] (fun _ _ _ _ W => ∃ (D : List Int) (Q : List Bool) (K : Nat), RkAt B w.heap.size (w.heap.size + 1) (w.heap.size + 1 + 1) Ap p f Ac cc D Q W ∧ Below w.heap.size w W ∧ RInv f.code.length D Q ∧
        Gone (grF p f.code) f.code.length D (waitV D Q) ∧ muS f.code.length D (waitV D Q) ≤ K ∧ flowS (grF p f.code) K D (waitV D Q) = flowF p f.code) (fun _ _ _ _ W => muS f.code.length (rdI W (w.heap.size + 1)) (waitV (rdI W (w.heap.size + 1)) (rdB W (w.heap.size + 1 + 1))))
      case atStart => exact ⟨initD f.code.length, List.replicate f.code.length false, 201, HRK.out, HBW.out, H00.out.1, by rw [H00.out.2]; exact init_good _ hn1, Nat.le_trans (mu_le _ _ _) (by omega), by rw [H00.out.2]; rfl⟩
      case round =>
        obtain ⟨D, Q, K, hrk, hbw, hri, hgo, hmu, hfl⟩ := hrel
        clear HRK HBW H00
        have HM0 := Lib.hid (rdI_of hrk.hd)
        have HM1 := Lib.hid (rdB_of hrk.hq)
        have hdl := hri.dl
        have hql := hri.ql
        have hwl := waitV_len D Q (by omega)
        have OP := fun W (hb : W = wr) => Lib.hid (ropen_any (D := D) (Q := Q) wr hrk.hd hrk.hq (by omega) (by omega))
        rw [hdl] at OP
        cases ho : openS (waitV D Q) with
        | none =>
          rw [ho] at OP
          have hR : flowF p f.code = (D, 0, 0) := by
            rw [← hfl]
            cases K with
            | zero => rfl
            | succ K => unfold flowS; rw [ho]
          have HR := Lib.hid hR
          have HRK := Lib.hid hrk
          have HBW := Lib.hid hbw
          have HDL := Lib.hid hdl
          simp only at OP
          clear hrk hbw hri hgo hmu hfl hR ho hdl hql hwl
          go_wp2_with (go_at_call 112; (with_reducible refine (OP _ rfl).out.mono ?_); rintro _ u ⟨rfl, rfl⟩)
          go_returns
          unfold ReaR
          rw [HR.out]
          exact ⟨_, D, rfl, .inr ⟨w.heap.size + 1, by rw [HDL.out]; rfl, by omega, HRK.out.hd⟩, fun _ => rfl, HBW.out⟩
        | some i =>
          rw [ho] at OP
          simp only at OP
          obtain ⟨hi, hVi, hV2⟩ := openS_some ho
          clear hV2
          have hi2 : i < f.code.length := by omega
          have hpos := mu_pos (D := D) (n := f.code.length) (i := i) hi2 (by rw [List.getElem?_eq_getElem hi, hVi])
          obtain ⟨K, rfl⟩ : ∃ k, K = k + 1 := ⟨K - 1, by omega⟩
          have HMU := Lib.hid hmu
          have hd0 : D[i]? = some D[i] := List.getElem?_eq_getElem (by omega)
          have hge : D.getD i 0 = D[i] := by rw [List.getD_eq_getElem?_getD, hd0]; rfl
          have hne : D[i] ≠ -1 := fun e => hgo.wait i (by rw [List.getElem?_eq_getElem hi, hVi]) (by rw [hd0, e])
          have hrg := hgo.range i _ hd0
          have hri2 := hri.set hd0 hne
          have q0 := bools_cell hrk.hq (i := i) (by omega)
          have f0 := hrk.hq.fz i
          have hst := fun he => good_step HOK.out.fine hgo ho he
          unfold flowS at hfl
          rw [ho] at hfl
          simp only at hfl
          rw [hge] at hst hfl
          rw [waitV_set, grF_at hi2] at hst hfl
          have hrk1 := Lib.hid (hrk.setQ i true)
          have hbw1 := Lib.hid (hbw.setCell (p := ⟨w.heap.size + 1 + 1, i, none⟩) (by show _ ≤ w.heap.size + 1 + 1; omega) (.bool true))
          have hmem : f.code[i] ∈ f.code := List.getElem_mem hi2
          have hoff := HOK.out.off _ hmem
          have hon := HOK.out.on _ hmem
          have hsp := HOK.out.spawn _ hmem
          have hnx := HOK.out.next i hi2
          have HD0 := Lib.hid hd0
          have hrl := hrk.hq.lt
          generalize Q[i]'(by omega) = qi at *
          generalize Q.set i true = Q1 at *
          generalize D[i] = e at *
          have he0 : 0 ≤ e := by omega
          have he16 := hrg.2
          have HFL := Lib.hid hfl
          have HST := Lib.hid hst
          have HRI := Lib.hid hri2
          clear hrk hbw hri hgo hst hfl hVi ho hd0 hge hne hrg hri2 hwl hql hmem hpos hi hmu
          go_upto_region 11 with (go_at_call 112; (with_reducible refine (OP _ rfl).out.mono ?_); rintro _ u ⟨rfl, rfl⟩)
          clear OP
          generalize wr.setCell ⟨w.heap.size + 1 + 1, i, none⟩ (.bool true) = W1 at *
          clear f0 q0 hrl
          obtain ⟨bb, off, rfl, hbl, a0, a1, a2⟩ := hrk1.out.ins hi2
          have e3 := hrk1.out.hx.cell 3
          have d0 := ints_cell hrk1.out.hd (i := i) (by omega)
          have hde : D[i]'(by omega) = e := by
            have := HD0.out
            rw [List.getElem?_eq_getElem (by omega)] at this
            exact Option.some.inj this
          rw [hde] at d0
          simp at e3
          have BE := fun d os => Lib.hid (rbehind_any c f.code[i].1 f.code[i].2.1 f.code[i].2.2 e (grow (redrawn W1 d) os) (hrk1.out.prog.below (below_regrown W1 d os) hrk1.out.lt) (Nat.le_trans hrk1.out.lt (below_regrown W1 d os).size) hsp hoff hon ⟨he0, he16⟩)
          change ∀ d os, Hid (Calls Tryz.prog 113 #[.slice Ap p.length c, .agg #[.int .i64 f.code[i].1, .int .i64 f.code[i].2.1, .int .i64 f.code[i].2.2], .int .i64 e] (grow (redrawn W1 d) os) fun x w' => x = .returned (.int .i64 (behI (offI p f.code[i]) (rz f.code[i].1).q e)) ∧ Below (grow (redrawn W1 d) os).heap.size (grow (redrawn W1 d) os) w') at BE
          have NX := fun W => Lib.hid (rnext_any f.code[i].1 f.code[i].2.1 f.code[i].2.2 i W (by omega) (by omega))
          change ∀ W, Hid (Calls Tryz.prog 114 #[.agg #[.int .i64 f.code[i].1, .int .i64 f.code[i].2.1, .int .i64 f.code[i].2.2], .int .i64 i] W fun e w' => ∃ x, e = .returned x ∧ LstAt w' W.heap.size x (nextI f.code[i] i) ∧ Below W.heap.size W w') at NX
          have HLEN := Lib.hid (next_len f.code[i] i)
          have HNX := Lib.hid hnx
          have hps : ∀ V, procS (nodeI p f.code[i] i) e D V = if e < offI p f.code[i] ∨ 16 < e - offI p f.code[i] + (rz f.code[i].1).q then (D, V, 84) else nextsS (e - offI p f.code[i] + (rz f.code[i].1).q) (nextI f.code[i] i) D V := fun V => rfl
          have hfl := HFL.out
          have hst := HST.out
          rw [hps] at hfl hst
          clear HFL HST hps hnx hsp hde
          generalize nextI f.code[i] i = l at *
          generalize offI p f.code[i] = q at *
          generalize (rz f.code[i].1).q = r at *
          have A0 := Lib.hid a0
          have A1 := Lib.hid a1
          have A2 := Lib.hid a2
          generalize f.code[i].1 = xo at *
          generalize f.code[i].2.1 = xa at *
          generalize f.code[i].2.2 = xb at *
          obtain ⟨q1, q2⟩ := hoff
          obtain ⟨r1, r2⟩ := hon
          by_cases hbad : e < q ∨ 16 < e - q + r
          · have hbe : behI q r e = -1 := by unfold behI; rw [if_pos hbad]
            rw [hbe] at BE
            rw [if_pos hbad, if_neg (by simp)] at hfl
            have HFL := Lib.hid hfl
            have HDL := Lib.hid hdl
            clear hfl hst hbe hbad
            have e3g := fun d os => cell_regrown e3 d os
            have a0g := fun d os => cell_regrown a0 d os
            have a1g := fun d os => cell_regrown a1 d os
            have a2g := fun d os => cell_regrown a2 d os
            have dg := fun d os => cell_regrown d0 d os
            clear e3 a0 a1 a2 d0
            refine wp_region_quiet_below (by kernel_rfl) (by kernel_rfl) ?_
            repeat (first
              | go_big_quiet_step ((first
                | (go_at_call 113; (with_reducible exact Calls.regrown_of (BE _ _).out))))
              | quiet_step ((first
                | (go_at_call 113; (with_reducible exact Calls.regrown_of (BE _ _).out)))))
            refine wpQuiet_nil ?_
            intro W2 hv
            have hb := below_of_regrown hv
            clear hv e3g a0g a1g a2g dg BE
            have hrk2 := Lib.hid (hrk1.out.below hb)
            have hbw2 := Lib.hid (Below.step hbw1.out hb)
            clear hb hrk1 hbw1
            go_wp2_with fail
            go_returns
            unfold ReaR
            rw [← HFL.out]
            exact ⟨_, D, rfl, .inr ⟨w.heap.size + 1, by rw [HDL.out]; rfl, by omega, hrk2.out.hd⟩, fun h => absurd h (by simp), hbw2.out⟩
          · have hbe : behI q r e = e - q + r := by unfold behI; rw [if_neg hbad]
            rw [hbe] at BE
            rw [if_neg hbad] at hfl hst
            have hb0 : 0 ≤ e - q + r := by omega
            have hb16 : e - q + r ≤ 16 := by omega
            have HFL := Lib.hid hfl
            have HST := Lib.hid hst
            have HDL := Lib.hid hdl
            generalize e - q + r = b at *
            clear hfl hst hbe hbad q1 q2 r1 r2 he0 he16
            have e3g := fun d os => cell_regrown e3 d os
            have a0g := fun d os => cell_regrown a0 d os
            have a1g := fun d os => cell_regrown a1 d os
            have a2g := fun d os => cell_regrown a2 d os
            have dg := fun d os => cell_regrown d0 d os
            clear e3 a0 a1 a2 d0
            refine wp_region_quiet_below (by kernel_rfl) (by kernel_rfl) ?_
            repeat (first
              | go_big_quiet_step ((first
                | (go_at_call 113; (with_reducible exact Calls.regrown_of (BE _ _).out))))
              | quiet_step ((first
                | (go_at_call 113; (with_reducible exact Calls.regrown_of (BE _ _).out)))))
            refine wpQuiet_nil ?_
            intro W2 hv
            have hb := below_of_regrown hv
            clear hv e3g a0g a1g a2g dg BE
            have hrk2 := Lib.hid (hrk1.out.below hb)
            have hbw2 := Lib.hid (Below.step hbw1.out hb)
            have hbs := hrk1.out.lt
            have e3 := hrk2.out.hx.cell 3
            have e0 := hrk2.out.hx.lt
            simp at e3
            have a0 := (hb.cell (p := ⟨bb, off + i * 3, none⟩) (by show bb < _; omega)).trans A0.out
            have a1 := (hb.cell (p := ⟨bb, off + i * 3 + 1, none⟩) (by show bb < _; omega)).trans A1.out
            have a2 := (hb.cell (p := ⟨bb, off + i * 3 + 2, none⟩) (by show bb < _; omega)).trans A2.out
            clear hb hrk1 hbw1
            go_wp2_with (go_at_call 114; (with_reducible refine (NX _).out.mono ?_); rintro _ u2 ⟨x, rfl, hL, hb2⟩; obtain ⟨A, c', rfl, hcell⟩ := hL.slice; clear hL)
            have HC := Lib.hid hcell
            have hs2 := hb2.size
            have hdw := hrk2.out.hd.lt
            have hqw := hrk2.out.hq.lt
            have hrk3 := Lib.hid (hrk2.out.below hb2)
            have hbw3 := Lib.hid (Below.step hbw2.out hb2)
            have hll := HLEN.out
            clear hcell e3 e0 a0 a1 a2 A0 A1 A2 NX hrk2 hbw2 hb2
            go_loopw [13] (fun iv W => ∃ (k : Nat) (D' : List Int), iv = .int .i64 k ∧ k ≤ l.length ∧ RkAt B w.heap.size (w.heap.size + 1) (w.heap.size + 1 + 1) Ap p f (some ⟨bb, off, none⟩) cc D' Q1 W ∧ Below w.heap.size w W ∧ RInv f.code.length D' Q1 ∧
              Only (w.heap.size + 1) (w.heap.size + 1 + 1) u2 W ∧ nextsS b l D (waitV D Q1) = nextsS b (l.drop k) D' (waitV D' Q1)) (fun iv _ => l.length - (intOf iv).toNat)
            case atStart => exact ⟨0, D, rfl, by omega, hrk3.out, hbw3.out, HRI.out, Only.refl _ _ _, by simp⟩
            case round =>
              obtain ⟨k, D', rfl, hk, hrk, hbw, hri, hon, hns⟩ := hrel
              clear hrk3 hbw3
              by_cases hlt : k < l.length
              · obtain ⟨lb, rfl, hlb, hcell⟩ := HC.out k hlt
                have c0 := hon.cell hcell (by omega) (by omega)
                have hlx := HNX.out _ (List.getElem_mem hlt)
                rw [List.drop_eq_getElem_cons hlt, nexts_cons] at hns
                generalize l[k] = t at *
                obtain ⟨t1, t2⟩ := hlx
                have e3 := hrk.hx.cell 3
                have e0 := hrk.hx.lt
                simp at e3
                obtain ⟨t, rfl⟩ := Int.eq_ofNat_of_zero_le t1
                have HON := Lib.hid hon
                have HRK := Lib.hid hrk
                have HBW := Lib.hid hbw
                clear hcell hon hrk hbw
                by_cases htn : f.code.length ≤ t
                · have hd2 := hri.dl
                  rw [next1_out (by omega)] at hns
                  rw [if_neg (by simp)] at hns
                  have hfl := HFL.out
                  rw [hns, if_neg (by simp)] at hfl
                  have HFL2 := Lib.hid hfl
                  have HD2 := Lib.hid hd2
                  have htn2 : (f.code.length : Int) ≤ t := by omega
                  clear hfl hns hri hd2
                  go_wp2_with fail
                  go_quiet (fail)
                  go_wp2_with fail
                  go_returns
                  unfold ReaR
                  rw [← HFL2.out]
                  exact ⟨_, D', rfl, .inr ⟨w.heap.size + 1, by rw [HD2.out]; rfl, by omega, (HRK.out.below (below_drewN (Below.refl _ _) _)).hd⟩, fun h => absurd h (by simp), below_drewN HBW.out _⟩
                · have hd2 := hri.dl
                  have htd : t < D'.length := by omega
                  have he2 : D'[t]? = some D'[t] := List.getElem?_eq_getElem htd
                  have d0 := ints_cell HRK.out.hd htd
                  have f0 := HRK.out.hd.fz t
                  have dl0 := HRK.out.hd.lt
                  have hlow := hri.low t _ he2
                  have hbadS := fun h0 hne => rstep_bad (b := b) (waitV D' Q1) hri (show t < f.code.length by omega) he2 h0 hne
                  have hokS := fun hok => rstep_ok (b := b) hri (show t < f.code.length by omega) he2 hok hb0
                  have hset := HRK.out.setD t b
                  generalize D'[t] = e2 at *
                  have HS := Lib.hid hset
                  have HD2 := Lib.hid hd2
                  clear hset he2 hd2 htd
                  by_cases hb2 : 0 ≤ e2 ∧ e2 ≠ b
                  · rw [hbadS hb2.1 hb2.2] at hns
                    rw [if_neg (by simp)] at hns
                    have hfl := HFL.out
                    rw [hns, if_neg (by simp)] at hfl
                    have HFL2 := Lib.hid hfl
                    obtain ⟨g1, g2⟩ := hb2
                    have g3 : (e2 != b) = true := by simpa using g2
                    clear hfl hns hri hbadS hokS g2
                    go_wp2_with fail
                    go_quiet (fail)
                    go_wp2_with fail
                    go_returns
                    unfold ReaR
                    rw [← HFL2.out]
                    exact ⟨_, D', rfl, .inr ⟨w.heap.size + 1, by rw [HD2.out]; rfl, by omega, (HRK.out.below (below_drewN (Below.refl _ _) _)).hd⟩, fun h => absurd h (by simp), below_drewN HBW.out _⟩
                  · obtain ⟨hn1', hri2⟩ := hokS hb2
                    rw [hn1', if_pos rfl] at hns
                    have HNS := Lib.hid hns
                    have HRI2 := Lib.hid hri2
                    have HST2 := Lib.hid (HS.out.below (below_drewN (Below.refl _ _) 0))
                    have hq' : (0 ≤ e2 ∧ e2 = b) ∨ e2 < 0 := by omega
                    clear hns hri hri2 hbadS hokS hn1' hb2
                    rcases hq' with ⟨g1, rfl⟩ | g1
                    · have g2 : (e2 != e2) = false := by simp
                      go_wp2_with fail
                      go_quiet (fail)
                      have HR2 := Lib.hid ((HRK.out.below (below_drewN (Below.refl _ _) nq)).setD t e2)
                      have HB2 := Lib.hid ((below_drewN HBW.out nq).setCell (p := ⟨w.heap.size + 1, t, none⟩) (by show _ ≤ w.heap.size + 1; omega) (.int .i64 e2))
                      have HO2 := Lib.hid ((HON.out.drewN nq).set (.inl rfl) t (.int .i64 e2))
                      go_wp2_with fail
                      go_roundw
                      case rel => exact ⟨k + 1, D'.set t e2, by go_num, by omega, HR2.out, HB2.out, HRI2.out, HO2.out, HNS.out⟩
                      case measure => simp [intOf]; omega
                    · go_wp2_with fail
                      go_quiet (fail)
                      have HR2 := Lib.hid ((HRK.out.below (below_drewN (Below.refl _ _) nq)).setD t b)
                      have HB2 := Lib.hid ((below_drewN HBW.out nq).setCell (p := ⟨w.heap.size + 1, t, none⟩) (by show _ ≤ w.heap.size + 1; omega) (.int .i64 b))
                      have HO2 := Lib.hid ((HON.out.drewN nq).set (.inl rfl) t (.int .i64 b))
                      go_wp2_with fail
                      go_roundw
                      case rel => exact ⟨k + 1, D'.set t b, by go_num, by omega, HR2.out, HB2.out, HRI2.out, HO2.out, HNS.out⟩
                      case measure => simp [intOf]; omega
              · obtain rfl : k = l.length := by omega
                rw [List.drop_length, nexts_nil] at hns
                have hst := HST.out
                have hfl := HFL.out
                rw [hns] at hst hfl
                rw [if_pos rfl] at hfl
                have HST2 := Lib.hid (hst rfl)
                have HFL2 := Lib.hid hfl
                have HRK := Lib.hid hrk
                have HBW := Lib.hid hbw
                have HRI3 := Lib.hid hri
                clear hrk hbw hri hon hns hst hfl
                have hmk : muS f.code.length D' (waitV D' Q1) ≤ K := by
                  have := HST2.out.2
                  have := HMU.out
                  simp only at *
                  omega
                have HMK := Lib.hid hmk
                clear hmk
                go_wp2_with fail
                go_roundw
                case rel => exact ⟨D', Q1, K, HRK.out, HBW.out, HRI3.out, HST2.out.1, HMK.out, HFL2.out⟩
                case measure =>
                  rw [rdI_of HRK.out.hd, rdB_of HRK.out.hq, HM0.out, HM1.out]
                  exact HST2.out.2
end Go.Proofs.YtjibkgildfjjoaaGreatDoor

/- Layer 8: the document's function, Check, Good, Depths. -/
namespace Go.Proofs.YtjibkgildfjjoaaGreatDoor
set_option linter.unusedVariables false
set_option linter.unusedSimpArgs false
open Go.RowKit Go.ChangeShapes Go.WideShapes Go.ChangeAt Go.Sort

set_option maxHeartbeats 4000000 in
set_option maxRecDepth 100000 in
theorem rfunction_any {B : Nat} {Ap : Option Addr} {p : List Fun} {f : Fun} {Ac : Option Addr} (c cc : Nat) (hm : ∀ f ∈ p, mayF f = true) (hf : mayF f = true) (w : World) (hp : ProgAt w B Ap p) (hc : CodeAt w B Ac f.code) (hB : B ≤ w.heap.size) :
    Calls Tryz.prog 80 #[.slice Ap p.length c, .agg #[.int .i64 f.ar, .int .i64 f.lo, .int .i64 f.sl, .slice Ac f.code.length cc]] w fun x w' => x = .returned (.tuple #[.int .i64 (funE p f).1, .int .i64 (funE p f).2]) ∧ Below w.heap.size w w' := by
  obtain ⟨hh, hn1, hn, _⟩ := (mayF_iff f).1 hf
  generalize hG : funE p f = R
  have HG := Lib.hid hG
  clear hG hh
  have hx := Held.new w 73 #[.int .i64 f.ar, .int .i64 f.lo, .int .i64 f.sl, .slice Ac f.code.length cc]
  by_cases h1 : f.lo < f.ar
  · have hE := HG.out
    unfold funE at hE
    rw [if_pos h1] at hE
    subst hE
    clear hp hc hm hf hx
    go_enter Tryz.func80, Tryz.ntmps80
    go_wp2_with fail
    go_returns
    exact ⟨rfl, by go_grown⟩
  · have hle : f.ar ≤ f.lo := by omega
    have hb0 : Below w.heap.size w (w.alloc (.cells #[.int .i64 f.ar, .int .i64 f.lo, .int .i64 f.sl, .slice Ac f.code.length cc] 73)) := (Below.refl _ _).alloc (Nat.le_refl _) _
    have HX := Lib.hid hx
    have HB0 := Lib.hid hb0
    have HP := Lib.hid hp
    have HC := Lib.hid hc
    have HM := Lib.hid hm
    have HF := Lib.hid hf
    clear hp hc hm hf hx hb0 h1
    go_enter Tryz.func80, Tryz.ntmps80
    go_wp2_with fail
    go_loopw [6, 7] (fun iv _ W => ∃ k : Nat, iv = .int .i64 k ∧ k ≤ f.code.length ∧ Held W w.heap.size 73 #[.int .i64 f.ar, .int .i64 f.lo, .int .i64 f.sl, .slice Ac f.code.length cc] ∧ Below w.heap.size w W ∧ (∀ x ∈ f.code.take k, fieldI p f x = 0) ∧ firstI p f f.code 0 = firstI p f (f.code.drop k) k) (fun iv _ _ => f.code.length - (intOf iv).toNat)
    case atStart => exact ⟨0, rfl, by omega, HX.out, HB0.out, by simp, by simp⟩
    case round =>
      obtain ⟨k, rfl, hk, hx, hbw, hall, hfi⟩ := hrel
      clear HX HB0
      have hxl := hx.lt
      have e0 := hx.cell 0
      have e1 := hx.cell 1
      have e2 := hx.cell 2
      have e3 := hx.cell 3
      simp at e0 e1 e2 e3
      by_cases hlt : k < f.code.length
      · obtain ⟨bb, off, rfl, hbl, hcc⟩ := HC.out (by omega)
        obtain ⟨a0, a1, a2⟩ := hcc k hlt
        have hbb : bb < w.heap.size := by omega
        replace a0 := (hbw.cell (p := ⟨bb, off + k * 3, none⟩) hbb).trans a0
        replace a1 := (hbw.cell (p := ⟨bb, off + k * 3 + 1, none⟩) hbb).trans a1
        replace a2 := (hbw.cell (p := ⟨bb, off + k * 3 + 2, none⟩) hbb).trans a2
        have htk : f.code.take (k + 1) = f.code.take k ++ [f.code[k]] := List.take_succ_eq_append_getElem hlt
        have CF := fun d os => Lib.hid (rfield_any (A := Ap) (Ac := some ⟨bb, off, none⟩) (p := p) (f := f) c cc f.code[k].1 f.code[k].2.1 f.code[k].2.2 (grow (redrawn wr d) os))
        change ∀ d os, Hid (Calls Tryz.prog 101 #[.slice Ap p.length c, .agg #[.int .i64 f.ar, .int .i64 f.lo, .int .i64 f.sl, .slice (some ⟨bb, off, none⟩) f.code.length cc], .agg #[.int .i64 f.code[k].1, .int .i64 f.code[k].2.1, .int .i64 f.code[k].2.2]] (grow (redrawn wr d) os) fun e w' => e = .returned (.int .i64 (fieldI p f f.code[k])) ∧ Below (grow (redrawn wr d) os).heap.size (grow (redrawn wr d) os) w') at CF
        rw [List.drop_eq_getElem_cons hlt, firstI_cons] at hfi
        have HALL := Lib.hid hall
        have HFI := Lib.hid hfi
        have HTK := Lib.hid htk
        have HX := Lib.hid hx
        have HBW := Lib.hid hbw
        generalize hee : fieldI p f f.code[k] = ee at CF HFI
        have HEE := Lib.hid hee
        clear hee hall hfi htk hcc hx hbw
        generalize f.code[k] = x at *
        have step : ∀ {W : World}, (∃ q : Regrown, W = grow (redrawn wr q.d) q.os) → Below wr.heap.size wr W := fun h => below_of_regrown h
        by_cases he : ee = 0
        · subst he
          go_upto_region 6 with (fail)
          have e0g := fun d os => cell_regrown e0 d os
          have e1g := fun d os => cell_regrown e1 d os
          have e2g := fun d os => cell_regrown e2 d os
          have e3g := fun d os => cell_regrown e3 d os
          have a0g := fun d os => cell_regrown a0 d os
          have a1g := fun d os => cell_regrown a1 d os
          have a2g := fun d os => cell_regrown a2 d os
          clear e0 e1 e2 e3 a0 a1 a2
          refine wp_region_quiet_below (by kernel_rfl) (by kernel_rfl) ?_
          repeat (first
            | go_big_quiet_step ((first
              | (go_at_call 101; (with_reducible exact Calls.regrown_of (CF _ _).out))))
            | quiet_step ((first
              | (go_at_call 101; (with_reducible exact Calls.regrown_of (CF _ _).out)))))
          refine wpQuiet_nil ?_
          intro W2 hv
          have hb := below_of_regrown hv
          clear hv e0g e1g e2g e3g a0g a1g a2g CF
          go_wp2_with fail
          go_roundw
          case rel =>
            refine ⟨k + 1, by go_num, by omega, HX.out.below hb, Below.step HBW.out hb, fun y hy => ?_, by simpa using HFI.out⟩
            rw [HTK.out] at hy
            rcases List.mem_append.1 hy with hy | hy
            · exact HALL.out y hy
            · simp only [List.mem_singleton] at hy
              subst hy
              exact HEE.out
          case measure => simp [intOf]; omega
        · have hne : (ee != 0) = true := by simpa using he
          have hR : R = ((k : Int), ee) := by
            have h1 := HFI.out
            rw [if_neg he] at h1
            have h2 := HG.out
            unfold funE at h2
            rw [if_neg (Int.not_lt.2 hle), h1, if_neg he] at h2
            exact h2.symm
          subst hR
          clear he
          go_upto_region 6 with (fail)
          have e0g := fun d os => cell_regrown e0 d os
          have e1g := fun d os => cell_regrown e1 d os
          have e2g := fun d os => cell_regrown e2 d os
          have e3g := fun d os => cell_regrown e3 d os
          have a0g := fun d os => cell_regrown a0 d os
          have a1g := fun d os => cell_regrown a1 d os
          have a2g := fun d os => cell_regrown a2 d os
          clear e0 e1 e2 e3 a0 a1 a2
          refine wp_region_quiet_below (by kernel_rfl) (by kernel_rfl) ?_
          repeat (first
            | go_big_quiet_step ((first
              | (go_at_call 101; (with_reducible exact Calls.regrown_of (CF _ _).out))))
            | quiet_step ((first
              | (go_at_call 101; (with_reducible exact Calls.regrown_of (CF _ _).out)))))
          refine wpQuiet_nil ?_
          intro W2 hv
          have hb := below_of_regrown hv
          clear hv e0g e1g e2g e3g a0g a1g a2g CF
          go_wp2_with fail
          go_returns
          exact ⟨rfl, Below.step HBW.out hb⟩
      · obtain rfl : k = f.code.length := by omega
        rw [List.take_length] at hall
        have hok := fun_ok HM.out HF.out hall
        have hR : R = (flowF p f.code).2 := by
          have h2 := HG.out
          unfold funE at h2
          rw [if_neg (Int.not_lt.2 hle), first_all _ _ hall, if_pos rfl] at h2
          exact h2.symm
        have FL := Lib.hid (rreach_any (Ac := Ac) c cc hok wr (HP.out.below hbw hB) (HC.out.below hbw hB) (Nat.le_trans hB hbw.size))
        have HBW := Lib.hid hbw
        clear hx hbw hall hfi hok
        subst hR
        go_wp2_with (go_at_call 102; (with_reducible refine FL.out.mono ?_); rintro _ u ⟨y, D, rfl, _, _, hb2⟩)
        go_returns
        exact ⟨rfl, Below.step HBW.out hb2⟩
end Go.Proofs.YtjibkgildfjjoaaGreatDoor

/- Layer 8: the document's Check, Good, Depths. -/
namespace Go.Proofs.YtjibkgildfjjoaaGreatDoor
set_option linter.unusedVariables false
set_option linter.unusedSimpArgs false
open Go.RowKit Go.ChangeShapes Go.WideShapes Go.ChangeAt Go.Sort

set_option maxHeartbeats 4000000 in
set_option maxRecDepth 100000 in
theorem rcheck_any {B : Nat} {A : Option Addr} {p : List Fun} (c : Nat) (w : World) (h : ProgAt w B A p) (hz : SizedP p) (hB : B ≤ w.heap.size) :
    Calls Tryz.prog 50 #[.slice A p.length c] w fun x w' => x = .returned (.tuple #[.int .i64 (checkP p).1, .int .i64 (checkP p).2.1, .int .i64 (checkP p).2.2]) ∧ Below w.heap.size w w' := by
  have MY := Lib.hid (pmay_any c w h hz hB)
  have HA := Lib.hid h
  generalize hR : checkP p = R
  have HR := Lib.hid hR
  clear h hR
  cases hm : mayP p with
  | false =>
    have hR := HR.out
    unfold checkP at hR
    rw [if_neg (by rw [hm]; simp)] at hR
    subst hR
    rw [hm] at MY
    clear hm
    go_enter Tryz.func50, Tryz.ntmps50
    go_wp2_with (go_at_call 47; (with_reducible refine MY.out.mono ?_); rintro _ u ⟨rfl, hb⟩)
    go_returns
    exact ⟨rfl, hb⟩
  | true =>
    have hR := HR.out
    unfold checkP at hR
    rw [if_pos hm] at hR
    obtain ⟨hp1, hp2, hmf⟩ := (mayP_iff p).1 hm
    rw [hm] at MY
    have HR2 := Lib.hid hR
    have HMF := Lib.hid hmf
    clear hm hmf hR
    go_enter Tryz.func50, Tryz.ntmps50
    go_wp2_with (go_at_call 47; (with_reducible refine MY.out.mono ?_); rintro _ u ⟨rfl, hb⟩)
    have HB := Lib.hid hb
    clear hb
    go_loopw [5, 6, 7] (fun iv _ _ W => ∃ k : Nat, iv = .int .i64 k ∧ k ≤ p.length ∧ Below w.heap.size w W ∧ firstF p p 0 = firstF p (p.drop k) k) (fun iv _ _ _ => p.length - (intOf iv).toNat)
    case atStart => exact ⟨0, rfl, by omega, HB.out, by simp⟩
    case round =>
      obtain ⟨k, rfl, hk, hbw, hfi⟩ := hrel
      by_cases hlt : k < p.length
      · obtain ⟨bb, off, rfl, hbl, hc⟩ := (HA.out.below hbw hB) (by omega)
        obtain ⟨f0, f1, f2, Ac, cc, f3, hcode⟩ := hc k hlt
        have hmem := HMF.out _ (List.getElem_mem hlt)
        have hws := hbw.size
        rw [List.drop_eq_getElem_cons hlt, firstF_cons] at hfi
        have HBW := Lib.hid hbw
        have HFI := Lib.hid hfi
        have HMEM := Lib.hid hmem
        generalize p[k] = f at *
        have CC := Lib.hid (rfunction_any c cc HMF.out HMEM.out wr (HA.out.below hbw hB) hcode (Nat.le_trans hB hws))
        have hfe : (funE p f) = ((funE p f).1, (funE p f).2) := rfl
        generalize hf1 : (funE p f).1 = e1 at *
        generalize hf2 : (funE p f).2 = e2 at *
        have HF1 := Lib.hid hf1
        have HF2 := Lib.hid hf2
        have HFE := Lib.hid hfe
        clear hc hcode hmem hfi hbw hf1 hf2 hfe
        by_cases he : e2 = 0
        · subst he
          go_wp2_with (go_at_call 80; (with_reducible refine CC.out.mono ?_); rintro _ u3 ⟨rfl, hb3⟩)
          go_roundw
          case rel => exact ⟨k + 1, by go_num, by omega, Below.step HBW.out hb3, by simpa [HF2.out] using HFI.out⟩
          case measure => simp [intOf]; omega
        · have hne : (e2 != 0) = true := by simpa using he
          have hR : R = ((k : Int), e1, e2) := by
            have h1 := HFI.out
            rw [if_neg he, HFE.out] at h1
            exact HR2.out.symm.trans h1
          subst hR
          clear he
          go_wp2_with (go_at_call 80; (with_reducible refine CC.out.mono ?_); rintro _ u3 ⟨rfl, hb3⟩)
          go_returns
          exact ⟨rfl, Below.step HBW.out hb3⟩
      · obtain rfl : k = p.length := by omega
        rw [List.drop_length] at hfi
        have hR : R = (0, 0, 0) := HR2.out.symm.trans hfi
        subst hR
        have HBW := Lib.hid hbw
        clear hbw hfi
        go_wp2_with fail
        go_returns
        exact ⟨rfl, HBW.out⟩

set_option maxHeartbeats 4000000 in
set_option maxRecDepth 100000 in
theorem rgood_any {B : Nat} {A : Option Addr} {p : List Fun} (c : Nat) (w : World) (h : ProgAt w B A p) (hz : SizedP p) (hB : B ≤ w.heap.size) :
    Calls Tryz.prog 19 #[.slice A p.length c] w fun x w' => x = .returned (.bool ((checkP p).2.2 == 0)) ∧ Below w.heap.size w w' := by
  have CK := Lib.hid (rcheck_any c w h hz hB)
  generalize checkP p = R at *
  obtain ⟨r1, r2, r3⟩ := R
  clear h
  go_enter Tryz.func19, Tryz.ntmps19
  go_wp2_with (go_at_call 50; (with_reducible refine CK.out.mono ?_); rintro _ u ⟨rfl, hb⟩)
  go_ret
  exact ⟨rfl, hb⟩

end Go.Proofs.YtjibkgildfjjoaaGreatDoor

