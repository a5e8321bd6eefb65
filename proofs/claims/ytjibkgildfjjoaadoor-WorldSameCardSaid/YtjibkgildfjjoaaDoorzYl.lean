/- Layer 12: pens, frames, refs in variables' blocks; the calls as the laws meet them. -/
import Derived.Test.YtjibkgildfjjoaaDoorzYla
import Derived.Test.YtjibkgildfjjoaaDoorzYg
import Derived.Test.YtjibkgildfjjoaaDoorzYr
import Derived.Test.YtjibkgildfjjoaaDoorzYo
namespace Go.Proofs.YtjibkgildfjjoaaDoor
set_option linter.unusedVariables false
set_option linter.unusedSimpArgs false
open Go.RowKit Go.ChangeShapes Go.WideShapes Go.ChangeAt Go.Sort

/-- A variable that holds a pen of one's own; one that can be read; a frame's. -/
structure PV (W : World) (g : Nat) (A : Option Addr) (c : Nat) (A2 : Option Addr) (c2 : Nat) (P : Zp) : Prop where
  x : Held W g 29 (pc A P.cells.length c A2 P.free.length c2 P.most)
  o : OwnZ W 0 A c A2 c2 P
structure PR (W : World) (g : Nat) (A : Option Addr) (c : Nat) (A2 : Option Addr) (c2 : Nat) (P : Zp) : Prop where
  x : Held W g 29 (pc A P.cells.length c A2 P.free.length c2 P.most)
  p : PAtZ W W.heap.size A A2 P
structure FV (W : World) (g : Nat) (fs : Array Value) (F : Frm) : Prop where
  x : Held W g 54 fs
  s : fs.size = 16
  n : fs.all (·.oneCell') = true
  p : FrmAt W W.heap.size (.agg fs) F
theorem PV.below {W W' : World} {g c c2 : Nat} {A A2 : Option Addr} {P : Zp} (h : PV W g A c A2 c2 P) (hb : Below W.heap.size W W') : PV W' g A c A2 c2 P := ⟨h.x.below hb, h.o.below hb⟩
theorem PR.below {W W' : World} {g c c2 : Nat} {A A2 : Option Addr} {P : Zp} (h : PR W g A c A2 c2 P) (hb : Below W.heap.size W W') : PR W' g A c A2 c2 P := ⟨h.x.below hb, h.p.later hb⟩
theorem FV.below {W W' : World} {g : Nat} {fs : Array Value} {F : Frm} (h : FV W g fs F) (hb : Below W.heap.size W W') : FV W' g fs F := ⟨h.x.below hb, h.s, h.n, (h.p.below hb (Nat.le_refl _)).more hb.size⟩
theorem PV.p {W : World} {g c c2 : Nat} {A A2 : Option Addr} {P : Zp} (h : PV W g A c A2 c2 P) : PAtZ W W.heap.size A A2 P := h.o.at
theorem PV.r {W : World} {g c c2 : Nat} {A A2 : Option Addr} {P : Zp} (h : PV W g A c A2 c2 P) : PR W g A c A2 c2 P := ⟨h.x, h.o.at⟩
theorem new_p1 {W u : World} {D c c2 : Nat} {A A2 : Option Addr} {P : Zp} (hb : Below W.heap.size W u) (ho : OwnZ u D A c A2 c2 P) :
    PV ((u.alloc (.cells pz0 29)).setRow u.heap.size (pc A P.cells.length c A2 P.free.length c2 P.most)) u.heap.size A c A2 c2 P ∧ Below W.heap.size W ((u.alloc (.cells pz0 29)).setRow u.heap.size (pc A P.cells.length c A2 P.free.length c2 P.most)) := by
  have hb2 : Below u.heap.size u ((u.alloc (.cells pz0 29)).setRow u.heap.size (pc A P.cells.length c A2 P.free.length c2 P.most)) := below_setRow ((Below.refl _ _).alloc (Nat.le_refl _) _) (Nat.le_refl _) _
  exact ⟨⟨held_rowSelf (Held.new u 29 pz0) _, (ho.mono (Nat.zero_le _)).below hb2⟩, Below.step hb hb2⟩
theorem new_f1 {W u : World} {fs : Array Value} {F : Frm} (hb : Below W.heap.size W u) (hs : fs.size = 16) (hn : fs.all (·.oneCell') = true) (hf : FrmAt u u.heap.size (.agg fs) F) :
    FV ((u.alloc (.cells fzc 54)).setRow u.heap.size fs) u.heap.size fs F ∧ Below W.heap.size W ((u.alloc (.cells fzc 54)).setRow u.heap.size fs) := by
  have hb2 : Below u.heap.size u ((u.alloc (.cells fzc 54)).setRow u.heap.size fs) := below_setRow ((Below.refl _ _).alloc (Nat.le_refl _) _) (Nat.le_refl _) _
  exact ⟨⟨held_rowSelf (Held.new u 54 fzc) _, hs, hn, (hf.below hb2 (Nat.le_refl _)).more hb2.size⟩, Below.step hb hb2⟩
theorem new_c {m : Int} {P : Zp} {R : Bool} (hR : newZ m = (P, R)) (W : World) :
    Calls Tryd.prog 32 #[.int .i64 m] W fun e w' => e = .returned (.tuple #[pv none P.cells.length 0 none P.free.length 0 P.most, .bool R]) ∧ OwnZ w' 0 none 0 none 0 P ∧ Below W.heap.size W w' := by
  refine (newZ_z m W).mono fun e w' ⟨he, hb⟩ => ?_
  have hc : P.cells = [] ∧ P.free = [] := by
    unfold newZ at hR
    split at hR
    · simp only [Prod.mk.injEq] at hR
      rw [← hR.1]
      exact ⟨rfl, rfl⟩
    · simp only [Prod.mk.injEq] at hR
      rw [← hR.1]
      exact ⟨rfl, rfl⟩
  rw [hR] at he
  obtain ⟨pcs, pfr, pm⟩ := P
  simp only at hc
  obtain ⟨rfl, rfl⟩ := hc
  exact ⟨he, ⟨OwnCe.nil _ _, OwnI.nil _ _⟩, hb⟩
theorem lay_c {P S : Zp} {F : Frm} {r : V} {x : Int} (hR : layZ P F = (S, r, x)) (hl : LenZ P) (hlf : FrmLen F) (c c2 : Nat) (W : World) {A A2 : Option Addr} {fs : Array Value} (hp : PAtZ W W.heap.size A A2 P) (hs : fs.size = 16) (hf : FrmAt W W.heap.size (.agg fs) F) :
    Calls Tryd.prog 33 #[pv A P.cells.length c A2 P.free.length c2 P.most, .agg fs] W fun e w' => ∃ A' c' A2' c2', e = .returned (.tuple #[pv A' S.cells.length c' A2' S.free.length c2' S.most, gv r.1 r.2, .int .i64 x]) ∧ OwnZ w' W.heap.size A' c' A2' c2' S ∧ Below W.heap.size W w' := by
  have h := lay_z c c2 W rfl rfl hp hl (Nat.le_refl _) hs hf hlf (Nat.le_refl _)
  rw [hR] at h
  exact h
end Go.Proofs.YtjibkgildfjjoaaDoor

