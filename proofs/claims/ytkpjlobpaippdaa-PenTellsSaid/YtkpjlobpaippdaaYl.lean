/- Layer 12: pens, frames, refs in variables' blocks; the calls as the laws meet them. -/
import Derived.Test.YtkpjlobpaippdaaYla
import Derived.Test.YtkpjlobpaippdaaYh
import Derived.Test.YtkpjlobpaippdaaYs
import Derived.Test.YtkpjlobpaippdaaYi
namespace Go.Proofs.Ytkpjlobpaippdaa
set_option linter.unusedVariables false
set_option linter.unusedSimpArgs false
open Go.RowKit Go.ChangeShapes Go.WideShapes Go.ChangeAt Go.Sort

/-- A variable that holds a pen of one's own; one that can be read; a frame's. -/
structure PV (W : World) (g : Nat) (A : Option Addr) (c : Nat) (A2 : Option Addr) (c2 : Nat) (P : Zp) : Prop where
  x : Held W g 25 (pc A P.cells.length c A2 P.free.length c2 P.most)
  o : OwnZ W 0 A c A2 c2 P
structure PR (W : World) (g : Nat) (A : Option Addr) (c : Nat) (A2 : Option Addr) (c2 : Nat) (P : Zp) : Prop where
  x : Held W g 25 (pc A P.cells.length c A2 P.free.length c2 P.most)
  p : PAtZ W W.heap.size A A2 P
structure FV (W : World) (g : Nat) (fs : Array Value) (F : Frm) : Prop where
  x : Held W g 35 fs
  s : fs.size = 16
  n : fs.all (·.oneCell') = true
  p : FrmAt W W.heap.size (.agg fs) F
theorem PV.below {W W' : World} {g c c2 : Nat} {A A2 : Option Addr} {P : Zp} (h : PV W g A c A2 c2 P) (hb : Below W.heap.size W W') : PV W' g A c A2 c2 P := ⟨h.x.below hb, h.o.below hb⟩
theorem PR.below {W W' : World} {g c c2 : Nat} {A A2 : Option Addr} {P : Zp} (h : PR W g A c A2 c2 P) (hb : Below W.heap.size W W') : PR W' g A c A2 c2 P := ⟨h.x.below hb, h.p.later hb⟩
theorem FV.below {W W' : World} {g : Nat} {fs : Array Value} {F : Frm} (h : FV W g fs F) (hb : Below W.heap.size W W') : FV W' g fs F := ⟨h.x.below hb, h.s, h.n, (h.p.below hb (Nat.le_refl _)).more hb.size⟩
theorem PV.p {W : World} {g c c2 : Nat} {A A2 : Option Addr} {P : Zp} (h : PV W g A c A2 c2 P) : PAtZ W W.heap.size A A2 P := h.o.at
theorem PV.r {W : World} {g c c2 : Nat} {A A2 : Option Addr} {P : Zp} (h : PV W g A c A2 c2 P) : PR W g A c A2 c2 P := ⟨h.x, h.o.at⟩
theorem new_p1 {W u : World} {D c c2 : Nat} {A A2 : Option Addr} {P : Zp} (hb : Below W.heap.size W u) (ho : OwnZ u D A c A2 c2 P) :
    PV ((u.alloc (.cells pz0 25)).setRow u.heap.size (pc A P.cells.length c A2 P.free.length c2 P.most)) u.heap.size A c A2 c2 P ∧ Below W.heap.size W ((u.alloc (.cells pz0 25)).setRow u.heap.size (pc A P.cells.length c A2 P.free.length c2 P.most)) := by
  have hb2 : Below u.heap.size u ((u.alloc (.cells pz0 25)).setRow u.heap.size (pc A P.cells.length c A2 P.free.length c2 P.most)) := below_setRow ((Below.refl _ _).alloc (Nat.le_refl _) _) (Nat.le_refl _) _
  exact ⟨⟨held_rowSelf (Held.new u 25 pz0) _, (ho.mono (Nat.zero_le _)).below hb2⟩, Below.step hb hb2⟩
theorem new_p2 {W u : World} {D c c2 : Nat} {A A2 : Option Addr} {P : Zp} {x y : Int} (hb : Below W.heap.size W u) (ho : OwnZ u D A c A2 c2 P) :
    PV ((((u.alloc (.cells pz0 25)).alloc (.cells (refc 0 0) 27)).setRow u.heap.size (pc A P.cells.length c A2 P.free.length c2 P.most)).setRow (u.heap.size + 1) (refc x y)) u.heap.size A c A2 c2 P ∧
    Held ((((u.alloc (.cells pz0 25)).alloc (.cells (refc 0 0) 27)).setRow u.heap.size (pc A P.cells.length c A2 P.free.length c2 P.most)).setRow (u.heap.size + 1) (refc x y)) (u.heap.size + 1) 27 (refc x y) ∧
    Below W.heap.size W ((((u.alloc (.cells pz0 25)).alloc (.cells (refc 0 0) 27)).setRow u.heap.size (pc A P.cells.length c A2 P.free.length c2 P.most)).setRow (u.heap.size + 1) (refc x y)) := by
  have hb2 : Below u.heap.size u ((((u.alloc (.cells pz0 25)).alloc (.cells (refc 0 0) 27)).setRow u.heap.size (pc A P.cells.length c A2 P.free.length c2 P.most)).setRow (u.heap.size + 1) (refc x y)) := below_setRow (below_setRow (below2 _ _ _) (Nat.le_refl _) _) (Nat.le_succ _) _
  exact ⟨⟨held_row (held_rowSelf ((Held.new u 25 pz0).alloc _) _) (by omega) _, (ho.mono (Nat.zero_le _)).below hb2⟩, held_rowSelf (held_row (Held.new1 u (.cells pz0 25) 27 (refc 0 0)) (by omega) _) _, Below.step hb hb2⟩
theorem new_r1 {W u : World} {c c2 : Nat} {A A2 : Option Addr} {P : Zp} (hb : Below W.heap.size W u) (ho : PAtZ u u.heap.size A A2 P) :
    PR ((u.alloc (.cells pz0 25)).setRow u.heap.size (pc A P.cells.length c A2 P.free.length c2 P.most)) u.heap.size A c A2 c2 P ∧ Below W.heap.size W ((u.alloc (.cells pz0 25)).setRow u.heap.size (pc A P.cells.length c A2 P.free.length c2 P.most)) := by
  have hb2 : Below u.heap.size u ((u.alloc (.cells pz0 25)).setRow u.heap.size (pc A P.cells.length c A2 P.free.length c2 P.most)) := below_setRow ((Below.refl _ _).alloc (Nat.le_refl _) _) (Nat.le_refl _) _
  exact ⟨⟨held_rowSelf (Held.new u 25 pz0) _, ho.later hb2⟩, Below.step hb hb2⟩
theorem new_r2 {W u : World} {c c2 : Nat} {A A2 : Option Addr} {P : Zp} {x y : Int} (hb : Below W.heap.size W u) (ho : PAtZ u u.heap.size A A2 P) :
    PR ((((u.alloc (.cells pz0 25)).alloc (.cells (refc 0 0) 27)).setRow u.heap.size (pc A P.cells.length c A2 P.free.length c2 P.most)).setRow (u.heap.size + 1) (refc x y)) u.heap.size A c A2 c2 P ∧
    Held ((((u.alloc (.cells pz0 25)).alloc (.cells (refc 0 0) 27)).setRow u.heap.size (pc A P.cells.length c A2 P.free.length c2 P.most)).setRow (u.heap.size + 1) (refc x y)) (u.heap.size + 1) 27 (refc x y) ∧
    Below W.heap.size W ((((u.alloc (.cells pz0 25)).alloc (.cells (refc 0 0) 27)).setRow u.heap.size (pc A P.cells.length c A2 P.free.length c2 P.most)).setRow (u.heap.size + 1) (refc x y)) := by
  have hb2 : Below u.heap.size u ((((u.alloc (.cells pz0 25)).alloc (.cells (refc 0 0) 27)).setRow u.heap.size (pc A P.cells.length c A2 P.free.length c2 P.most)).setRow (u.heap.size + 1) (refc x y)) := below_setRow (below_setRow (below2 _ _ _) (Nat.le_refl _) _) (Nat.le_succ _) _
  exact ⟨⟨held_row (held_rowSelf ((Held.new u 25 pz0).alloc _) _) (by omega) _, ho.later hb2⟩, held_rowSelf (held_row (Held.new1 u (.cells pz0 25) 27 (refc 0 0)) (by omega) _) _, Below.step hb hb2⟩
theorem new_f1 {W u : World} {fs : Array Value} {F : Frm} (hb : Below W.heap.size W u) (hs : fs.size = 16) (hn : fs.all (·.oneCell') = true) (hf : FrmAt u u.heap.size (.agg fs) F) :
    FV ((u.alloc (.cells fzc 35)).setRow u.heap.size fs) u.heap.size fs F ∧ Below W.heap.size W ((u.alloc (.cells fzc 35)).setRow u.heap.size fs) := by
  have hb2 : Below u.heap.size u ((u.alloc (.cells fzc 35)).setRow u.heap.size fs) := below_setRow ((Below.refl _ _).alloc (Nat.le_refl _) _) (Nat.le_refl _) _
  exact ⟨⟨held_rowSelf (Held.new u 35 fzc) _, hs, hn, (hf.below hb2 (Nat.le_refl _)).more hb2.size⟩, Below.step hb hb2⟩
/-- A pen's variable is laid over, and a ref's is made. -/
theorem over_p2 {W u : World} {D c c2 g : Nat} {A A2 : Option Addr} {P : Zp} {x y : Int} {old : Array Value} (hg : Held W g 25 old) (hb : Below W.heap.size W u) (ho : OwnZ u D A c A2 c2 P) :
    PV (((u.alloc (.cells (refc 0 0) 27)).setRow g (pc A P.cells.length c A2 P.free.length c2 P.most)).setRow u.heap.size (refc x y)) g A c A2 c2 P ∧
    Held (((u.alloc (.cells (refc 0 0) 27)).setRow g (pc A P.cells.length c A2 P.free.length c2 P.most)).setRow u.heap.size (refc x y)) u.heap.size 27 (refc x y) ∧
    (∀ k t cs, Held W k t cs → t ≠ 25 → Held (((u.alloc (.cells (refc 0 0) 27)).setRow g (pc A P.cells.length c A2 P.free.length c2 P.most)).setRow u.heap.size (refc x y)) k t cs) ∧
    (∀ B V, Below B V W → B ≤ g → B ≤ W.heap.size → Below B V (((u.alloc (.cells (refc 0 0) 27)).setRow g (pc A P.cells.length c A2 P.free.length c2 P.most)).setRow u.heap.size (refc x y))) := by
  have hgu := hg.below hb
  have hgl := hgu.lt
  have hga : Held (u.alloc (.cells (refc 0 0) 27)) g 25 old := hgu.alloc _
  have hgs := held_rowSelf hga (pc A P.cells.length c A2 P.free.length c2 P.most)
  have hr := held_row (Held.new u 27 (refc 0 0)) (show u.heap.size ≠ g by omega) (pc A P.cells.length c A2 P.free.length c2 P.most)
  refine ⟨⟨held_row hgs (by omega) _, ?_⟩, held_rowSelf hr _, fun k t cs hk hne => ?_, fun B V hV hB hBW => ?_⟩
  · exact ((((ho.mono (Nat.zero_le _)).below ((Below.refl _ _).alloc (Nat.le_refl _) _)).pen (kt_row hga _)).kt (kt_row hr _) (by decide) (by decide) (by decide) (by decide))
  · have hku := hk.below hb
    have hkl := hku.lt
    exact held_row (held_row (hku.alloc _) (fun e => by
      subst e
      rw [Held] at hku hgu
      rw [hku] at hgu
      simp at hgu
      exact hne hgu.2) _) (by omega) _
  · have := hb.size
    exact below_setRow (below_setRow ((hV.trans (hb.mono hBW)).alloc (by omega) _) hB _) (by omega) _
/-- A pen's variable is laid over by another one's. -/
theorem over_p {W : World} {c c2 g : Nat} {A A2 : Option Addr} {P : Zp} {old : Array Value} (hg : Held W g 25 old) (ho : OwnZ W 0 A c A2 c2 P) :
    PV (W.setRow g (pc A P.cells.length c A2 P.free.length c2 P.most)) g A c A2 c2 P := ⟨held_rowSelf hg _, ho.pen (kt_row hg _)⟩

/-! The calls. -/
theorem may_c {P : Zp} {R : Bool} (hR : okZ P = R) (hl : LenZ P) (c c2 : Nat) (W : World) {A A2 : Option Addr} (hp : PAtZ W W.heap.size A A2 P) :
    Calls Try.prog 27 #[pv A P.cells.length c A2 P.free.length c2 P.most] W fun e w' => e = .returned (.bool R) ∧ Below W.heap.size W w' := by
  subst hR
  exact may_z c c2 W rfl rfl hp (by have := hl.cells; omega) (by have := hl.free; omega) (Nat.le_refl _)
theorem rmay_c {P : Zp} {R : Bool} (hR : okZ P = R) (hl : LenZ P) (c c2 : Nat) (W : World) {A A2 : Option Addr} (hp : PAtZ W W.heap.size A A2 P) :
    Calls Try.prog 28 #[pv A P.cells.length c A2 P.free.length c2 P.most] W fun e w' => e = .returned (.bool R) ∧ Below W.heap.size W w' := by
  subst hR
  exact rmay_z c c2 W rfl rfl hp (by have := hl.cells; omega) (by have := hl.free; omega) (Nat.le_refl _)
theorem small_c {P : Zp} {R : Bool} (hR : smZ P 30 = R) (hn : P.cells.length ≤ maxLen) (hm : P.free.length ≤ maxLen) (c c2 : Nat) (W : World) {A A2 : Option Addr} (hp : PAtZ W W.heap.size A A2 P) :
    Calls Try.prog 9 #[pv A P.cells.length c A2 P.free.length c2 P.most, .int .i64 30] W fun e w' => e = .returned (.bool R) ∧ Below W.heap.size W w' := by
  subst hR
  exact rsmall_z c c2 W rfl rfl hp hn hm (Nat.le_refl _)
theorem smallf_c {F : Frm} {R : Bool} (hR : smB F = R) (W : World) {fs : Array Value} (hf : FrmAt W W.heap.size (.agg fs) F) :
    Calls Try.prog 10 #[.agg fs] W fun e w' => e = .returned (.bool R) ∧ Below W.heap.size W w' := by
  subst hR
  exact rsmallf_any W hf
theorem new_c {m : Int} {P : Zp} {R : Bool} (hR : newZ m = (P, R)) (W : World) :
    Calls Try.prog 20 #[.int .i64 m] W fun e w' => e = .returned (.tuple #[pv none P.cells.length 0 none P.free.length 0 P.most, .bool R]) ∧ OwnZ w' 0 none 0 none 0 P ∧ Below W.heap.size W w' := by
  refine (new_z m W).mono fun e w' ⟨he, hb⟩ => ?_
  have hc : P.cells = [] ∧ P.free = [] := by
    unfold newZ at hR
    split at hR
    · simp only [Prod.mk.injEq] at hR
      rw [← hR.1]
      exact ⟨rfl, rfl⟩
    · simp only [Prod.mk.injEq] at hR
      rw [← hR.1]
      exact ⟨rfl, rfl⟩
  rw [hR] at he
  obtain ⟨pcs, pfr, pm⟩ := P
  simp only at hc
  obtain ⟨rfl, rfl⟩ := hc
  exact ⟨he, ⟨OwnC.nil _ _, OwnI.nil _ _⟩, hb⟩
theorem lay_c {P S : Zp} {F : Frm} {r : V} {x : Int} (hR : layZ P F = (S, r, x)) (hl : LenZ P) (hlf : FrmLen F) (c c2 : Nat) (W : World) {A A2 : Option Addr} {fs : Array Value} (hp : PAtZ W W.heap.size A A2 P) (hs : fs.size = 16) (hf : FrmAt W W.heap.size (.agg fs) F) :
    Calls Try.prog 12 #[pv A P.cells.length c A2 P.free.length c2 P.most, .agg fs] W fun e w' => ∃ A' c' A2' c2', e = .returned (.tuple #[pv A' S.cells.length c' A2' S.free.length c2' S.most, gv r.1 r.2, .int .i64 x]) ∧ OwnZ w' W.heap.size A' c' A2' c2' S ∧ Below W.heap.size W w' := by
  have h := lay_z c c2 W rfl rfl hp hl (Nat.le_refl _) hs hf hlf (Nat.le_refl _)
  rw [hR] at h
  exact h
theorem set_c {P S : Zp} {F : Frm} {r : V} {x : Int} (hR : setZ P r F = (S, x)) (hl : LenZ P) (hlf : FrmLen F) (c c2 : Nat) (W : World) {A A2 : Option Addr} {fs : Array Value} (hp : PAtZ W W.heap.size A A2 P) (hs : fs.size = 16) (hf : FrmAt W W.heap.size (.agg fs) F) :
    Calls Try.prog 14 #[pv A P.cells.length c A2 P.free.length c2 P.most, gv r.1 r.2, .agg fs] W fun e w' => ∃ A' c' A2' c2', e = .returned (.tuple #[pv A' S.cells.length c' A2' S.free.length c2' S.most, .int .i64 x]) ∧ OwnZ w' W.heap.size A' c' A2' c2' S ∧ Below W.heap.size W w' := by
  have h := set_z c c2 r W rfl rfl hp hl (Nat.le_refl _) hs hf hlf (Nat.le_refl _)
  rw [hR] at h
  exact h
theorem drop_c {P S : Zp} {r : V} {x : Int} (hR : dropZ P r = (S, x)) (hl : LenZ P) (c c2 : Nat) (W : World) {A A2 : Option Addr} (hp : PAtZ W W.heap.size A A2 P) :
    Calls Try.prog 16 #[pv A P.cells.length c A2 P.free.length c2 P.most, gv r.1 r.2] W fun e w' => ∃ A' c' A2' c2', e = .returned (.tuple #[pv A' S.cells.length c' A2' S.free.length c2' S.most, .int .i64 x]) ∧ OwnZ w' W.heap.size A' c' A2' c2' S ∧ Below W.heap.size W w' := by
  have h := drop_z c c2 r W rfl rfl hp hl (Nat.le_refl _)
  rw [hR] at h
  exact h
theorem get_c {P : Zp} {F : Frm} {r : V} {x : Bool} (hR : getZ P r = (F, x)) (hl : LenZ P) (c c2 : Nat) (W : World) {A A2 : Option Addr} (hp : PAtZ W W.heap.size A A2 P) :
    Calls Try.prog 18 #[pv A P.cells.length c A2 P.free.length c2 P.most, gv r.1 r.2] W fun e w' => ∃ ds : Array Value, e = .returned (.tuple #[.agg ds, .bool x]) ∧ ds.size = 16 ∧ ds.all (·.oneCell') = true ∧ FrmAt w' w'.heap.size (.agg ds) F ∧ Below W.heap.size W w' := by
  have h := get_z c c2 r W rfl rfl hp hl (Nat.le_refl _)
  rw [hR] at h
  exact h.mono fun _ _ ⟨ds, a, b, c, d, e⟩ => ⟨ds, a, b, c, d.at, e⟩
theorem get_o {P : Zp} {F : Frm} {r : V} {x : Bool} (hR : getZ P r = (F, x)) (hl : LenZ P) (c c2 : Nat) (W : World) {A A2 : Option Addr} (hp : PAtZ W W.heap.size A A2 P) :
    Calls Try.prog 18 #[pv A P.cells.length c A2 P.free.length c2 P.most, gv r.1 r.2] W fun e w' => ∃ ds : Array Value, e = .returned (.tuple #[.agg ds, .bool x]) ∧ ds.size = 16 ∧ ds.all (·.oneCell') = true ∧ OwnF w' W.heap.size (.agg ds) F ∧ Below W.heap.size W w' := by
  have h := get_z c c2 r W rfl rfl hp hl (Nat.le_refl _)
  rw [hR] at h
  exact h
theorem refs_c {P : Zp} {l : List V} (hR : refsZ P = l) (hl : LenZ P) (c c2 : Nat) (W : World) {A A2 : Option Addr} (hp : PAtZ W W.heap.size A A2 P) :
    Calls Try.prog 25 #[pv A P.cells.length c A2 P.free.length c2 P.most] W fun e w' => ∃ A' c', e = .returned (.slice A' l.length c') ∧ OwnR w' W.heap.size (.slice A' l.length c') l ∧ Below W.heap.size W w' := by
  subst hR
  exact refs_z c c2 W rfl rfl hp hl (Nat.le_refl _)
theorem same_c {P Q : Zp} {R : Bool} (hR : decide (P = Q) = R) (hl : LenZ P) (hl' : LenZ Q) (c c2 c3 c4 : Nat) (W : World) {A A2 A3 A4 : Option Addr} (hp : PAtZ W W.heap.size A A2 P) (hq : PAtZ W W.heap.size A3 A4 Q) :
    Calls Try.prog 29 #[pv A P.cells.length c A2 P.free.length c2 P.most, pv A3 Q.cells.length c3 A4 Q.free.length c4 Q.most] W fun e w' => e = .returned (.bool R) ∧ Below W.heap.size W w' := by
  subst hR
  exact same_z c c2 c3 c4 W rfl rfl rfl rfl hp hq hl hl' (Nat.le_refl _) (Nat.le_refl _)
theorem rsamef_c {F G : Frm} {R : Bool} (hR : decide (F = G) = R) (hl : FrmLen F) (hl' : FrmLen G) (W : World) {fs gs : Array Value} (hf : FrmAt W W.heap.size (.agg fs) F) (hg : FrmAt W W.heap.size (.agg gs) G) :
    Calls Try.prog 23 #[.agg fs, .agg gs] W fun e w' => e = .returned (.bool R) ∧ Below W.heap.size W w' := by
  subst hR
  exact rsamef_z W hf hg hl hl' (Nat.le_refl _) (Nat.le_refl _)
theorem rrefs_c {l k : List V} {R : Bool} (hR : decide (l = k) = R) (h1 : l.length ≤ 100000) (h2 : k.length ≤ 100000) (c c2 : Nat) (W : World) {A A2 : Option Addr} (hp : PAt W W.heap.size A l) (hq : PAt W W.heap.size A2 k) :
    Calls Try.prog 24 #[.slice A l.length c, .slice A2 k.length c2] W fun e w' => e = .returned (.bool R) ∧ Below W.heap.size W w' := by
  subst hR
  exact rrefs_any c c2 W hp hq h1 h2
end Go.Proofs.Ytkpjlobpaippdaa
