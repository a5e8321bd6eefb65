/- Layer 12: the document's calls, as the law PenTells meets them. -/
import Derived.Test.YtkpjlobpaippdaaYtd
import Derived.Test.YtkpjlobpaippdaaYw
import Derived.Test.YtkpjlobpaippdaaYl
namespace Go.Proofs.Ytkpjlobpaippdaa
set_option linter.unusedVariables false
set_option linter.unusedSimpArgs false
open Go.RowKit Go.ChangeShapes Go.WideShapes Go.ChangeAt Go.Sort

theorem rset_c {P S : Zp} {F : Frm} {r : V} {x : Int} (hR : setZ P r F = (S, x)) (hl : LenZ P) (c c2 : Nat) (W : World) {A A2 : Option Addr} {fs : Array Value} (hp : PAtZ W W.heap.size A A2 P) (hs : fs.size = 16) (hn : fs.all (·.oneCell') = true) (hf : FrmAt W W.heap.size (.agg fs) F) :
    Calls Try.prog 15 #[pv A P.cells.length c A2 P.free.length c2 P.most, gv r.1 r.2, .agg fs] W fun e w' => ∃ A' c' A2' c2', e = .returned (.tuple #[pv A' S.cells.length c' A2' S.free.length c2' S.most, .int .i64 x]) ∧ PAtZ w' w'.heap.size A' A2' S ∧ Below W.heap.size W w' := by
  have h := rset_z c c2 r W rfl rfl hp hl (Nat.le_refl _) hs hn hf (Nat.le_refl _)
  rw [hR] at h
  exact h
theorem rdrop_c {P S : Zp} {r : V} {x : Int} (hR : dropZ P r = (S, x)) (hl : LenZ P) (c c2 : Nat) (W : World) {A A2 : Option Addr} (hp : PAtZ W W.heap.size A A2 P) :
    Calls Try.prog 17 #[pv A P.cells.length c A2 P.free.length c2 P.most, gv r.1 r.2] W fun e w' => ∃ A' c' A2' c2', e = .returned (.tuple #[pv A' S.cells.length c' A2' S.free.length c2' S.most, .int .i64 x]) ∧ PAtZ w' w'.heap.size A' A2' S ∧ Below W.heap.size W w' := by
  have h := rdrop_z c c2 r W rfl rfl hp hl (Nat.le_refl _)
  rw [hR] at h
  exact h
theorem rget_c {P : Zp} {F : Frm} {r : V} {x : Bool} (hR : getZ P r = (F, x)) (hl : LenZ P) (c c2 : Nat) (W : World) {A A2 : Option Addr} (hp : PAtZ W W.heap.size A A2 P) :
    Calls Try.prog 19 #[pv A P.cells.length c A2 P.free.length c2 P.most, gv r.1 r.2] W fun e w' => ∃ ds : Array Value, e = .returned (.tuple #[.agg ds, .bool x]) ∧ ds.size = 16 ∧ ds.all (·.oneCell') = true ∧ FrmAt w' w'.heap.size (.agg ds) F ∧ Below W.heap.size W w' := by
  have h := rget_z c c2 r W rfl rfl hp hl (Nat.le_refl _)
  rw [hR] at h
  exact h
theorem rnew_c {m : Int} {P : Zp} {R : Bool} (hR : newZ m = (P, R)) (W : World) :
    Calls Try.prog 21 #[.int .i64 m] W fun e w' => e = .returned (.tuple #[pv none P.cells.length 0 none P.free.length 0 P.most, .bool R]) ∧ PAtZ w' w'.heap.size none none P ∧ Below W.heap.size W w' := by
  refine (rnew_z m W).mono fun e w' ⟨he, hb⟩ => ?_
  have hc : P.cells = [] ∧ P.free = [] := by
    unfold newZ at hR
    split at hR
    · simp only [Prod.mk.injEq] at hR
      rw [← hR.1]
      exact ⟨rfl, rfl⟩
    · simp only [Prod.mk.injEq] at hR
      rw [← hR.1]
      exact ⟨rfl, rfl⟩
  rw [hR] at he
  obtain ⟨pcs, pfr, pm⟩ := P
  simp only at hc
  obtain ⟨rfl, rfl⟩ := hc
  exact ⟨he, ⟨CAt.nil _ _ _, IAt.nil _ _ _⟩, hb⟩
theorem rrefsp_c {P : Zp} {l : List V} (hR : refsZ P = l) (hl : LenZ P) (c c2 : Nat) (W : World) {A A2 : Option Addr} (hp : PAtZ W W.heap.size A A2 P) :
    Calls Try.prog 26 #[pv A P.cells.length c A2 P.free.length c2 P.most] W fun e w' => ∃ A' c', e = .returned (.slice A' l.length c') ∧ OwnR w' W.heap.size (.slice A' l.length c') l ∧ Below W.heap.size W w' := by
  subst hR
  exact rrefs_z c c2 W rfl rfl hp hl (Nat.le_refl _)
theorem rsamep_c {P Q : Zp} {R : Bool} (hR : decide (P = Q) = R) (hl : LenZ P) (hl' : LenZ Q) (c c2 c3 c4 : Nat) (W : World) {A A2 A3 A4 : Option Addr} (hp : PAtZ W W.heap.size A A2 P) (hq : PAtZ W W.heap.size A3 A4 Q) :
    Calls Try.prog 22 #[pv A P.cells.length c A2 P.free.length c2 P.most, pv A3 Q.cells.length c3 A4 Q.free.length c4 Q.most] W fun e w' => e = .returned (.bool R) ∧ Below W.heap.size W w' := by
  subst hR
  exact rsame_z c c2 c3 c4 W rfl rfl rfl rfl hp hq hl hl' (Nat.le_refl _) (Nat.le_refl _)
end Go.Proofs.Ytkpjlobpaippdaa
