/- Layer 12: the document's Lay and both New, as the law PenTells meets them. -/
import Derived.Test.YtkpjlobpaippdaaYtg
import Derived.Test.YtkpjlobpaippdaaYtc
namespace Go.Proofs.Ytkpjlobpaippdaa
set_option linter.unusedVariables false
set_option linter.unusedSimpArgs false
open Go.RowKit Go.ChangeShapes Go.WideShapes Go.ChangeAt Go.Sort

theorem rlay_c {P S : Zp} {F : Frm} {r : V} {x : Int} (hR : layZ P F = (S, r, x)) (hl : LenZ P) (c c2 : Nat) (W : World) {A A2 : Option Addr} {fs : Array Value} (hp : PAtZ W W.heap.size A A2 P) (hs : fs.size = 16) (hn : fs.all (·.oneCell') = true) (hf : FrmAt W W.heap.size (.agg fs) F) :
    Calls Try.prog 13 #[pv A P.cells.length c A2 P.free.length c2 P.most, .agg fs] W fun e w' => ∃ A' c' A2' c2', e = .returned (.tuple #[pv A' S.cells.length c' A2' S.free.length c2' S.most, gv r.1 r.2, .int .i64 x]) ∧ PAtZ w' w'.heap.size A' A2' S ∧ Below W.heap.size W w' := by
  have h := rlay_z c c2 W rfl rfl hp hl (Nat.le_refl _) hs hn hf (Nat.le_refl _)
  rw [hR] at h
  exact h
theorem new_e {m : Int} {P : Zp} {R : Bool} (hR : newZ m = (P, R)) (W : World) :
    Calls Try.prog 20 #[.int .i64 m] W fun e w' => ∃ A' c' A2' c2', e = .returned (.tuple #[pv A' P.cells.length c' A2' P.free.length c2' P.most, .bool R]) ∧ OwnZ w' 0 A' c' A2' c2' P ∧ Below W.heap.size W w' :=
  (new_c hR W).mono fun _ _ ⟨a, b, c⟩ => ⟨none, 0, none, 0, a, b, c⟩
theorem rnew_e {m : Int} {P : Zp} {R : Bool} (hR : newZ m = (P, R)) (W : World) :
    Calls Try.prog 21 #[.int .i64 m] W fun e w' => ∃ A' c' A2' c2', e = .returned (.tuple #[pv A' P.cells.length c' A2' P.free.length c2' P.most, .bool R]) ∧ PAtZ w' w'.heap.size A' A2' P ∧ Below W.heap.size W w' :=
  (rnew_c hR W).mono fun _ _ ⟨a, b, c⟩ => ⟨none, 0, none, 0, a, b, c⟩
theorem new_sm {m : Int} {P : Zp} {R : Bool} (hR : newZ m = (P, R)) : LenZ P := by
  unfold newZ at hR
  split at hR <;> · simp only [Prod.mk.injEq] at hR; rw [← hR.1]; exact ⟨by simp [zp0], by simp [zp0], fun i hi => absurd hi (by simp [zp0])⟩
end Go.Proofs.Ytkpjlobpaippdaa
