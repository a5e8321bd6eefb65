import Derived.Test.YteikmkbaokfgeaaRows
import Derived.Test.YteikmkbaokfgeaaWm2
import Derived.WalkKit
import Derived.ProofKit
import Derived.OpenShut
import Derived.Lib.Hide
import Derived.ScopeJumps
import Derived.WalkMore
import Derived.Handy
import Derived.Laws.IdiomStrings
namespace Go.Proofs.Yteikmkbaokfgeaa
set_option linter.unusedVariables false
set_option linter.unusedSimpArgs false
open Go.RowKit Go.ChangeShapes Go.WideShapes Go.ChangeAt

def fixG (n : Nat) : List UInt8 := [UInt8.ofNat (n % 256), UInt8.ofNat (n / 256 % 256), UInt8.ofNat (n / 65536 % 256), UInt8.ofNat (n / 16777216)]

set_option maxHeartbeats 1000000 in
set_option maxRecDepth 100000 in
theorem putFixed_any (n : Nat) (w : World) (h1 : n ≤ 4294967295) : Calls Try.prog 32 #[.int .i64 n] w fun e w' => e = .returned (.string ⟨(fixG n).toArray⟩) ∧ Below w.heap.size w w' := by
  have z1 : ¬ (4294967295 : Int) < n := by omega
  obtain ⟨b0, h0⟩ : ∃ b, b = UInt8.ofNat (n % 256) := ⟨_, rfl⟩
  obtain ⟨b1, h1⟩ : ∃ b, b = UInt8.ofNat (n / 256 % 256) := ⟨_, rfl⟩
  obtain ⟨b2, h2⟩ : ∃ b, b = UInt8.ofNat (n / 65536 % 256) := ⟨_, rfl⟩
  obtain ⟨b3, h3⟩ : ∃ b, b = UInt8.ofNat (n / 16777216) := ⟨_, rfl⟩
  have H0 := Lib.hid h0
  have H1 := Lib.hid h1
  have H2 := Lib.hid h2
  have H3 := Lib.hid h3
  clear h0 h1 h2 h3
  have hf : fixG n = [b0, b1, b2, b3] := by rw [H0.out, H1.out, H2.out, H3.out]; rfl
  have HF := Lib.hid hf; clear hf
  go_enter Try.func32, Try.ntmps32
  go_wp2
  go_rounds 5
  rw [conv_back _ 38 9 5 ⟨w.heap.size, 0, none⟩ 4 4 [b0, b1, b2, b3] rfl Try.underlying38 Try.underlying5 Try.underlying9 ?_]
  · go_wp2
    go_ret
    rw [HF.out]
    exact ⟨rfl, (Below.refl _ _).alloc (Nat.le_refl _) _⟩
  · intro j hj
    simp at hj
    have h0 := H0.out
    have h1 := H1.out
    have h2 := H2.out
    have h3 := H3.out
    rcases (by omega : j = 0 ∨ j = 1 ∨ j = 2 ∨ j = 3) with rfl | rfl | rfl | rfl <;> simp [Addr.add, go_sem, h0, h1, h2, h3] <;> omega
end Go.Proofs.Yteikmkbaokfgeaa
