/- Layer 1: WireNil: a reader of nothing tells its error at once, and keeps it; one that is none tells nothing. For every number. -/
import Derived.Test.YtcnacdjpihbfmaaL1fix
import Derived.Test.YtcnacdjpihbfmaaWnil
namespace Go.Proofs.Ytcnacdjpihbfmaa.wireNil
set_option linter.unusedVariables false
set_option linter.unusedSimpArgs false
open Go.ChangeShapes Go.WideShapes Go.ChangeAt Go.RowKit

theorem num_empty (most : Int) : numF [] 0 0 most = (0, 0, 10) := by simp [numF, getF, getL]
theorem fixd_after (e : Int) (h : e ≠ 0) : fixdF [] 0 e = (0, 0, e) := by simp [fixdF, h]
theorem text_after (most e : Int) (h : e ≠ 0) : textF [] 0 e most = ([], 0, e) := by simp [textF, numF, h]

set_option maxHeartbeats 1000000 in
set_option maxRecDepth 100000 in
theorem walk (a0 : Int) (w0 : (Lit.int .i64 a0).wf = true) (w : World) :
    Calls Try.prog 6 #[.int .i64 a0] w fun e w' => e = .returned (.bool true) ∧ Below w.heap.size w w' := by
  have hb : Below w.heap.size w w := Below.refl _ _
  have hm : (⟨#[]⟩ : ByteArray).size ≤ maxLen := by decide
  have HN : ∀ {W : World} {b : Nat}, Rd W b ⟨#[]⟩ 0 0 → Hid (Calls Try.prog 11 #[.pointer (some ⟨b, 0, none⟩), .int .i64 a0] W fun en w' => en = .returned (.int .i64 0) ∧ Rd w' b ⟨#[]⟩ 0 10 ∧ W.grownBy w' (some b)) :=
    fun h => Lib.hid (by have := number_any h a0 hm; rw [show (⟨#[]⟩ : ByteArray).data.toList = [] from rfl, num_empty] at this; exact this)
  have HF : ∀ {W : World} {b : Nat}, Rd W b ⟨#[]⟩ 0 10 → Hid (Calls Try.prog 13 #[.pointer (some ⟨b, 0, none⟩)] W fun en w' => en = .returned (.int .i64 0) ∧ Rd w' b ⟨#[]⟩ 0 10 ∧ W.grownBy w' (some b)) :=
    fun h => Lib.hid (by have := fixed_any h hm; rw [show (⟨#[]⟩ : ByteArray).data.toList = [] from rfl, fixd_after 10 (by decide)] at this; exact this)
  have HT : ∀ {W : World} {b : Nat}, Rd W b ⟨#[]⟩ 0 10 → Hid (Calls Try.prog 15 #[.pointer (some ⟨b, 0, none⟩), .int .i64 a0] W fun en w' => en = .returned (.string ⟨#[]⟩) ∧ Rd w' b ⟨#[]⟩ 0 10 ∧ W.grownBy w' (some b)) :=
    fun h => Lib.hid (by have := text_any h a0 hm (by omega) (by decide); rw [show (⟨#[]⟩ : ByteArray).data.toList = [] from rfl, text_after a0 10 (by decide)] at this; exact this)
  have HE : ∀ {W : World} {b : Nat}, Rd W b ⟨#[]⟩ 0 10 → Hid (Calls Try.prog 16 #[.pointer (some ⟨b, 0, none⟩)] W fun en w' => en = .returned (.tuple #[.int .i64 10, .int .i64 0]) ∧ ∃ n, w' = W.drewN n) :=
    fun h => Lib.hid (error_any h)
  go_enter Try.func6, Try.ntmps6
  go_wp2_with fail
  refine (fixed_true _).mono ?_; rintro e v1 ⟨rfl, hb1⟩; replace hb := Below.step hb hb1; clear hb1
  go_wp2_with fail
  refine (error_nil _).mono ?_; rintro e v2 ⟨rfl, rfl⟩
  go_wp2_with fail
  refine (new_any _ _).mono ?_; rintro e v2 ⟨rfl, r0, hb2, hz2⟩
  have hlt := r0.lt
  have hs := hb.size
  have hbb := Below.step hb hb2
  have hs2 := hbb.size
  clear hb2 hb
  have HZ := Lib.hid hz2; clear hz2
  generalize v1.heap.size = b at *
  go_wp2_with fail
  refine (HN r0).out.mono ?_; rintro e v3 ⟨rfl, r1, o1⟩
  go_wp2_with fail
  refine (HF r1).out.mono ?_; rintro e v4 ⟨rfl, r2, o2⟩
  go_wp2_with fail
  refine (HT r2).out.mono ?_; rintro e v5 ⟨rfl, r3, o3⟩
  go_wp2_with fail
  refine (HE r3).out.mono ?_; rintro e v6 ⟨rfl, nq, rfl⟩
  have o4 := only_drewN (only_trans (only_trans o1 o2) o3) nq
  generalize v5.drewN nq = v at *
  go_wp2_with (first
    | (go_at_call 11; refine (number_nil _ _).mono ?_; rintro en w' ⟨rfl, rfl⟩)
    | (go_at_call 15; refine (text_nil _ _).mono ?_; rintro en w' ⟨rfl, rfl⟩)
    | (go_at_call 17; refine (left_nil _).mono ?_; rintro en w' ⟨rfl, rfl⟩)
    | (go_at_call 13; refine (fixed_nil _).mono ?_; rintro en w' ⟨rfl, rfl⟩))
  go_ret
  exact ⟨rfl, hbb.grown o4 hs2 fun k hk => by injection hk with hk; omega⟩
end Go.Proofs.Ytcnacdjpihbfmaa.wireNil
