/- Layer 1's statements: the fixed calls. -/
import Derived.Test.YtcnacdjpihbfmaaWx
import Derived.Test.YtcnacdjpihbfmaaKit
namespace Go.Proofs.Ytcnacdjpihbfmaa
set_option linter.unusedVariables false
set_option linter.unusedSimpArgs false
open Go.RowKit Go.ChangeShapes Go.WideShapes Go.ChangeAt

theorem get_lit (s : ByteArray) (a n p q : Int) (w : World) (hs : s.size ≤ maxLen) (h : getF s.data.toList a = (n, p, q)) :
    Calls Try.prog 20 #[.string s, .int .i64 a] w fun e w' => e = .returned (.tuple #[.int .i64 n, .int .i64 p, .int .i64 q]) ∧ w = w' := by
  have := get_all s a w hs; rw [h] at this; exact this
theorem getFixed_lit (s : ByteArray) (a n p q : Int) (w : World) (hs : s.size ≤ maxLen) (h : gfxF s.data.toList a = (n, p, q)) :
    Calls Try.prog 21 #[.string s, .int .i64 a] w fun e w' => e = .returned (.tuple #[.int .i64 n, .int .i64 p, .int .i64 q]) ∧ Below w.heap.size w w' := by
  have := getFixed_all s a w hs; rw [h] at this; exact this
theorem put_lit (n : Int) (l : Array UInt8) (w : World) (h : (putF n).toArray = l) : Calls Try.prog 18 #[.int .i64 n] w fun e w' => e = .returned (.string ⟨l⟩) ∧ Below w.heap.size w w' := by
  have := put_all n w; rw [h] at this; exact this
theorem putFixed_lit (n : Int) (l : Array UInt8) (w : World) (h : (fixF n).toArray = l) : Calls Try.prog 19 #[.int .i64 n] w fun e w' => e = .returned (.string ⟨l⟩) ∧ Below w.heap.size w w' := by
  have := putFixed_all n w; rw [h] at this; exact this
theorem putText_lit (t : ByteArray) (l : Array UInt8) (w : World) (ht : t.size ≤ maxLen) (h : (putTextF t.data.toList).toArray = l) : Calls Try.prog 22 #[.string t] w fun e w' => e = .returned (.string ⟨l⟩) ∧ Below w.heap.size w w' := by
  have := putText_all t w ht; rw [h] at this; exact this

set_option maxHeartbeats 2000000 in
set_option maxRecDepth 100000 in
theorem fixed_true (w : World) : Calls Try.prog 8 #[] w fun e w' => e = .returned (.bool true) ∧ Below w.heap.size w w' := by
  have hb : Below w.heap.size w w := Below.refl _ _
  go_enter Try.func8, Try.ntmps8
  go_wp2_with (first
    | (go_at_call 20; first
        | refine (get_lit _ _ 300 3 0 _ (by decide +kernel) (by decide +kernel)).mono ?_
        | refine (get_lit _ _ 0 0 12 _ (by decide +kernel) (by decide +kernel)).mono ?_
        | refine (get_lit _ _ 0 0 11 _ (by decide +kernel) (by decide +kernel)).mono ?_
        | refine (get_lit _ _ 281474976710655 7 0 _ (by decide +kernel) (by decide +kernel)).mono ?_
        | refine (get_lit _ _ 0 0 10 _ (by decide +kernel) (by decide +kernel)).mono ?_
        | refine (get_lit _ _ 0 1 1 _ (by decide +kernel) (by decide +kernel)).mono ?_
       rintro e w' ⟨rfl, rfl⟩)
    | (go_at_call 21; refine (getFixed_lit _ _ 2147484161 4 0 _ (by decide +kernel) (by decide +kernel)).mono ?_; rintro e w1 ⟨rfl, hb1⟩; replace hb := Below.step hb hb1; clear hb1)
    | (go_at_call 19; refine (putFixed_lit _ #[1, 2, 0, 0] _ (by decide +kernel)).mono ?_; rintro e w1 ⟨rfl, hb1⟩; replace hb := Below.step hb hb1; clear hb1)
    | (go_at_call 22; refine (putText_lit _ #[2, 97, 98] _ (by decide +kernel) (by decide +kernel)).mono ?_; rintro e w1 ⟨rfl, hb1⟩; replace hb := Below.step hb hb1; clear hb1)
    | (go_at_call 18; first
        | refine (put_lit _ #[172, 2] _ (by decide +kernel)).mono ?_
        | refine (put_lit _ #[] _ (by decide +kernel)).mono ?_
        | refine (put_lit _ #[0] _ (by decide +kernel)).mono ?_
       rintro e w1 ⟨rfl, hb1⟩; replace hb := Below.step hb hb1; clear hb1))
  go_ret
  exact ⟨rfl, hb⟩
end Go.Proofs.Ytcnacdjpihbfmaa
