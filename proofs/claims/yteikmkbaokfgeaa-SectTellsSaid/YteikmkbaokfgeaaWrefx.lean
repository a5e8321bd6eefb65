/- Layer 1: the document's answers: GetFixed. -/
import Derived.Test.YteikmkbaokfgeaaWref
import Derived.RegionTactic
import Derived.Handy
import Derived.Test.YteikmkbaokfgeaaKit
namespace Go.Proofs.Yteikmkbaokfgeaa
set_option linter.unusedVariables false
set_option linter.unusedSimpArgs false
open Go.RowKit Go.ChangeShapes Go.WideShapes Go.ChangeAt

set_option maxHeartbeats 1000000 in
set_option maxRecDepth 100000 in
theorem rfix_in (s : ByteArray) (a : Nat) (w : World) (hs : s.size ≤ 1048576) (b0 b1 b2 b3 : UInt8) (r : List UInt8) (hd : s.data.toList.drop a = b0 :: b1 :: b2 :: b3 :: r) :
    Calls Try.prog 28 #[.string s, .int .i64 a] w fun e w' => e = .returned (.tuple #[.int .i64 (fix4 b0 b1 b2 b3), .int .i64 (a + 4), .int .i64 0]) ∧ Below w.heap.size w w' := by
  have ha : a + 4 ≤ s.size := by
    have h : (s.data.toList.drop a).length = s.size - a := by simp
    rw [hd] at h; simp at h; omega
  have l0 : a < s.size := by omega
  have l1 : a + 1 < s.size := by omega
  have l2 : a + 2 < s.size := by omega
  have l3 : a + 3 < s.size := by omega
  have e0 := drop_cons s a l0
  have e1 := drop_cons s (a + 1) l1
  have e2 := drop_cons s (a + 2) l2
  have e3 := drop_cons s (a + 3) l3
  rw [e1, e2, e3] at e0
  rw [hd] at e0
  simp only [List.cons.injEq] at e0
  obtain ⟨q0, q1, q2, q3, _⟩ := e0
  have HQ := Lib.hid (And.intro q0 (And.intro q1 (And.intro q2 q3)))
  clear q0 q1 q2 q3 e1 e2 e3 hd
  have z1 : (0:Int) ≤ a := by omega
  have z3 : (a : Int) < s.size := by omega
  have z4 : (a : Int) + 1 < s.size := by omega
  have z5 : (a : Int) + 2 < s.size := by omega
  have z6 : (a : Int) + 3 < s.size := by omega
  have z7 : (a : Int) + 4 ≤ s.size := by omega
  have y1 : IntKind.i64.wrap ((a : Int) + 1) = (a : Int) + 1 := IntWalk.i64_in _ (by omega)
  have y2 : IntKind.i64.wrap ((a : Int) + 2) = (a : Int) + 2 := IntWalk.i64_in _ (by omega)
  have y3 : IntKind.i64.wrap ((a : Int) + 3) = (a : Int) + 3 := IntWalk.i64_in _ (by omega)
  have y4 : IntKind.i64.wrap ((a : Int) + 4) = (a : Int) + 4 := IntWalk.i64_in _ (by omega)
  have x1 : (0 : Int) ≤ (a : Int) + 1 := by omega
  have x2 : (0 : Int) ≤ (a : Int) + 2 := by omega
  have x3 : (0 : Int) ≤ (a : Int) + 3 := by omega
  have t1 : ((a : Int) + 1).toNat = a + 1 := by omega
  have t2 : ((a : Int) + 2).toNat = a + 2 := by omega
  have t3 : ((a : Int) + 3).toNat = a + 3 := by omega
  have c0 := s[a].toNat_lt
  have c1 := s[a + 1].toNat_lt
  have c2 := s[a + 2].toNat_lt
  have c3 := s[a + 3].toNat_lt
  go_enter Try.func28, Try.ntmps28
  go_wp2
  go_quiet (fail)
  go_wp2
  go_ret3
  refine ⟨?_, below_drewN (Below.refl _ _) _⟩
  obtain ⟨q0, q1, q2, q3⟩ := HQ.out
  simp [fix4, q0, q1, q2, q3]

set_option maxHeartbeats 400000 in
theorem rfix_less (s : ByteArray) (a : Nat) (w : World) (hs : s.size ≤ 1048576) (ha : a ≤ s.size) (hb : s.size < a + 4) :
    Calls Try.prog 28 #[.string s, .int .i64 a] w fun e w' => e = .returned (.tuple #[.int .i64 0, .int .i64 a, .int .i64 10]) ∧ Below w.heap.size w w' := by
  have z1 : (0:Int) ≤ a := by omega
  have z4 : (a : Int) ≤ s.size := by omega
  have z7 : (s.size : Int) < a + 4 := by omega
  go_enter Try.func28, Try.ntmps28
  go_wp2
  go_ret3
  exact ⟨rfl, Below.refl _ _⟩
set_option maxHeartbeats 400000 in
theorem rfix_arg (s : ByteArray) (a : Int) (w : World) (hs : s.size ≤ 1048576) (ha : a < 0 ∨ s.size < a) :
    Calls Try.prog 28 #[.string s, .int .i64 a] w fun e w' => e = .returned (.tuple #[.int .i64 0, .int .i64 a, .int .i64 1]) ∧ Below w.heap.size w w' := by
  by_cases h0 : a < 0
  · go_enter Try.func28, Try.ntmps28
    go_wp2
    go_ret3
    exact ⟨rfl, Below.refl _ _⟩
  · have h1 : (s.size : Int) < a := by omega
    go_enter Try.func28, Try.ntmps28
    go_wp2
    go_ret3
    exact ⟨rfl, Below.refl _ _⟩

theorem rfix_all (s : ByteArray) (a : Int) (w : World) (hs : s.size ≤ 1048576) :
    Calls Try.prog 28 #[.string s, .int .i64 a] w fun e w' => e = .returned (.tuple #[.int .i64 (gfxF s.data.toList a).1, .int .i64 (gfxF s.data.toList a).2.1, .int .i64 (gfxF s.data.toList a).2.2]) ∧ Below w.heap.size w w' := by
  have hl : s.data.toList.length = s.size := rfl
  by_cases h : a < 0 ∨ (s.size : Int) < a
  · refine (rfix_arg s a w hs h).mono fun e w' ⟨he, hw⟩ => ⟨?_, hw⟩
    rw [he, gfxF, if_pos (by rw [hl]; exact h)]
  · obtain ⟨m, rfl⟩ := Int.eq_ofNat_of_zero_le (by omega : 0 ≤ a)
    by_cases h4 : m + 4 ≤ s.size
    · obtain ⟨b0, b1, b2, b3, r, hd⟩ := four_of s m h4
      refine (rfix_in s m w hs b0 b1 b2 b3 r hd).mono fun e w' ⟨he, hw⟩ => ⟨?_, hw⟩
      rw [he, gfxF, if_neg (by rw [hl]; exact h), Int.toNat_natCast, hd]
    · refine (rfix_less s m w hs (by omega) (by omega)).mono fun e w' ⟨he, hw⟩ => ⟨?_, hw⟩
      have hlen : (s.data.toList.drop m).length < 4 := by simp; omega
      rw [he, gfxF, if_neg (by rw [hl]; exact h), Int.toNat_natCast]
      split
      · next heq => rw [heq] at hlen; simp at hlen; omega
      · rfl
end Go.Proofs.Yteikmkbaokfgeaa
