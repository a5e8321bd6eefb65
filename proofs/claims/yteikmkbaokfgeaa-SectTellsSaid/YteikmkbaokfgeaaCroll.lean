/- Layer 2's code: Roll and Of, at every input. -/
import Derived.Test.YteikmkbaokfgeaaCrems
namespace Go.Proofs.Yteikmkbaokfgeaa
set_option linter.unusedVariables false
set_option linter.unusedSimpArgs false
open Go.RowKit Go.ChangeShapes Go.WideShapes Go.ChangeAt Cm


set_option maxHeartbeats 400000 in
theorem roll_out (sum : Int) (s : ByteArray) (w : World) (h : sum < 0 ∨ 4294967295 < sum) :
    Calls Try.prog 41 #[.int .i64 sum, .string s] w fun e w' => e = .returned (.int .i64 (rollF sum s.data.toList)) ∧ w = w' := by
  have hf : rollF sum s.data.toList = 0 := by rw [rollF, if_pos h]
  rw [hf]
  by_cases h0 : sum < 0
  · clear h hf
    go_enter Try.func41, Try.ntmps41
    go_wp2_with fail
    go_ret
    exact ⟨rfl, rfl⟩
  · have h1 : 4294967295 < sum := by omega
    clear h hf
    go_enter Try.func41, Try.ntmps41
    go_wp2_with fail
    go_ret
    exact ⟨rfl, rfl⟩

theorem ix_u8 (x : Nat) (c : UInt8) : bits .xor .u8 ((x : Int) % 256) (c.toNat : Int) = ((x % 256 ^^^ c.toNat : Nat) : Int) ∧ x % 256 ^^^ c.toNat < 256 := by
  have hc := byte_lt c
  refine ⟨?_, Nat.xor_lt_two_pow (n := 8) (by omega) hc⟩
  rw [u8_xor _ _ (by omega) (by omega) (by omega) (by omega)]
  rfl
theorem step_u32 (x m : Nat) (hx : x < 4294967296) (hm : rem8 m < 4294967296) : bits .xor .u32 ((x : Int) / 256) (rem8 m : Int) = ((x / 256 ^^^ rem8 m : Nat) : Int) := by
  rw [u32_xor _ _ (by omega) (by omega) (by omega) (by omega)]
  rfl
theorem rem8_lt {m : Nat} (h : m < 256) : rem8 m < 4294967296 := liter_lt 8 (by omega)

set_option maxHeartbeats 1000000 in
set_option maxRecDepth 100000 in
theorem roll_in (sum : Nat) (s : ByteArray) (w : World) (h : sum ≤ 4294967295) (hs : s.size ≤ maxLen) :
    Calls Try.prog 41 #[.int .i64 sum, .string s] w fun e w' => e = .returned (.int .i64 (4294967295 - (crcL (4294967295 - sum) s.data.toList : Nat))) ∧ Below w.heap.size w w' := by
  unfold maxLen at hs
  have h' : (sum : Int) ≤ 4294967295 := by omega
  go_enter Try.func41, Try.ntmps41
  go_wp2_with fail
  refine (remainders_any _).mono ?_
  rintro e w1 ⟨rfl, hb⟩
  go_wp2_with (first
    | (refine wpList_alloc_arr rfl 72 rfl (tab 0) zeroArr ?_)
    | (refine wpList_store_row rfl 72 _ _ rfl w1.heap.size (tab 256) rfl rfl _ _ (heap_alloc_new _ _) (by rw [tab_size]; exact sizeArr) (by rw [tab_size, tab_size]) (tab_one _) ?_))
  have hW : ((w1.alloc (.cells (tab 0) 72)).setRow w1.heap.size (tab 256)).heap[w1.heap.size]? = some (.cells (tab 256) 72 (0, 0)) := setRow_heap _ _ _ _ _ _ (heap_alloc_new _ _)
  have hB : Below w.heap.size w ((w1.alloc (.cells (tab 0) 72)).setRow w1.heap.size (tab 256)) := below_setRow (hb.alloc hb.size _) hb.size _
  generalize (w1.alloc (.cells (tab 0) 72)).setRow w1.heap.size (tab 256) = W at *
  generalize w1.heap.size = b at *
  clear hb
  have HW := Lib.hid hW; clear hW
  go_loop [6, 20] (fun y i => ∃ k x : Nat, k ≤ s.size ∧ i = .int .i64 k ∧ y = .int .u32 x ∧ x < 4294967296 ∧ crcL (4294967295 - sum) s.data.toList = crcL x (s.data.toList.drop k)) (fun _ i => s.size - (intOf i).toNat)
  case atStart => exact ⟨0, 4294967295 - sum, by omega, rfl, by rw [show ((4294967295 - sum : Nat) : Int) = 4294967295 - (sum : Int) from by omega], by omega, rfl⟩
  case round =>
    obtain ⟨k, x, hk, rfl, rfl, hx, hc⟩ := hrel
    have HC := Lib.hid hc; clear hc
    by_cases hlt : k < s.size
    · obtain ⟨m, hm⟩ : ∃ m, m = x % 256 ^^^ s[k].toNat := ⟨_, rfl⟩
      have hix := ix_u8 x s[k]
      rw [← hm] at hix
      obtain ⟨hix, hm2⟩ := hix
      have hd := drop_cons s k hlt
      have HD := Lib.hid hd; clear hd
      have hcell : W.cell? ⟨b, m, none⟩ = some (.int .u32 (rem8 m)) := by
        rw [cell_of_row _ _ m _ _ _ HW.out, tab_at _ _ hm2, tabV, if_pos hm2]
      have HM := Lib.hid hm; clear hm
      have hm3 : (m : Int) < 256 := by omega
      go_wp2_with fail
      have hr := rem8_lt hm2
      go_round
      case rel =>
        refine ⟨k + 1, x / 256 ^^^ rem8 m, by omega, by go_num, by rw [step_u32 x m hx hr], Nat.xor_lt_two_pow (n := 32) (by omega) hr, ?_⟩
        rw [HC.out, HD.out, crcL, ← HM.out]
      case measure => simp [intOf]; omega
    · have hc : crcL (4294967295 - sum) s.data.toList = x := by
        rw [HC.out, List.drop_of_length_le (by simp; omega)]; rfl
      have HC' := Lib.hid hc; clear hc
      go_wp2_with fail
      go_ret
      rw [HC'.out]
      exact ⟨rfl, hB⟩

/-- Roll, at every input. -/
theorem roll_any (sum : Int) (s : ByteArray) (w : World) (hs : s.size ≤ maxLen) :
    Calls Try.prog 41 #[.int .i64 sum, .string s] w fun e w' => e = .returned (.int .i64 (rollF sum s.data.toList)) ∧ Below w.heap.size w w' := by
  by_cases h : sum < 0 ∨ 4294967295 < sum
  · exact (roll_out sum s w h).mono fun e w' ⟨he, hw⟩ => ⟨he, below_of_eq hw _⟩
  · obtain ⟨n, rfl⟩ := Int.eq_ofNat_of_zero_le (by omega : 0 ≤ sum)
    refine (roll_in n s w (by omega) hs).mono fun e w' ⟨he, hw⟩ => ⟨?_, hw⟩
    rw [he, rollF, if_neg h, show (4294967295 - (n : Int)).toNat = 4294967295 - n by omega]

set_option maxHeartbeats 400000 in
theorem of_any (s : ByteArray) (w : World) (hs : s.size ≤ maxLen) :
    Calls Try.prog 24 #[.string s] w fun e w' => e = .returned (.int .i64 (rollF 0 s.data.toList)) ∧ Below w.heap.size w w' := by
  go_enter Try.func24, Try.ntmps24
  go_wp2_with (go_at_call 41; refine (roll_any _ _ _ hs).mono ?_; rintro e w' ⟨rfl, hb⟩)
  go_ret
  exact ⟨rfl, by assumption⟩
theorem roll_lit (sum : Int) (s : ByteArray) (n : Int) (w : World) (hs : s.size ≤ maxLen) (h : rollF sum s.data.toList = n) :
    Calls Try.prog 41 #[.int .i64 sum, .string s] w fun e w' => e = .returned (.int .i64 n) ∧ Below w.heap.size w w' := by
  have := roll_any sum s w hs; rw [h] at this; exact this
theorem of_lit (s : ByteArray) (n : Int) (w : World) (hs : s.size ≤ maxLen) (h : rollF 0 s.data.toList = n) :
    Calls Try.prog 24 #[.string s] w fun e w' => e = .returned (.int .i64 n) ∧ Below w.heap.size w w' := by
  have := of_any s w hs; rw [h] at this; exact this

end Go.Proofs.Yteikmkbaokfgeaa
