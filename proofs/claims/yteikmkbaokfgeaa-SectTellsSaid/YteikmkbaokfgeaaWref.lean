/- Layer 1: the document's answers: Get, GetFixed. -/
import Derived.Test.YteikmkbaokfgeaaWrt
import Derived.BigQuiet
namespace Go.Proofs.Yteikmkbaokfgeaa
set_option linter.unusedVariables false
set_option linter.unusedSimpArgs false
open Go.RowKit Go.ChangeShapes Go.WideShapes Go.ChangeAt

theorem unit_in (k : Nat) (n b : Int) (hk : k ≤ 6) (h0 : 0 ≤ n) (h1 : n < 128 ^ k) (h2 : 0 ≤ b) (h3 : b < 128) :
    wrap64 (n + wrap64 (b * 128 ^ k)) = n + b * 128 ^ k ∧ wrap64 ((128 : Int) ^ k * 128) = 128 ^ (k + 1) := by
  rcases (by omega : k = 0 ∨ k = 1 ∨ k = 2 ∨ k = 3 ∨ k = 4 ∨ k = 5 ∨ k = 6) with rfl | rfl | rfl | rfl | rfl | rfl | rfl <;>
    simp [wrap64] at h1 ⊢ <;> omega

/-- What the loop holds: so many bytes, the number so far, its unit. -/
def RGet (s : ByteArray) (a : Nat) (n u k : Value) : Prop :=
  ∃ (j : Nat) (m q : Int), k = .int .i64 j ∧ n = .int .i64 m ∧ u = .int .i64 q ∧ q = 128 ^ j ∧ a + j ≤ s.size ∧ j ≤ 7 ∧ 0 ≤ m ∧ m < 128 ^ j ∧ getL (s.data.toList.drop a) 0 0 = getL (s.data.toList.drop (a + j)) j m

set_option maxHeartbeats 1000000 in
set_option maxRecDepth 100000 in
theorem rget_in (s : ByteArray) (a : Nat) (w : World) (hs : s.size ≤ maxLen) (ha : a ≤ s.size) : Calls Try.prog 27 #[.string s, .int .i64 a] w fun e w' => e = .returned (.tuple #[.int .i64 (getL (s.data.toList.drop a) 0 0).1, .int .i64 (a + (getL (s.data.toList.drop a) 0 0).2.1), .int .i64 (getL (s.data.toList.drop a) 0 0).2.2]) ∧ w = w' := by
  unfold maxLen at hs
  have hz : (a : Int) ≤ s.size := by omega
  have hz1 : decide ((a : Int) < 0) = false := by simp
  have hz2 : decide (s.size < a) = false := by simp; omega
  go_enter Try.func27, Try.ntmps27
  go_wp2
  go_loop [7, 8, 9] (fun n u k => RGet s a n u k) (fun _ _ k => 7 - (intOf k).toNat)
  case atStart => exact ⟨0, 0, 1, rfl, rfl, rfl, by decide, by omega, by omega, by omega, by decide, rfl⟩
  case round =>
    obtain ⟨k, n, q, rfl, rfl, rfl, hq, h1, h2, h3, h4, h5⟩ := hrel
    have Hq := Lib.hid hq; clear hq
    have H5 := Lib.hid h5; clear h5
    have H4 := Lib.hid h4; clear h4
    by_cases hk : a + k < s.size
    · have Hd := Lib.hid (drop_cons s (a + k) hk)
      have hb : s[a + k].toNat < 256 := s[a + k].toNat_lt
      by_cases hf : flawF s[a + k].toNat k = 0
      · have hk6 := flaw_lt _ _ h2 hf
        have hgi := unit_in k n ((s[a + k].toNat : Int) % 128) hk6 h3 H4.out (by omega) (by omega)
        have hgj := group_in k n ((s[a + k].toNat : Int) % 128) hk6 h3 H4.out (by omega) (by omega)
        have hz0 : ¬ (0 < k ∧ s[a + k].toNat = 0) ∧ ¬ (k = 6 ∧ 64 ≤ s[a + k].toNat ∧ s[a + k].toNat ≤ 127) := by
          unfold flawF at hf
          rw [if_neg (by omega)] at hf
          split at hf
          · simp at hf
          · split at hf
            · simp at hf
            · omega
        have HG := Lib.hid hgi; clear hgi
        have HJ := Lib.hid hgj; clear hgj
        have Hf := Lib.hid hf; clear hf
        by_cases hcc : s[a + k].toNat < 128
        · have hg : getL (s.data.toList.drop a) 0 0 = (n + ((s[a + k].toNat : Int) % 128) * 128 ^ k, k + 1, 0) := by
            rw [H5.out, Hd.out, getL, if_neg (by simp [Hf.out]), if_pos hcc]
          have HX := Lib.hid hg; clear hg
          have h7b : ((k : Int) == 7) = false := by simp; omega
          have hcb2 : (s[a + k].toNat : Int) < 128 := by omega
          have fin : ∀ (w' : World), (Ending.returned (.tuple #[.int .i64 (wrap64 (n + wrap64 ((s[a + k].toNat : Int) % 128 * q))), .int .i64 ((a : Int) + k + 1), .int .i64 0]) = Ending.returned (.tuple #[.int .i64 (getL (s.data.toList.drop a) 0 0).1, .int .i64 (a + (getL (s.data.toList.drop a) 0 0).2.1), .int .i64 (getL (s.data.toList.drop a) 0 0).2.2])) := fun _ => by
            rw [HX.out, Hq.out, HG.out.1]; simp; omega
          have FIN := fun w' => Lib.hid (fin w'); clear fin
          by_cases e6 : k = 6
          · have h6b : ((k : Int) == 6) = true := by simp; omega
            have hlt : (s[a + k].toNat : Int) ≤ 63 := by omega
            have hnb : ((s[a + k].toNat : Int) == 0) = false := by simp; omega
            clear hz0 e6
            go_wp2
            all_goals
              go_ret3
              exact ⟨(FIN w).out, rfl⟩
          · have hk5 : k < 6 := by omega
            have h6b : ((k : Int) == 6) = false := by simp; omega
            by_cases e0 : s[a + k].toNat = 0
            · have k0 : (k : Int) ≤ 0 := by omega
              have hcb : ((s[a + k].toNat : Int) == 0) = true := by simp; omega
              clear hz0 e6 e0
              go_wp2
              all_goals
                go_ret3
                exact ⟨(FIN w).out, rfl⟩
            · have hcb : ((s[a + k].toNat : Int) == 0) = false := by simp; omega
              clear hz0 e6 e0
              go_wp2
              all_goals
                go_ret3
                exact ⟨(FIN w).out, rfl⟩
        · have hg : getL (s.data.toList.drop a) 0 0 = getL (s.data.toList.drop (a + (k + 1))) (k + 1) (n + ((s[a + k].toNat : Int) % 128) * 128 ^ k) := by
            rw [H5.out, Hd.out, getL, if_neg (by simp [Hf.out]), if_neg hcc]; rfl
          have HX := Lib.hid hg; clear hg
          have h7b : ((k : Int) == 7) = false := by simp; omega
          have hccb : ¬ (s[a + k].toNat : Int) < 128 := by omega
          have hdb : decide ((s[a + k].toNat : Int) < 128) = false := by simp; omega
          by_cases e6 : k = 6
          · have h6b : ((k : Int) == 6) = true := by simp; omega
            clear hz0 hcc e6
            go_wp2
            all_goals
              go_round
              case rel => exact ⟨k + 1, n + (s[a + k].toNat : Int) % 128 * 128 ^ k, 128 ^ (k + 1), by go_num, by rw [Hq.out, HG.out.1], by rw [Hq.out, HG.out.2], rfl, by omega, by omega, HJ.out.2.1, HJ.out.2.2, HX.out⟩
              case measure => simp [intOf]; omega
          · have h6b : ((k : Int) == 6) = false := by simp; omega
            clear hz0 hcc e6
            go_wp2
            all_goals
              go_round
              case rel => exact ⟨k + 1, n + (s[a + k].toNat : Int) % 128 * 128 ^ k, 128 ^ (k + 1), by go_num, by rw [Hq.out, HG.out.1], by rw [Hq.out, HG.out.2], rfl, by omega, by omega, HJ.out.2.1, HJ.out.2.2, HX.out⟩
              case measure => simp [intOf]; omega
      · have hg : getL (s.data.toList.drop a) 0 0 = (0, 0, flawF s[a + k].toNat k) := by
          rw [H5.out, Hd.out, getL, if_pos hf]
        have HX := Lib.hid hg; clear hg
        by_cases e7 : k = 7
        · have hv : flawF s[a + k].toNat k = 11 := by unfold flawF; rw [if_pos (by omega)]
          have HV := Lib.hid hv; clear hv hf
          have h7b : ((k : Int) == 7) = true := by simp; omega
          clear e7
          go_wp2
          all_goals
            go_ret3
            rw [HX.out, HV.out]
            exact ⟨by simp, rfl⟩
        · have h7b : ((k : Int) == 7) = false := by simp; omega
          by_cases e6 : k = 6 ∧ 64 ≤ s[a + k].toNat ∧ s[a + k].toNat ≤ 127
          · obtain ⟨e0, e1, e2⟩ := e6
            have hv : flawF s[a + k].toNat k = 11 := by unfold flawF; rw [if_neg (by omega), if_pos (by omega)]
            have HV := Lib.hid hv; clear hv hf
            have h6b : ((k : Int) == 6) = true := by simp; omega
            have e1' : (63 : Int) < s[a + k].toNat := by omega
            have e2' : (s[a + k].toNat : Int) < 128 := by omega
            clear e0 e1 e2 e7
            go_wp2
            all_goals
              go_ret3
              rw [HX.out, HV.out]
              exact ⟨by simp, rfl⟩
          · have hv : flawF s[a + k].toNat k = 12 ∧ 0 < k ∧ s[a + k].toNat = 0 := by
              unfold flawF at hf ⊢
              rw [if_neg (by omega), if_neg (by omega)] at hf ⊢
              split at hf
              · rename_i h; rw [if_pos h]; exact ⟨rfl, by omega, by omega⟩
              · simp at hf
            obtain ⟨hv, hk0, hc0⟩ := hv
            have HV := Lib.hid hv; clear hv hf
            have hcb : ((s[a + k].toNat : Int) == 0) = true := by simp; omega
            have hc3 : (s[a + k].toNat : Int) ≤ 63 := by omega
            have hc4 : (s[a + k].toNat : Int) < 128 := by omega
            have hk6 : k ≤ 6 := by omega
            by_cases e66 : k = 6
            · have h6b : ((k : Int) == 6) = true := by simp; omega
              clear e6 e7 hc0 e66
              go_wp2
              all_goals
                go_ret3
                rw [HX.out, HV.out]
                exact ⟨by simp, rfl⟩
            · have h6b : ((k : Int) == 6) = false := by simp; omega
              clear e6 e7 hc0 e66
              go_wp2
              all_goals
                go_ret3
                rw [HX.out, HV.out]
                exact ⟨by simp, rfl⟩
    · have hg : getL (s.data.toList.drop a) 0 0 = (0, 0, 10) := by
        rw [H5.out, List.drop_of_length_le (by simp; omega)]; rfl
      have Hg := Lib.hid hg; clear hg
      have hk' : (s.size : Int) ≤ (a : Int) + k := by omega
      go_wp2
      go_ret3
      rw [Hg.out]; exact ⟨by simp, rfl⟩

set_option maxHeartbeats 400000 in
theorem rget_arg (s : ByteArray) (a : Int) (w : World) (hs : s.size ≤ maxLen) (ha : a < 0 ∨ s.size < a) :
    Calls Try.prog 27 #[.string s, .int .i64 a] w fun e w' => e = .returned (.tuple #[.int .i64 0, .int .i64 a, .int .i64 1]) ∧ w = w' := by
  by_cases h0 : a < 0
  · go_enter Try.func27, Try.ntmps27
    go_wp2
    go_ret3
    exact ⟨rfl, rfl⟩
  · have h1 : (s.size : Int) < a := by omega
    go_enter Try.func27, Try.ntmps27
    go_wp2
    go_ret3
    exact ⟨rfl, rfl⟩

theorem rget_all (s : ByteArray) (a : Int) (w : World) (hs : s.size ≤ maxLen) :
    Calls Try.prog 27 #[.string s, .int .i64 a] w fun e w' => e = .returned (.tuple #[.int .i64 (getF s.data.toList a).1, .int .i64 (getF s.data.toList a).2.1, .int .i64 (getF s.data.toList a).2.2]) ∧ w = w' := by
  have hl : s.data.toList.length = s.size := rfl
  by_cases h : a < 0 ∨ (s.size : Int) < a
  · refine (rget_arg s a w hs h).mono fun e w' ⟨he, hw⟩ => ⟨?_, hw⟩
    rw [he, getF, if_pos (by rw [hl]; exact h)]
  · obtain ⟨m, rfl⟩ := Int.eq_ofNat_of_zero_le (by omega : 0 ≤ a)
    refine (rget_in s m w hs (by omega)).mono fun e w' ⟨he, hw⟩ => ⟨?_, hw⟩
    rw [he, getF, if_neg (by rw [hl]; exact h)]
    rfl
end Go.Proofs.Yteikmkbaokfgeaa
