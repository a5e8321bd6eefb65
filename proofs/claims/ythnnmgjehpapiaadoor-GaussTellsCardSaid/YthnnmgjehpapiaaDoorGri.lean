/- Layer 4: the document's own answers: inverses. -/
import Derived.Test.YthnnmgjehpapiaaDoorGref
namespace Go.Proofs.YthnnmgjehpapiaaDoor
set_option linter.unusedVariables false
set_option linter.unusedSimpArgs false
open Go.RowKit Go.ChangeShapes Go.WideShapes Go.ChangeAt Gm Fl Go.Sort

theorem kinv_least : ∀ n, n < 251 → n ≠ 0 → ∀ k, k < n ^ 249 % 251 → (n * k) % 251 ≠ 1 := by decide +kernel
theorem kinv_is : ∀ n, n < 251 → n ≠ 0 → (n * (n ^ 249 % 251)) % 251 = 1 ∧ n ^ 249 % 251 < 251 ∧ 1 ≤ n ^ 249 % 251 := by decide +kernel
theorem inv_hit {n k : Nat} (h : (n * k) % 251 = 1) : (((n : Int) * k) % 251 == 1) = true := by
  have : ((n * k : Nat) : Int) = (n : Int) * k := by simp
  rw [← this]; simp; omega
theorem inv_miss {n k : Nat} (h : (n * k) % 251 ≠ 1) : (((n : Int) * k) % 251 == 1) = false := by
  have : ((n * k : Nat) : Int) = (n : Int) * k := by simp
  rw [← this]; simp; omega
theorem inv_hitI {N : Int} {n k : Nat} (hN : N = n) (h : (n * k) % 251 = 1) : ((N * k) % 251 == 1) = true := hN ▸ inv_hit h
theorem inv_missI {N : Int} {n k : Nat} (hN : N = n) (h : (n * k) % 251 ≠ 1) : ((N * k) % 251 == 1) = false := hN ▸ inv_miss h
set_option maxHeartbeats 1000000 in
set_option maxRecDepth 100000 in
theorem rinv_any (N : Int) (w : World) (g0 : 0 < N) (g1 : N < 251) : Calls Tryd.prog 31 #[.int .i64 N] w fun e w' => e = .returned (.int .i64 (kinv N)) ∧ w = w' := by
  obtain ⟨n, hn⟩ : ∃ n : Nat, N = n := ⟨N.toNat, by omega⟩
  obtain ⟨i1, i2, i3⟩ := kinv_is n (by omega) (by omega)
  have il := kinv_least n (by omega) (by omega)
  have hk : kinv N = ((n ^ 249 % 251 : Nat) : Int) := by unfold kinv; rw [hn, Int.toNat_natCast]
  have HK := Lib.hid hk
  have HN := Lib.hid hn
  clear hk hn
  generalize n ^ 249 % 251 = q at *
  have IL := Lib.hid il
  have I1 := Lib.hid i1
  have I2 := Lib.hid i2
  have I3 := Lib.hid i3
  clear il i1 i2 i3
  go_enter Tryd.func31, Tryd.ntmps31
  go_wp2_with fail
  go_loop [3] (fun i => ∃ k : Nat, 1 ≤ k ∧ k ≤ q ∧ i = .int .i64 k) (fun i => 251 - (intOf i).toNat)
  case atStart => exact ⟨1, by omega, I3.out, rfl⟩
  case round =>
    obtain ⟨k, hk1, hkq, rfl⟩ := hrel
    have hk2 : (k : Int) < 251 := by have := I2.out; omega
    obtain ⟨m1, m2⟩ := mul_bd (a := N) (b := (k : Int)) (by omega) (by omega) g1 hk2
    by_cases hkk : k = q
    · have hB := inv_hitI HN.out (by rw [hkk]; exact I1.out : (n * k) % 251 = 1)
      have HQ := Lib.hid hkk
      have hd : decide ((k : Int) < 251) = true := by simpa using hk2
      clear hkk hkq hk2
      go_wp2_with fail
      go_ret
      exact ⟨ret_int (by rw [HK.out, HQ.out]), rfl⟩
    · have hB := inv_missI HN.out (IL.out k (by omega))
      have HQ := Lib.hid (show k + 1 ≤ q by omega)
      have hd : decide ((k : Int) < 251) = true := by simpa using hk2
      have hk3 : (k : Int) ≤ 250 := by omega
      clear hkk hkq hk2
      go_wp2_with fail
      go_round
      case rel => exact ⟨k + 1, by omega, HQ.out, by go_num⟩
      case measure => simp [intOf]; omega
end Go.Proofs.YthnnmgjehpapiaaDoor
