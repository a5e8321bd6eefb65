import Derived.Test.YteikmkbaokfgeaaRows
import Derived.Test.YteikmkbaokfgeaaWm
import Derived.Test.YteikmkbaokfgeaaKit
import Derived.WalkKit
import Derived.ProofKit
import Derived.OpenShut
import Derived.Lib.Hide
import Derived.ScopeJumps
import Derived.WalkMore
import Derived.Handy
namespace Go.Proofs.Yteikmkbaokfgeaa
set_option linter.unusedVariables false
set_option linter.unusedSimpArgs false
open Go.RowKit Go.ChangeShapes Go.WideShapes Go.ChangeAt

set_option maxHeartbeats 400000 in
theorem flaw_any (b p : Int) (w : World) : Calls Try.prog 51 #[.int .i64 b, .int .i64 p] w fun e w' => e = .returned (.int .i64 (flawF b p)) ∧ w = w' := by
  go_enter Try.func51, Try.ntmps51
  go_wp2
  all_goals go_ret
  all_goals refine ⟨ret_int ?_, rfl⟩
  all_goals unfold flawF
  all_goals simp_all
  all_goals omega

theorem group_in (k : Nat) (n b : Int) (hk : k ≤ 6) (h0 : 0 ≤ n) (h1 : n < 128 ^ k) (h2 : 0 ≤ b) (h3 : b < 128) :
    wrap64 (n + wrap64 (b * 2 ^ (7 * k))) = n + b * 128 ^ k ∧ 0 ≤ n + b * 128 ^ k ∧ n + b * 128 ^ k < 128 ^ (k + 1) := by
  rcases (by omega : k = 0 ∨ k = 1 ∨ k = 2 ∨ k = 3 ∨ k = 4 ∨ k = 5 ∨ k = 6) with rfl | rfl | rfl | rfl | rfl | rfl | rfl <;>
    simp [wrap64] at h1 ⊢ <;> omega
theorem flaw_lt (b : Int) (k : Nat) (hk : k ≤ 7) (h : flawF b k = 0) : k ≤ 6 := by
  by_cases e : k = 7
  · subst e; simp [flawF] at h
  · omega
def getMu (a' : Act) : Nat := 7 - (intOf (a'.tmps.getD 8 undef)).toNat
def GetJ (s : ByteArray) (a : Nat) (a' : Act) (w w' : World) : Prop :=
  w = w' ∧ ∃ k : Nat, ∃ n : Int, a + k ≤ s.size ∧ k ≤ 7 ∧ 0 ≤ n ∧ n < 128 ^ k ∧ getL (s.data.toList.drop a) 0 0 = getL (s.data.toList.drop (a + k)) k n ∧ ∃ u9 u10 u11 u12 u13 u14 u15 u16 u17 u18 u19 u20 u21 u22 u23 u24 u25 u26 u27 u28 u29 u30 u31 u32 u33 u34 u35 u36 u37 u38 u39 u40 u41 u42 u43 u44 u45 u46 u47 u48 u49 u50 u51 u52 u53 u54 : Value,  a' = { tmps := #[.string s, .int .i64 a, undef, undef, .int .i64 0, .int .i64 0, .int .i64 0, .int .i64 n, .int .i64 k, u9, u10, u11, u12, u13, u14, u15, u16, u17, u18, u19, u20, u21, u22, u23, u24, u25, u26, u27, u28, u29, u30, u31, u32, u33, u34, u35, u36, u37, u38, u39, u40, u41, u42, u43, u44, u45, u46, u47, u48, u49, u50, u51, u52, u53, u54], defers := [] }

set_option maxHeartbeats 400000 in
theorem get_any (s : ByteArray) (a : Nat) (w : World) (hs : s.size ≤ maxLen) (ha : a ≤ s.size) : Calls Try.prog 46 #[.string s, .int .i64 a] w fun e w' => e = .returned (.tuple #[.int .i64 (getL (s.data.toList.drop a) 0 0).1, .int .i64 (a + (getL (s.data.toList.drop a) 0 0).2.1), .int .i64 (getL (s.data.toList.drop a) 0 0).2.2]) ∧ w = w' := by
  unfold maxLen at hs
  go_enter Try.func46, Try.ntmps46
  go_wp2
  refine wp_scope_once 0 (fun a' w' => GetJ s a a' w w') (fun a' _ => getMu a') rfl ?_ ?_
  · rintro a' w' ⟨rfl, k, n, h1, h2, h3, h4, h5, u9, u10, u11, u12, u13, u14, u15, u16, u17, u18, u19, u20, u21, u22, u23, u24, u25, u26, u27, u28, u29, u30, u31, u32, u33, u34, u35, u36, u37, u38, u39, u40, u41, u42, u43, u44, u45, u46, u47, u48, u49, u50, u51, u52, u53, u54, rfl⟩
    dsimp only
    generalize hmu : getMu _ = mu
    have Hmu := Lib.hid hmu; clear hmu
    by_cases hk : a + k < s.size
    · have hd := drop_cons s (a + k) hk
      have Hd := Lib.hid hd; clear hd
      have H5 := Lib.hid h5; clear h5
      have hb : s[a + k].toNat < 256 := s[a + k].toNat_lt
      go_wp2_with fail
      refine (flaw_any _ _ _).mono ?_
      rintro e w' ⟨rfl, rfl⟩
      dsimp only
      by_cases hf : flawF (s[a + k].toNat) k = 0
      · rw [hf]
        have hk6 := flaw_lt _ _ h2 hf
        have hgi := group_in k n ((s[a + k].toNat : Int) % 128) hk6 h3 h4 (by omega) (by omega)
        have Hg := Lib.hid hgi; clear hgi
        have Hf := Lib.hid hf; clear hf
        by_cases hc : s[a + k].toNat < 128
        · have hg : getL (s.data.toList.drop a) 0 0 = (n + ((s[a + k].toNat : Int) % 128) * 128 ^ k, k + 1, 0) := by
            rw [H5.out, Hd.out, getL, if_neg (by simp [Hf.out]), if_pos hc]
          have HG := Lib.hid hg; clear hg
          go_wp2_with fail
          simp only [Exit.jump]
          go_ret3
          rw [HG.out]; simp [Hg.out.1]
        · have hg : getL (s.data.toList.drop a) 0 0 = getL (s.data.toList.drop (a + (k + 1))) (k + 1) (n + ((s[a + k].toNat : Int) % 128) * 128 ^ k) := by
            rw [H5.out, Hd.out, getL, if_neg (by simp [Hf.out]), if_neg hc]; rfl
          have HG := Lib.hid hg; clear hg
          go_wp2_with fail
          go_step3
          rw [Hg.out.1]
          refine ⟨rfl, ⟨rfl, k + 1, _, by omega, by omega, Hg.out.2.1, Hg.out.2.2, HG.out, _, _, _, _, _, _, _, _, _, _, _, _, _, _, _, _, _, _, _, _, _, _, _, _, _, _, _, _, _, _, _, _, _, _, _, _, _, _, _, _, _, _, _, _, _, _, rfl⟩, ?_⟩
          have := Hmu.out
          simp [getMu, intOf] at this ⊢
          omega
      · have hfb : (flawF (s[a + k].toNat) k != 0) = true := by simpa using hf
        have hg : getL (s.data.toList.drop a) 0 0 = (0, 0, flawF (s[a + k].toNat) k) := by
          rw [H5.out, Hd.out, getL, if_pos hf]
        have Hg := Lib.hid hg; clear hg hf
        generalize flawF (s[a + k].toNat) k = f at *
        go_wp2_with fail
        simp only [Exit.jump]
        go_ret3
        rw [Hg.out]; exact ⟨by simp, rfl⟩
    · have hk' : ((a : Int) + k == s.size) = true := by simp; omega
      have hg : getL (s.data.toList.drop a) 0 0 = (0, 0, 10) := by
        rw [h5, List.drop_of_length_le (by simp; omega)]; rfl
      have Hg := Lib.hid hg; clear hg h5
      go_wp2_with fail
      simp only [Exit.jump]
      go_ret3
      rw [Hg.out]; exact ⟨by simp, rfl⟩
  · intro hp
    have Hp := Lib.hid hp; clear hp
    have hz : (a : Int) ≤ s.size := by omega
    go_wp2
    go_step3
    rename_i hK
    refine hK _ _ (Hp.out _ _ ⟨rfl, 0, 0, by omega, by omega, by omega, by decide, rfl, _, _, _, _, _, _, _, _, _, _, _, _, _, _, _, _, _, _, _, _, _, _, _, _, _, _, _, _, _, _, _, _, _, _, _, _, _, _, _, _, _, _, _, _, _, _, rfl⟩)
end Go.Proofs.Yteikmkbaokfgeaa
