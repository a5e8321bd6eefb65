/- Layer 1: the document's Put. -/
import Derived.Test.YtcfdbciooimjmaaGreatDoorRows
import Derived.Test.YtcfdbciooimjmaaGreatDoorzGc
import Derived.Test.YtcfdbciooimjmaaGreatDoorzGa
import Derived.OpenShut
import Derived.Lib.Hide
import Derived.WalkMore
import Derived.Handy
import Derived.RegionTactic
import Derived.Deep.RegionHeld3
import Derived.Deep.RegionWith
import Derived.WalkKit
import Derived.ProofKit
import Derived.ScopeJumps
import Derived.Laws.IdiomStrings
import Derived.BigQuiet
namespace Go.Proofs.YtcfdbciooimjmaaGreatDoor
set_option linter.unusedVariables false
set_option linter.unusedSimpArgs false
open Go.RowKit Go.ChangeShapes Go.WideShapes Go.ChangeAt

theorem byte_of (n : Nat) : (n : Int) % 256 = ((UInt8.ofNat n).toNat : Int) := by
  rw [UInt8.toNat_ofNat']; simp
theorem bytes_app (a b : List UInt8) : (⟨a.toArray⟩ : ByteArray) ++ ⟨b.toArray⟩ = ⟨(a ++ b).toArray⟩ := by rw [bytes_append]

set_option maxHeartbeats 1000000 in
set_option maxRecDepth 100000 in
theorem rput_in : ∀ (f n : Nat) (w : World), n < 128 ^ f → f ≤ 7 → 0 < f → n ≤ 281474976710655 →
    Calls Tryz.prog 49 #[.int .i64 n] w fun e w' => e = .returned (.string ⟨(putG f n).toArray⟩) ∧ Below w.heap.size w w'
  | 0, _, _, _, _, h, _ => absurd h (by omega)
  | f + 1, n, w, hn, hf, _, hm => by
    have hz1 : decide ((n : Int) < 0) = false := by simp
    have hz2 : decide (281474976710656 ≤ (n : Int)) = false := by simp; omega
    by_cases h : n < 128
    · have hp : putG (f + 1) n = [UInt8.ofNat n] := by rw [putG, if_pos h]
      have hc : (n : Int) = ((UInt8.ofNat n).toNat : Int) := by rw [UInt8.toNat_ofNat', Nat.mod_eq_of_lt (by omega)]
      generalize UInt8.ofNat n = c at *
      have HP := Lib.hid hp; clear hp
      have hlt : (n : Int) < 128 := by omega
      have hcv : (n : Int) % 256 = c.toNat := by omega
      have HC := Lib.hid hc; clear hc
      clear hn h hm
      generalize (n : Int) = N at *
      go_enter Tryz.func49, Tryz.ntmps49
      go_wp2_with (refine wpList_conv_byte rfl 66 9 5 _ rfl Tryz.underlying66 Tryz.underlying5 Tryz.underlying9 _ _ _ rfl _ rfl rfl c (by simp [*]) ?_)
      go_ret
      rw [HP.out]
      exact ⟨rfl, (Below.refl _ _).alloc (Nat.le_refl _) _⟩
    · have hp : putG (f + 1) n = UInt8.ofNat (n % 128 + 128) :: putG f (n / 128) := by rw [putG, if_neg h]
      have f0 : 0 < f := by
        rcases Nat.eq_zero_or_pos f with e | e
        · subst e; simp at hn; omega
        · exact e
      have ih := fun w => Lib.hid (rput_in f (n / 128) w (by rw [Nat.pow_succ] at hn; omega) (by omega) f0 (by omega))
      have HP := Lib.hid hp; clear hp
      obtain ⟨c, hc⟩ : ∃ c, c = UInt8.ofNat (n % 128 + 128) := ⟨_, rfl⟩
      have hcv : (128 + (n : Int) % 128) % 256 = c.toNat := by rw [hc, UInt8.toNat_ofNat']; omega
      have HC := Lib.hid hc; clear hc
      have hnn : (n : Int) / 128 = ((n / 128 : Nat) : Int) := by omega
      have hlt : ¬ (n : Int) < 128 := by omega
      generalize n / 128 = m at *
      have HN : (n : Int) ≤ 281474976710655 := by omega
      have HN0 : 0 ≤ (n : Int) := by omega
      clear hn h hm
      generalize (n : Int) = N at *
      have hlt2 : decide (N < 128) = false := by simp; omega
      have y1 : N.tmod 128 = N % 128 := Int.tmod_eq_emod_of_nonneg HN0
      have y2 : IntKind.i64.wrap (128 + N % 128) = 128 + N % 128 := IntWalk.i64_in _ (by omega)
      have y3 : IntKind.u8.wrap (128 + N % 128) = c.toNat := by simp only [IntKind.wrap, IntKind.bits, IntKind.signed]; simp; omega
      have y4 : N.tdiv 128 = m := by rw [Int.tdiv_eq_ediv_of_nonneg HN0, hnn]
      have hgs : 1 + (putG f m).length ≤ 9223372036854775807 := by have := putG_len f m; omega
      have y5 : IntKind.i64.wrap (m : Int) = m := IntWalk.i64_in _ (by omega)
      go_enter Tryz.func49, Tryz.ntmps49
      go_wp2_with fail
      have hcv1 : ∀ (W : World), (convert 66 9 (.slice (some ⟨W.heap.size, 0, none⟩) 1 1)).run Tryz.prog (W.alloc (.cells #[.int .u8 (c.toNat : Int)] 5)).drew = .ok (.string ⟨#[c]⟩) (W.alloc (.cells #[.int .u8 (c.toNat : Int)] 5)).drew := fun W =>
        conv_back _ 66 9 5 ⟨W.heap.size, 0, none⟩ 1 1 [c] rfl Tryz.underlying66 Tryz.underlying5 Tryz.underlying9 (by
          intro j hj
          have : j = 0 := by simpa using hj
          subst this
          simp [Addr.add, go_sem])
      have hcv2 : ∀ (W : World) (g : Nat), W.cell? ⟨g, 0, none⟩ = some (.int .u8 (c.toNat : Int)) → (convert 66 9 (.slice (some ⟨g, 0, none⟩) 1 1)).run Tryz.prog W = .ok (.string ⟨#[c]⟩) W := fun W g hg =>
        conv_back _ 66 9 5 ⟨g, 0, none⟩ 1 1 [c] rfl Tryz.underlying66 Tryz.underlying5 Tryz.underlying9 (by
          intro j hj
          have : j = 0 := by simpa using hj
          subst this
          simpa [Addr.add] using hg)
      go_region_with (go_at_call 49; (with_reducible refine (ih _).out.mono ?_); rintro e w1 ⟨rfl, hb1⟩; (first | have hbw := below_laid_d hb1 | have hbw := below_drewn hb1); try (have k0 := cell_at (one_laid_d (by simp) hb1) 0; simp at k0))
      all_goals
        go_wp2
        go_ret
        rw [HP.out, ← HC.out]
        refine ⟨ret_str ?_, ?_⟩
        · simp [bytes_app]
        · first
          | exact hbw
          | exact hbw.alloc hbw.size _
          | exact (hbw.alloc hbw.size _).drew

/-- The document's Put, of every length that a text may have. -/
theorem rput_len (n : Nat) (w : World) (h : n ≤ 1048576) : Calls Tryz.prog 49 #[.int .i64 n] w fun e w' => e = .returned (.string ⟨(putF n).toArray⟩) ∧ Below w.heap.size w w' := by
  rw [putF, if_neg (by omega)]
  exact rput_in 7 n w (by omega) (by omega) (by omega) (by omega)

end Go.Proofs.YtcfdbciooimjmaaGreatDoor

/- -/
namespace Go.Proofs.YtcfdbciooimjmaaGreatDoor
set_option linter.unusedVariables false
set_option linter.unusedSimpArgs false
open Go.RowKit Go.ChangeShapes Go.WideShapes Go.ChangeAt

theorem Tryz.info5 : (Tryz.prog.info? 5).map (fun i => (i.zero, i.size, i.bytes)) = some (some (.int .u8 0), 1, 1) := by kernel_rfl

def putMu (a' : Act) : Nat := (intOf (a'.tmps.getD 0 undef)).toNat
def PutJ (n : Nat) (w : World) (a' : Act) (w' : World) : Prop :=
  ∃ (m : Nat) (bs : List UInt8) (v : Value), OwnB w' w.heap.size 5 v bs ∧ Below w.heap.size w w' ∧ bs.length ≤ 6 ∧ m < 128 ^ (7 - bs.length) ∧ putG 7 n = bs ++ putG (7 - bs.length) m ∧ ∃ u4 u5 u6 u7 u8 u9 u10 u11 u12 u13 u14 u15 u16 u17 u18 u19 u20 u21 u22 u23 u24 u25 u26 : Value,  a' = { tmps := #[.int .i64 m, undef, .string ⟨#[]⟩, v, u4, u5, u6, u7, u8, u9, u10, u11, u12, u13, u14, u15, u16, u17, u18, u19, u20, u21, u22, u23, u24, u25, u26], defers := [] }

set_option maxHeartbeats 400000 in
set_option maxRecDepth 100000 in
theorem put_any (n : Nat) (w : World) (hn : n ≤ 281474976710655) : Calls Tryz.prog 48 #[.int .i64 n] w fun e w' => e = .returned (.string ⟨(putG 7 n).toArray⟩) ∧ Below w.heap.size w w' := by
  obtain ⟨i, hi, hz0, hz1, hz2⟩ := info_parts Tryz.info5
  go_enter Tryz.func48, Tryz.ntmps48
  go_wp2
  refine wp_scope_once 0 (PutJ n w) (fun a' _ => putMu a') rfl ?_ ?_
  · rintro a' w' ⟨m, bs, v, h1, h2, h3, h4, h5, u4, u5, u6, u7, u8, u9, u10, u11, u12, u13, u14, u15, u16, u17, u18, u19, u20, u21, u22, u23, u24, u25, u26, rfl⟩
    try dsimp only
    generalize hmu : putMu _ = mu
    have Hmu := Lib.hid hmu; clear hmu
    have H5 := Lib.hid h5; clear h5
    have H1 := Lib.hid h1; clear h1
    have hm : m < 562949953421312 := Nat.lt_of_lt_of_le h4 (by
      rcases (by omega : bs.length = 0 ∨ bs.length = 1 ∨ bs.length = 2 ∨ bs.length = 3 ∨ bs.length = 4 ∨ bs.length = 5 ∨ bs.length = 6) with h | h | h | h | h | h | h <;> rw [h] <;> decide)
    have hsz := h2.size
    obtain ⟨f, hf⟩ : ∃ f, 7 - bs.length = f + 1 := ⟨6 - bs.length, by omega⟩
    have Hf := Lib.hid hf; clear hf
    have H4 := Lib.hid h4; clear h4
    by_cases hc : m ≤ 127
    · have hfin : putG 7 n = bs ++ [UInt8.ofNat m] := by
        rw [H5.out, Hf.out, putG, if_pos (by omega)]
      have HF := Lib.hid hfin; clear hfin
      go_wp2_with (at_builtin; refine wpList_append_byte rfl _ _ 66 rfl 5 Tryz.underlying66 Tryz.info5 w.heap.size w' _ v bs (UInt8.ofNat m) rfl ?_ rfl H1.out rfl (by omega) (by omega) ?_)
      · simp [bv]; omega
      · intro v' w2 o2 b2
        have hcv := conv_owned (P := Tryz.prog) (src := 66) (dst := 9) Tryz.underlying66 Tryz.underlying5 Tryz.underlying9 o2 (by simp)
        go_wp2
        simp only [Exit.jump]
        go_ret
        rw [HF.out]
        exact ⟨rfl, h2.trans b2⟩
    · obtain ⟨c, hcc⟩ : ∃ c, c = UInt8.ofNat (m % 128 + 128) := ⟨_, rfl⟩
      have Hc := Lib.hid hcc; clear hcc
      go_wp2_with (at_builtin; refine wpList_append_byte rfl _ _ 66 rfl 5 Tryz.underlying66 Tryz.info5 w.heap.size w' _ v bs c rfl ?_ rfl H1.out rfl (by omega) (by omega) ?_)
      · rw [Hc.out]; simp [bv]; omega
      · intro v' w2 o2 b2
        go_wp2
        go_step3
        have h4 := H4.out
        have h5 := H5.out
        rw [Hf.out] at h4 h5
        have hf := Hf.out
        have hl : 7 - (bs ++ [c]).length = f := by simp; omega
        have hf1 : 1 ≤ f := by
          rcases Nat.eq_zero_or_pos f with e | e
          · subst e; simp at h4; omega
          · exact e
        refine ⟨rfl, ⟨m / 128, bs ++ [c], v', o2, h2.trans b2, ?_, ?_, ?_, _, _, _, _, _, _, _, _, _, _, _, _, _, _, _, _, _, _, _, _, _, _, _, rfl⟩, ?_⟩
        · simp; omega
        · rw [hl]; rw [Nat.pow_succ] at h4; omega
        · rw [hl, h5, putG, if_neg (by omega), ← Hc.out]; simp
        · have := Hmu.out
          simp [putMu, intOf] at this ⊢
          omega
  · intro hp
    have Hp := Lib.hid hp; clear hp
    have hz : ¬ (281474976710655 : Int) < n := by omega
    go_wp2
    go_step3
    rename_i hK
    refine hK _ _ (Hp.out _ _ ⟨n, [], .slice none 0 0, OwnB.nil _ _ _, Below.refl _ _, by simp, by simp; omega, rfl, _, _, _, _, _, _, _, _, _, _, _, _, _, _, _, _, _, _, _, _, _, _, _, rfl⟩)
end Go.Proofs.YtcfdbciooimjmaaGreatDoor

/- -/
namespace Go.Proofs.YtcfdbciooimjmaaGreatDoor
set_option linter.unusedVariables false
set_option linter.unusedSimpArgs false
open Go.RowKit Go.ChangeShapes Go.WideShapes Go.ChangeAt

set_option maxHeartbeats 400000 in
theorem flaw_any (b p : Int) (w : World) : Calls Tryz.prog 118 #[.int .i64 b, .int .i64 p] w fun e w' => e = .returned (.int .i64 (flawF b p)) ∧ w = w' := by
  go_enter Tryz.func118, Tryz.ntmps118
  go_wp2
  all_goals go_ret
  all_goals refine ⟨ret_int ?_, rfl⟩
  all_goals unfold flawF
  all_goals simp_all
  all_goals omega

def getMu (a' : Act) : Nat := 7 - (intOf (a'.tmps.getD 8 undef)).toNat
def GetJ (s : ByteArray) (a : Nat) (a' : Act) (w w' : World) : Prop :=
  w = w' ∧ ∃ k : Nat, ∃ n : Int, a + k ≤ s.size ∧ k ≤ 7 ∧ 0 ≤ n ∧ n < 128 ^ k ∧ getL (s.data.toList.drop a) 0 0 = getL (s.data.toList.drop (a + k)) k n ∧ ∃ u9 u10 u11 u12 u13 u14 u15 u16 u17 u18 u19 u20 u21 u22 u23 u24 u25 u26 u27 u28 u29 u30 u31 u32 u33 u34 u35 u36 u37 u38 u39 u40 u41 u42 u43 u44 u45 u46 u47 u48 u49 u50 u51 u52 u53 u54 : Value,  a' = { tmps := #[.string s, .int .i64 a, undef, undef, .int .i64 0, .int .i64 0, .int .i64 0, .int .i64 n, .int .i64 k, u9, u10, u11, u12, u13, u14, u15, u16, u17, u18, u19, u20, u21, u22, u23, u24, u25, u26, u27, u28, u29, u30, u31, u32, u33, u34, u35, u36, u37, u38, u39, u40, u41, u42, u43, u44, u45, u46, u47, u48, u49, u50, u51, u52, u53, u54], defers := [] }

set_option maxHeartbeats 400000 in
theorem get_any (s : ByteArray) (a : Nat) (w : World) (hs : s.size ≤ maxLen) (ha : a ≤ s.size) : Calls Tryz.prog 101 #[.string s, .int .i64 a] w fun e w' => e = .returned (.tuple #[.int .i64 (getL (s.data.toList.drop a) 0 0).1, .int .i64 (a + (getL (s.data.toList.drop a) 0 0).2.1), .int .i64 (getL (s.data.toList.drop a) 0 0).2.2]) ∧ w = w' := by
  unfold maxLen at hs
  go_enter Tryz.func101, Tryz.ntmps101
  go_wp2
  refine wp_scope_once 0 (fun a' w' => GetJ s a a' w w') (fun a' _ => getMu a') rfl ?_ ?_
  · rintro a' w' ⟨rfl, k, n, h1, h2, h3, h4, h5, u9, u10, u11, u12, u13, u14, u15, u16, u17, u18, u19, u20, u21, u22, u23, u24, u25, u26, u27, u28, u29, u30, u31, u32, u33, u34, u35, u36, u37, u38, u39, u40, u41, u42, u43, u44, u45, u46, u47, u48, u49, u50, u51, u52, u53, u54, rfl⟩
    dsimp only
    generalize hmu : getMu _ = mu
    have Hmu := Lib.hid hmu; clear hmu
    by_cases hk : a + k < s.size
    · have hd := drop_cons s (a + k) hk
      have Hd := Lib.hid hd; clear hd
      have H5 := Lib.hid h5; clear h5
      have hb : s[a + k].toNat < 256 := s[a + k].toNat_lt
      go_wp2_with fail
      refine (flaw_any _ _ _).mono ?_
      rintro e w' ⟨rfl, rfl⟩
      dsimp only
      by_cases hf : flawF (s[a + k].toNat) k = 0
      · rw [hf]
        have hk6 := flaw_lt _ _ h2 hf
        have hgi := group_in k n ((s[a + k].toNat : Int) % 128) hk6 h3 h4 (by omega) (by omega)
        have Hg := Lib.hid hgi; clear hgi
        have Hf := Lib.hid hf; clear hf
        by_cases hc : s[a + k].toNat < 128
        · have hg : getL (s.data.toList.drop a) 0 0 = (n + ((s[a + k].toNat : Int) % 128) * 128 ^ k, k + 1, 0) := by
            rw [H5.out, Hd.out, getL, if_neg (by simp [Hf.out]), if_pos hc]
          have HG := Lib.hid hg; clear hg
          go_wp2_with fail
          simp only [Exit.jump]
          go_ret3
          rw [HG.out]; simp [Hg.out.1]
        · have hg : getL (s.data.toList.drop a) 0 0 = getL (s.data.toList.drop (a + (k + 1))) (k + 1) (n + ((s[a + k].toNat : Int) % 128) * 128 ^ k) := by
            rw [H5.out, Hd.out, getL, if_neg (by simp [Hf.out]), if_neg hc]; rfl
          have HG := Lib.hid hg; clear hg
          go_wp2_with fail
          go_step3
          rw [Hg.out.1]
          refine ⟨rfl, ⟨rfl, k + 1, _, by omega, by omega, Hg.out.2.1, Hg.out.2.2, HG.out, _, _, _, _, _, _, _, _, _, _, _, _, _, _, _, _, _, _, _, _, _, _, _, _, _, _, _, _, _, _, _, _, _, _, _, _, _, _, _, _, _, _, _, _, _, _, rfl⟩, ?_⟩
          have := Hmu.out
          simp [getMu, intOf] at this ⊢
          omega
      · have hfb : (flawF (s[a + k].toNat) k != 0) = true := by simpa using hf
        have hg : getL (s.data.toList.drop a) 0 0 = (0, 0, flawF (s[a + k].toNat) k) := by
          rw [H5.out, Hd.out, getL, if_pos hf]
        have Hg := Lib.hid hg; clear hg hf
        generalize flawF (s[a + k].toNat) k = f at *
        go_wp2_with fail
        simp only [Exit.jump]
        go_ret3
        rw [Hg.out]; exact ⟨by simp, rfl⟩
    · have hk' : ((a : Int) + k == s.size) = true := by simp; omega
      have hg : getL (s.data.toList.drop a) 0 0 = (0, 0, 10) := by
        rw [h5, List.drop_of_length_le (by simp; omega)]; rfl
      have Hg := Lib.hid hg; clear hg h5
      go_wp2_with fail
      simp only [Exit.jump]
      go_ret3
      rw [Hg.out]; exact ⟨by simp, rfl⟩
  · intro hp
    have Hp := Lib.hid hp; clear hp
    have hz : (a : Int) ≤ s.size := by omega
    go_wp2
    go_step3
    rename_i hK
    refine hK _ _ (Hp.out _ _ ⟨rfl, 0, 0, by omega, by omega, by omega, by decide, rfl, _, _, _, _, _, _, _, _, _, _, _, _, _, _, _, _, _, _, _, _, _, _, _, _, _, _, _, _, _, _, _, _, _, _, _, _, _, _, _, _, _, _, _, _, _, _, rfl⟩)
end Go.Proofs.YtcfdbciooimjmaaGreatDoor

/- Layer 1: the document's answers: Get, GetFixed. -/
namespace Go.Proofs.YtcfdbciooimjmaaGreatDoor
set_option linter.unusedVariables false
set_option linter.unusedSimpArgs false
open Go.RowKit Go.ChangeShapes Go.WideShapes Go.ChangeAt

theorem unit_in (k : Nat) (n b : Int) (hk : k ≤ 6) (h0 : 0 ≤ n) (h1 : n < 128 ^ k) (h2 : 0 ≤ b) (h3 : b < 128) :
    wrap64 (n + wrap64 (b * 128 ^ k)) = n + b * 128 ^ k ∧ wrap64 ((128 : Int) ^ k * 128) = 128 ^ (k + 1) := by
  rcases (by omega : k = 0 ∨ k = 1 ∨ k = 2 ∨ k = 3 ∨ k = 4 ∨ k = 5 ∨ k = 6) with rfl | rfl | rfl | rfl | rfl | rfl | rfl <;>
    simp [wrap64] at h1 ⊢ <;> omega

/-- What the loop holds: so many bytes, the number so far, its unit. -/
def RGet (s : ByteArray) (a : Nat) (n u k : Value) : Prop :=
  ∃ (j : Nat) (m q : Int), k = .int .i64 j ∧ n = .int .i64 m ∧ u = .int .i64 q ∧ q = 128 ^ j ∧ a + j ≤ s.size ∧ j ≤ 7 ∧ 0 ≤ m ∧ m < 128 ^ j ∧ getL (s.data.toList.drop a) 0 0 = getL (s.data.toList.drop (a + j)) j m

set_option maxHeartbeats 1000000 in
set_option maxRecDepth 100000 in
theorem rget_in (s : ByteArray) (a : Nat) (w : World) (hs : s.size ≤ maxLen) (ha : a ≤ s.size) : Calls Tryz.prog 63 #[.string s, .int .i64 a] w fun e w' => e = .returned (.tuple #[.int .i64 (getL (s.data.toList.drop a) 0 0).1, .int .i64 (a + (getL (s.data.toList.drop a) 0 0).2.1), .int .i64 (getL (s.data.toList.drop a) 0 0).2.2]) ∧ w = w' := by
  unfold maxLen at hs
  have hz : (a : Int) ≤ s.size := by omega
  have hz1 : decide ((a : Int) < 0) = false := by simp
  have hz2 : decide (s.size < a) = false := by simp; omega
  go_enter Tryz.func63, Tryz.ntmps63
  go_wp2
  go_loop [7, 8, 9] (fun n u k => RGet s a n u k) (fun _ _ k => 7 - (intOf k).toNat)
  case atStart => exact ⟨0, 0, 1, rfl, rfl, rfl, by decide, by omega, by omega, by omega, by decide, rfl⟩
  case round =>
    obtain ⟨k, n, q, rfl, rfl, rfl, hq, h1, h2, h3, h4, h5⟩ := hrel
    have Hq := Lib.hid hq; clear hq
    have H5 := Lib.hid h5; clear h5
    have H4 := Lib.hid h4; clear h4
    by_cases hk : a + k < s.size
    · have Hd := Lib.hid (drop_cons s (a + k) hk)
      have hb : s[a + k].toNat < 256 := s[a + k].toNat_lt
      by_cases hf : flawF s[a + k].toNat k = 0
      · have hk6 := flaw_lt _ _ h2 hf
        have hgi := unit_in k n ((s[a + k].toNat : Int) % 128) hk6 h3 H4.out (by omega) (by omega)
        have hgj := group_in k n ((s[a + k].toNat : Int) % 128) hk6 h3 H4.out (by omega) (by omega)
        have hz0 : ¬ (0 < k ∧ s[a + k].toNat = 0) ∧ ¬ (k = 6 ∧ 64 ≤ s[a + k].toNat ∧ s[a + k].toNat ≤ 127) := by
          unfold flawF at hf
          rw [if_neg (by omega)] at hf
          split at hf
          · simp at hf
          · split at hf
            · simp at hf
            · omega
        have HG := Lib.hid hgi; clear hgi
        have HJ := Lib.hid hgj; clear hgj
        have Hf := Lib.hid hf; clear hf
        by_cases hcc : s[a + k].toNat < 128
        · have hg : getL (s.data.toList.drop a) 0 0 = (n + ((s[a + k].toNat : Int) % 128) * 128 ^ k, k + 1, 0) := by
            rw [H5.out, Hd.out, getL, if_neg (by simp [Hf.out]), if_pos hcc]
          have HX := Lib.hid hg; clear hg
          have h7b : ((k : Int) == 7) = false := by simp; omega
          have hcb2 : (s[a + k].toNat : Int) < 128 := by omega
          have fin : ∀ (w' : World), (Ending.returned (.tuple #[.int .i64 (wrap64 (n + wrap64 ((s[a + k].toNat : Int) % 128 * q))), .int .i64 ((a : Int) + k + 1), .int .i64 0]) = Ending.returned (.tuple #[.int .i64 (getL (s.data.toList.drop a) 0 0).1, .int .i64 (a + (getL (s.data.toList.drop a) 0 0).2.1), .int .i64 (getL (s.data.toList.drop a) 0 0).2.2])) := fun _ => by
            rw [HX.out, Hq.out, HG.out.1]; simp; omega
          have FIN := fun w' => Lib.hid (fin w'); clear fin
          by_cases e6 : k = 6
          · have h6b : ((k : Int) == 6) = true := by simp; omega
            have hlt : (s[a + k].toNat : Int) ≤ 63 := by omega
            have hnb : ((s[a + k].toNat : Int) == 0) = false := by simp; omega
            clear hz0 e6
            go_wp2
            all_goals
              go_ret3
              exact ⟨(FIN w).out, rfl⟩
          · have hk5 : k < 6 := by omega
            have h6b : ((k : Int) == 6) = false := by simp; omega
            by_cases e0 : s[a + k].toNat = 0
            · have k0 : (k : Int) ≤ 0 := by omega
              have hcb : ((s[a + k].toNat : Int) == 0) = true := by simp; omega
              clear hz0 e6 e0
              go_wp2
              all_goals
                go_ret3
                exact ⟨(FIN w).out, rfl⟩
            · have hcb : ((s[a + k].toNat : Int) == 0) = false := by simp; omega
              clear hz0 e6 e0
              go_wp2
              all_goals
                go_ret3
                exact ⟨(FIN w).out, rfl⟩
        · have hg : getL (s.data.toList.drop a) 0 0 = getL (s.data.toList.drop (a + (k + 1))) (k + 1) (n + ((s[a + k].toNat : Int) % 128) * 128 ^ k) := by
            rw [H5.out, Hd.out, getL, if_neg (by simp [Hf.out]), if_neg hcc]; rfl
          have HX := Lib.hid hg; clear hg
          have h7b : ((k : Int) == 7) = false := by simp; omega
          have hccb : ¬ (s[a + k].toNat : Int) < 128 := by omega
          have hdb : decide ((s[a + k].toNat : Int) < 128) = false := by simp; omega
          by_cases e6 : k = 6
          · have h6b : ((k : Int) == 6) = true := by simp; omega
            clear hz0 hcc e6
            go_wp2
            all_goals
              go_round
              case rel => exact ⟨k + 1, n + (s[a + k].toNat : Int) % 128 * 128 ^ k, 128 ^ (k + 1), by go_num, by rw [Hq.out, HG.out.1], by rw [Hq.out, HG.out.2], rfl, by omega, by omega, HJ.out.2.1, HJ.out.2.2, HX.out⟩
              case measure => simp [intOf]; omega
          · have h6b : ((k : Int) == 6) = false := by simp; omega
            clear hz0 hcc e6
            go_wp2
            all_goals
              go_round
              case rel => exact ⟨k + 1, n + (s[a + k].toNat : Int) % 128 * 128 ^ k, 128 ^ (k + 1), by go_num, by rw [Hq.out, HG.out.1], by rw [Hq.out, HG.out.2], rfl, by omega, by omega, HJ.out.2.1, HJ.out.2.2, HX.out⟩
              case measure => simp [intOf]; omega
      · have hg : getL (s.data.toList.drop a) 0 0 = (0, 0, flawF s[a + k].toNat k) := by
          rw [H5.out, Hd.out, getL, if_pos hf]
        have HX := Lib.hid hg; clear hg
        by_cases e7 : k = 7
        · have hv : flawF s[a + k].toNat k = 11 := by unfold flawF; rw [if_pos (by omega)]
          have HV := Lib.hid hv; clear hv hf
          have h7b : ((k : Int) == 7) = true := by simp; omega
          clear e7
          go_wp2
          all_goals
            go_ret3
            rw [HX.out, HV.out]
            exact ⟨by simp, rfl⟩
        · have h7b : ((k : Int) == 7) = false := by simp; omega
          by_cases e6 : k = 6 ∧ 64 ≤ s[a + k].toNat ∧ s[a + k].toNat ≤ 127
          · obtain ⟨e0, e1, e2⟩ := e6
            have hv : flawF s[a + k].toNat k = 11 := by unfold flawF; rw [if_neg (by omega), if_pos (by omega)]
            have HV := Lib.hid hv; clear hv hf
            have h6b : ((k : Int) == 6) = true := by simp; omega
            have e1' : (63 : Int) < s[a + k].toNat := by omega
            have e2' : (s[a + k].toNat : Int) < 128 := by omega
            clear e0 e1 e2 e7
            go_wp2
            all_goals
              go_ret3
              rw [HX.out, HV.out]
              exact ⟨by simp, rfl⟩
          · have hv : flawF s[a + k].toNat k = 12 ∧ 0 < k ∧ s[a + k].toNat = 0 := by
              unfold flawF at hf ⊢
              rw [if_neg (by omega), if_neg (by omega)] at hf ⊢
              split at hf
              · rename_i h; rw [if_pos h]; exact ⟨rfl, by omega, by omega⟩
              · simp at hf
            obtain ⟨hv, hk0, hc0⟩ := hv
            have HV := Lib.hid hv; clear hv hf
            have hcb : ((s[a + k].toNat : Int) == 0) = true := by simp; omega
            have hc3 : (s[a + k].toNat : Int) ≤ 63 := by omega
            have hc4 : (s[a + k].toNat : Int) < 128 := by omega
            have hk6 : k ≤ 6 := by omega
            by_cases e66 : k = 6
            · have h6b : ((k : Int) == 6) = true := by simp; omega
              clear e6 e7 hc0 e66
              go_wp2
              all_goals
                go_ret3
                rw [HX.out, HV.out]
                exact ⟨by simp, rfl⟩
            · have h6b : ((k : Int) == 6) = false := by simp; omega
              clear e6 e7 hc0 e66
              go_wp2
              all_goals
                go_ret3
                rw [HX.out, HV.out]
                exact ⟨by simp, rfl⟩
    · have hg : getL (s.data.toList.drop a) 0 0 = (0, 0, 10) := by
        rw [H5.out, List.drop_of_length_le (by simp; omega)]; rfl
      have Hg := Lib.hid hg; clear hg
      have hk' : (s.size : Int) ≤ (a : Int) + k := by omega
      go_wp2
      go_ret3
      rw [Hg.out]; exact ⟨by simp, rfl⟩

set_option maxHeartbeats 400000 in
theorem rget_arg (s : ByteArray) (a : Int) (w : World) (hs : s.size ≤ maxLen) (ha : a < 0 ∨ s.size < a) :
    Calls Tryz.prog 63 #[.string s, .int .i64 a] w fun e w' => e = .returned (.tuple #[.int .i64 0, .int .i64 a, .int .i64 1]) ∧ w = w' := by
  by_cases h0 : a < 0
  · go_enter Tryz.func63, Tryz.ntmps63
    go_wp2
    go_ret3
    exact ⟨rfl, rfl⟩
  · have h1 : (s.size : Int) < a := by omega
    go_enter Tryz.func63, Tryz.ntmps63
    go_wp2
    go_ret3
    exact ⟨rfl, rfl⟩

theorem rget_all (s : ByteArray) (a : Int) (w : World) (hs : s.size ≤ maxLen) :
    Calls Tryz.prog 63 #[.string s, .int .i64 a] w fun e w' => e = .returned (.tuple #[.int .i64 (getF s.data.toList a).1, .int .i64 (getF s.data.toList a).2.1, .int .i64 (getF s.data.toList a).2.2]) ∧ w = w' := by
  have hl : s.data.toList.length = s.size := rfl
  by_cases h : a < 0 ∨ (s.size : Int) < a
  · refine (rget_arg s a w hs h).mono fun e w' ⟨he, hw⟩ => ⟨?_, hw⟩
    rw [he, getF, if_pos (by rw [hl]; exact h)]
  · obtain ⟨m, rfl⟩ := Int.eq_ofNat_of_zero_le (by omega : 0 ≤ a)
    refine (rget_in s m w hs (by omega)).mono fun e w' ⟨he, hw⟩ => ⟨?_, hw⟩
    rw [he, getF, if_neg (by rw [hl]; exact h)]
    rfl
end Go.Proofs.YtcfdbciooimjmaaGreatDoor

