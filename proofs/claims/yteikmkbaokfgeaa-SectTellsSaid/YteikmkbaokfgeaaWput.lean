import Derived.Test.YteikmkbaokfgeaaRows
import Derived.Test.YteikmkbaokfgeaaWm2
import Derived.WalkKit
import Derived.ProofKit
import Derived.OpenShut
import Derived.Lib.Hide
import Derived.ScopeJumps
import Derived.WalkMore
import Derived.Handy
import Derived.Laws.IdiomStrings
namespace Go.Proofs.Yteikmkbaokfgeaa
set_option linter.unusedVariables false
set_option linter.unusedSimpArgs false
open Go.RowKit Go.ChangeShapes Go.WideShapes Go.ChangeAt

theorem Try.info5 : (Try.prog.info? 5).map (fun i => (i.zero, i.size, i.bytes)) = some (some (.int .u8 0), 1, 1) := by kernel_rfl

def putMu (a' : Act) : Nat := (intOf (a'.tmps.getD 0 undef)).toNat
def PutJ (n : Nat) (w : World) (a' : Act) (w' : World) : Prop :=
  ∃ (m : Nat) (bs : List UInt8) (v : Value), OwnB w' w.heap.size 5 v bs ∧ Below w.heap.size w w' ∧ bs.length ≤ 6 ∧ m < 128 ^ (7 - bs.length) ∧ putG 7 n = bs ++ putG (7 - bs.length) m ∧ ∃ u4 u5 u6 u7 u8 u9 u10 u11 u12 u13 u14 u15 u16 u17 u18 u19 u20 u21 u22 u23 u24 u25 u26 : Value,  a' = { tmps := #[.int .i64 m, undef, .string ⟨#[]⟩, v, u4, u5, u6, u7, u8, u9, u10, u11, u12, u13, u14, u15, u16, u17, u18, u19, u20, u21, u22, u23, u24, u25, u26], defers := [] }

set_option maxHeartbeats 400000 in
set_option maxRecDepth 100000 in
theorem put_any (n : Nat) (w : World) (hn : n ≤ 281474976710655) : Calls Try.prog 43 #[.int .i64 n] w fun e w' => e = .returned (.string ⟨(putG 7 n).toArray⟩) ∧ Below w.heap.size w w' := by
  obtain ⟨i, hi, hz0, hz1, hz2⟩ := info_parts Try.info5
  go_enter Try.func43, Try.ntmps43
  go_wp2
  refine wp_scope_once 0 (PutJ n w) (fun a' _ => putMu a') rfl ?_ ?_
  · rintro a' w' ⟨m, bs, v, h1, h2, h3, h4, h5, u4, u5, u6, u7, u8, u9, u10, u11, u12, u13, u14, u15, u16, u17, u18, u19, u20, u21, u22, u23, u24, u25, u26, rfl⟩
    try dsimp only
    generalize hmu : putMu _ = mu
    have Hmu := Lib.hid hmu; clear hmu
    have H5 := Lib.hid h5; clear h5
    have H1 := Lib.hid h1; clear h1
    have hm : m < 562949953421312 := Nat.lt_of_lt_of_le h4 (by
      rcases (by omega : bs.length = 0 ∨ bs.length = 1 ∨ bs.length = 2 ∨ bs.length = 3 ∨ bs.length = 4 ∨ bs.length = 5 ∨ bs.length = 6) with h | h | h | h | h | h | h <;> rw [h] <;> decide)
    have hsz := h2.size
    obtain ⟨f, hf⟩ : ∃ f, 7 - bs.length = f + 1 := ⟨6 - bs.length, by omega⟩
    have Hf := Lib.hid hf; clear hf
    have H4 := Lib.hid h4; clear h4
    by_cases hc : m ≤ 127
    · have hfin : putG 7 n = bs ++ [UInt8.ofNat m] := by
        rw [H5.out, Hf.out, putG, if_pos (by omega)]
      have HF := Lib.hid hfin; clear hfin
      go_wp2_with (at_builtin; refine wpList_append_byte rfl _ _ 38 rfl 5 Try.underlying38 Try.info5 w.heap.size w' _ v bs (UInt8.ofNat m) rfl ?_ rfl H1.out rfl (by omega) (by omega) ?_)
      · simp [bv]; omega
      · intro v' w2 o2 b2
        have hcv := conv_owned (P := Try.prog) (src := 38) (dst := 9) Try.underlying38 Try.underlying5 Try.underlying9 o2 (by simp)
        go_wp2
        simp only [Exit.jump]
        go_ret
        rw [HF.out]
        exact ⟨rfl, h2.trans b2⟩
    · obtain ⟨c, hcc⟩ : ∃ c, c = UInt8.ofNat (m % 128 + 128) := ⟨_, rfl⟩
      have Hc := Lib.hid hcc; clear hcc
      go_wp2_with (at_builtin; refine wpList_append_byte rfl _ _ 38 rfl 5 Try.underlying38 Try.info5 w.heap.size w' _ v bs c rfl ?_ rfl H1.out rfl (by omega) (by omega) ?_)
      · rw [Hc.out]; simp [bv]; omega
      · intro v' w2 o2 b2
        go_wp2
        go_step3
        have h4 := H4.out
        have h5 := H5.out
        rw [Hf.out] at h4 h5
        have hf := Hf.out
        have hl : 7 - (bs ++ [c]).length = f := by simp; omega
        have hf1 : 1 ≤ f := by
          rcases Nat.eq_zero_or_pos f with e | e
          · subst e; simp at h4; omega
          · exact e
        refine ⟨rfl, ⟨m / 128, bs ++ [c], v', o2, h2.trans b2, ?_, ?_, ?_, _, _, _, _, _, _, _, _, _, _, _, _, _, _, _, _, _, _, _, _, _, _, _, rfl⟩, ?_⟩
        · simp; omega
        · rw [hl]; rw [Nat.pow_succ] at h4; omega
        · rw [hl, h5, putG, if_neg (by omega), ← Hc.out]; simp
        · have := Hmu.out
          simp [putMu, intOf] at this ⊢
          omega
  · intro hp
    have Hp := Lib.hid hp; clear hp
    have hz : ¬ (281474976710655 : Int) < n := by omega
    go_wp2
    go_step3
    rename_i hK
    refine hK _ _ (Hp.out _ _ ⟨n, [], .slice none 0 0, OwnB.nil _ _ _, Below.refl _ _, by simp, by simp; omega, rfl, _, _, _, _, _, _, _, _, _, _, _, _, _, _, _, _, _, _, _, _, _, _, _, rfl⟩)
end Go.Proofs.Yteikmkbaokfgeaa
