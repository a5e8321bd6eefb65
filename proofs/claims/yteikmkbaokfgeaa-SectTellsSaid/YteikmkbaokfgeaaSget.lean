/- Layer 3: a section that stands in bytes: the code's Get. -/
import Derived.Test.YteikmkbaokfgeaaSput
import Derived.Test.YteikmkbaokfgeaaWrx
import Derived.Test.YteikmkbaokfgeaaWrf
import Derived.BigQuiet
namespace Go.Proofs.Yteikmkbaokfgeaa
set_option linter.unusedVariables false
set_option linter.unusedSimpArgs false
open Go.RowKit Go.ChangeShapes Go.WideShapes Go.ChangeAt Cm

/-- What the reader's way to a section comes to. -/
def rdS (c : UInt8) (t : List UInt8) : List UInt8 × Int × Int × Int :=
  let T := textF t 0 0 1048576
  let F := fixdF t T.2.1 T.2.2
  (T.1, F.1, F.2.1, F.2.2)
theorem rdS_eq (c : UInt8) (t : List UInt8) :
    ((rdS c t).2.2.2 ≠ 0 → (secG c t).2.2 = (rdS c t).2.2.2 ∧ (secG c t).2.2 ≠ 0) ∧
    ((rdS c t).2.2.2 = 0 → (rdS c t).2.1 ≠ rollF 0 (c :: (rdS c t).1) → (secG c t).2.2 = 30) ∧
    ((rdS c t).2.2.2 = 0 → (rdS c t).2.1 = rollF 0 (c :: (rdS c t).1) → (secG c t).2.2 = 0 ∧ (secG c t).1 = (rdS c t).1 ∧ ((secG c t).2.1 : Int) = (rdS c t).2.2.1) ∧ (rdS c t).1.length ≤ 1048576 ∧ 0 ≤ (rdS c t).2.2.1 ∧ (rdS c t).2.2.1 ≤ t.length := by
  obtain ⟨n, m, e, hg⟩ : ∃ n m e, getL t 0 0 = (n, m, e) := ⟨_, _, _, rfl⟩
  have hbd := getL_bd t 0 0 (by omega) (by omega) (by decide)
  rw [hg] at hbd
  simp only at hbd
  have hF : getF t 0 = (n, (m : Int), e) := by
    unfold getF
    rw [if_neg (by omega)]
    simp only [Int.toNat_zero, List.drop_zero, hg]
    simp
  have hsec : secG c t = if e ≠ 0 then ([], 0, e) else if 1048576 < n then ([], 0, 11) else if (t.length : Int) - m < n + 4 then ([], 0, 10)
      else if (gfxF t (m + n)).1 ≠ rollF 0 (c :: (t.drop m).take n.toNat) then ([], 0, 30) else ((t.drop m).take n.toNat, m + n.toNat + 4, 0) := by
    rw [secG, hg]
  have hnum : numF t 0 0 1048576 = if e ≠ 0 then (0, 0, e) else if 1048576 < n then (0, 0, 11) else (n, (m : Int), 0) := by
    rw [numF, if_neg (by simp), hF]
  by_cases he : e = 0
  · subst he
    rw [if_neg (by simp)] at hnum hsec
    by_cases h1 : 1048576 < n
    · rw [if_pos h1] at hnum hsec
      have ht : textF t 0 0 1048576 = ([], 0, 11) := by rw [textF, hnum]; simp
      have hr : rdS c t = ([], 0, 0, 11) := by unfold rdS; rw [ht]; simp [fixdF]
      rw [hr, hsec]; simp
    · rw [if_neg h1] at hnum hsec
      by_cases h2 : (t.length : Int) - m < n
      · have ht : textF t 0 0 1048576 = ([], 0, 10) := by rw [textF, hnum]; simp only; rw [if_neg (by simp), if_pos h2]
        have hr : rdS c t = ([], 0, 0, 10) := by unfold rdS; rw [ht]; simp [fixdF]
        rw [if_pos (by omega)] at hsec
        rw [hr, hsec]; simp
      · have ht : textF t 0 0 1048576 = ((t.drop m).take n.toNat, m + n, 0) := by rw [textF, hnum]; simp only; rw [if_neg (by simp), if_neg h2, Int.toNat_natCast]
        by_cases h3 : (t.length : Int) - m < n + 4
        · have hx : gfxF t (m + n) = (0, m + n, 10) := by
            unfold gfxF
            rw [if_neg (by omega)]
            have hl : (t.drop ((m : Int) + n).toNat).length < 4 := by simp; omega
            split
            · rename_i heq; rw [heq] at hl; simp at hl; omega
            · rfl
          have hr : rdS c t = ((t.drop m).take n.toNat, 0, m + n, 10) := by unfold rdS; rw [ht]; simp [fixdF, hx]
          rw [if_pos h3] at hsec
          rw [hr, hsec]
          refine ⟨by simp, by simp, by simp, by simp; omega, by simp only; omega, by simp only; omega⟩
        · have hx : (gfxF t (m + n)).2 = (m + n + 4, 0) := by
            unfold gfxF
            rw [if_neg (by omega)]
            have hl : 4 ≤ (t.drop ((m : Int) + n).toNat).length := by simp; omega
            split
            · rfl
            · rename_i hne
              match hd : t.drop ((m : Int) + n).toNat with
              | b0 :: b1 :: b2 :: b3 :: r => exact absurd hd (hne b0 b1 b2 b3 r)
              | [] => rw [hd] at hl; simp at hl
              | [_] => rw [hd] at hl; simp at hl
              | [_, _] => rw [hd] at hl; simp at hl
              | [_, _, _] => rw [hd] at hl; simp at hl
          obtain ⟨g, hgx⟩ : ∃ g, gfxF t (m + n) = (g, m + n + 4, 0) := ⟨_, Prod.ext rfl hx⟩
          have hr : rdS c t = ((t.drop m).take n.toNat, g, m + n + 4, 0) := by unfold rdS; rw [ht]; simp [fixdF, hgx]
          rw [if_neg h3, hgx] at hsec
          rw [hr]
          by_cases h4 : g = rollF 0 (c :: (t.drop m).take n.toNat)
          · rw [if_neg (by simpa using h4)] at hsec
            rw [hsec]
            refine ⟨by simp, fun _ h => absurd h4 h, fun _ _ => ⟨rfl, rfl, by simp only; omega⟩, by simp; omega, by simp only; omega, by simp only; omega⟩
          · rw [if_pos h4] at hsec
            rw [hsec]
            refine ⟨by simp, fun _ _ => rfl, fun _ h => absurd h h4, by simp; omega, by simp only; omega, by simp only; omega⟩
  · rw [if_pos he] at hnum hsec
    have ht : textF t 0 0 1048576 = ([], 0, e) := by rw [textF, hnum]; simp only; rw [if_pos he]
    have hr : rdS c t = ([], 0, 0, e) := by unfold rdS; rw [ht]; simp [fixdF, he]
    rw [hr, hsec]
    refine ⟨fun _ => ⟨rfl, he⟩, fun h => absurd h he, fun h => absurd h he, by simp, by simp, by simp⟩

def GetW (s : ByteArray) (a e : Int) (a' : Act) (w w' : World) : Prop := Below w.heap.size w w' ∧ ∃ u2 u3 u8 u9 u10 u12 u13 u14 u15 u16 u17 u18 u19 u20 u21 u22 u23 u24 u25 u26 u27 u28 u29 u30 u31 u32 u33 u34 u35 u36 u37 u38 u39 u40 u41 u42 u43 u44 u45 u46 u47 u48 u49 u50 u51 u52 u53 u54 u55 u56 u57 u58 u59 u60 u61 : Value,  a' = { tmps := #[.string s, .int .i64 a, u2, u3, .int .i64 0, .string ⟨#[]⟩, .int .i64 0, .int .i64 0, u8, u9, u10, .int .i64 e, u12, u13, u14, u15, u16, u17, u18, u19, u20, u21, u22, u23, u24, u25, u26, u27, u28, u29, u30, u31, u32, u33, u34, u35, u36, u37, u38, u39, u40, u41, u42, u43, u44, u45, u46, u47, u48, u49, u50, u51, u52, u53, u54, u55, u56, u57, u58, u59, u60, u61], defers := [] }

set_option maxHeartbeats 1000000 in
set_option maxRecDepth 100000 in
/-- Places at which there can be no section. -/
theorem sget_out (s : ByteArray) (a : Int) (w : World) (hs : s.size ≤ maxLen) (h : a < 0 ∨ s.size ≤ a) :
    Calls Try.prog 11 #[.string s, .int .i64 a] w fun en w' => en = .returned (.tuple #[.int .i64 0, .string ⟨#[]⟩, .int .i64 a, .int .i64 (if a < 0 ∨ s.size < a then 1 else 10)]) ∧ Below w.heap.size w w' := by
  unfold maxLen at hs
  obtain ⟨e, he⟩ : ∃ e : Int, e = if a < 0 ∨ s.size < a then 1 else 10 := ⟨_, rfl⟩
  rw [← he]
  have hc : (a < 0 ∧ e = 1) ∨ (0 ≤ a ∧ s.size < a ∧ e = 1) ∨ (0 ≤ a ∧ a = s.size ∧ e = 10) := by
    by_cases h0 : a < 0
    · rw [if_pos (.inl h0)] at he; exact .inl ⟨h0, he⟩
    · by_cases h1 : s.size < a
      · rw [if_pos (.inr h1)] at he; exact .inr (.inl ⟨by omega, h1, he⟩)
      · rw [if_neg (by omega)] at he; exact .inr (.inr ⟨by omega, by omega, he⟩)
  clear he h
  go_enter Try.func11, Try.ntmps11
  go_wp2
  refine wp_scope_once 0 (fun a' w' => GetW s a e a' w w') (fun _ _ => 0) rfl ?_ ?_
  · rintro a' w' ⟨hb, u2, u3, u8, u9, u10, u12, u13, u14, u15, u16, u17, u18, u19, u20, u21, u22, u23, u24, u25, u26, u27, u28, u29, u30, u31, u32, u33, u34, u35, u36, u37, u38, u39, u40, u41, u42, u43, u44, u45, u46, u47, u48, u49, u50, u51, u52, u53, u54, u55, u56, u57, u58, u59, u60, u61, rfl⟩
    clear hc
    go_wp2
    simp only [Exit.jump]
    refine bodyPost_ret (v := .tuple #[.int .i64 0, .string ⟨#[]⟩, .int .i64 a, .int .i64 e]) (by simp [results, Try.results11, go_sem, *]) rfl ⟨rfl, hb⟩
  · intro hp
    have Hp := Lib.hid hp; clear hp
    rcases hc with ⟨h, rfl⟩ | ⟨h, h', rfl⟩ | ⟨h, h', rfl⟩
    · go_wp2
      go_step3
      exact ⟨rfl, Below.refl _ _, _, _, _, _, _, _, _, _, _, _, _, _, _, _, _, _, _, _, _, _, _, _, _, _, _, _, _, _, _, _, _, _, _, _, _, _, _, _, _, _, _, _, _, _, _, _, _, _, _, _, _, _, _, _, _, rfl⟩
    · go_wp2
      go_step3
      exact ⟨rfl, Below.refl _ _, _, _, _, _, _, _, _, _, _, _, _, _, _, _, _, _, _, _, _, _, _, _, _, _, _, _, _, _, _, _, _, _, _, _, _, _, _, _, _, _, _, _, _, _, _, _, _, _, _, _, _, _, _, _, _, rfl⟩
    · have hne : ¬ (a < 0) := by omega
      have heq : (a == (s.size : Int)) = true := by simpa using h'
      have hng : ¬ ((s.size : Int) < a) := by omega
      clear h'
      go_wp2
      go_step3
      exact ⟨rfl, Below.refl _ _, _, _, _, _, _, _, _, _, _, _, _, _, _, _, _, _, _, _, _, _, _, _, _, _, _, _, _, _, _, _, _, _, _, _, _, _, _, _, _, _, _, _, _, _, _, _, _, _, _, _, _, _, _, _, _, rfl⟩

theorem one_byte (s : ByteArray) (a : Nat) (h : a < s.size) : s.extract a (a + 1) = ⟨#[s[a]]⟩ := by
  apply ByteArray.ext
  apply Array.toList_inj.1
  simp [ByteArray.data_extract, Array.toList_extract, List.extract_eq_take_drop]
  rw [drop_cons s a h]
  rfl
end Go.Proofs.Yteikmkbaokfgeaa
