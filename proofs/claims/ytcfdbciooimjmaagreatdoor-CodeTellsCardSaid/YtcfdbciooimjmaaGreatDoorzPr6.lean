/- Layer 7: the document's reading of numbers and instructions. -/
import Derived.Test.YtcfdbciooimjmaaGreatDoorzGb
import Derived.Test.YtcfdbciooimjmaaGreatDoorzGg
import Derived.Test.YtcfdbciooimjmaaGreatDoorzOra
import Derived.Test.YtcfdbciooimjmaaGreatDoorzGc
import Derived.Deep.DeepCutAuto
import Derived.Deep.CutBlock
import Derived.Deep.RegionHeld3
namespace Go.Proofs.YtcfdbciooimjmaaGreatDoor
set_option linter.unusedVariables false
set_option linter.unusedSimpArgs false
open Go.RowKit Go.ChangeShapes Go.WideShapes Go.ChangeAt Go.Sort

/-- Bytes, where one reads, what is wrong. -/
abbrev atv (s : ByteArray) (i e : Int) : Value := .agg #[.string s, .int .i64 i, .int .i64 e]
/-- The next number: it, where one reads on, what is wrong. -/
def numS (s : List UInt8) (i e l m : Int) : Int × Int × Int :=
  if e ≠ 0 then (0, i, e) else ((getL (s.drop i.toNat) 0 0).1, i + (getL (s.drop i.toNat) 0 0).2.1, if (getL (s.drop i.toNat) 0 0).2.2 ≠ 0 then (getL (s.drop i.toNat) 0 0).2.2 else if (getL (s.drop i.toNat) 0 0).1 < l ∨ m < (getL (s.drop i.toNat) 0 0).1 then 71 else 0)

set_option maxHeartbeats 2000000 in
set_option maxRecDepth 100000 in
theorem pnum_bad (s : ByteArray) (i e l m : Int) (he : e ≠ 0) : Ct Tryz.prog 31 #[atv s i e, .int .i64 l, .int .i64 m] (.tuple #[.int .i64 0, atv s i e]) := fun w => by
  have h1 : (e != 0) = true := by simpa using he
  clear he
  go_enter Tryz.func31, Tryz.ntmps31
  go_wp2_with fail
  go_region
  all_goals (try go_wp2_with fail)
  all_goals go_returns
  all_goals exact ⟨rfl, by go_grown⟩

/-- The error that a number leaves. -/
def numE (n er l m : Int) : Int := if er ≠ 0 then er else if n < l ∨ m < n then 71 else 0
set_option maxHeartbeats 4000000 in
set_option maxRecDepth 100000 in
theorem pnum_get (s : ByteArray) (i l m n q er : Int) (G : Cs Tryz.prog 63 #[.string s, .int .i64 i] (.tuple #[.int .i64 n, .int .i64 q, .int .i64 er])) :
    Ct Tryz.prog 31 #[atv s i 0, .int .i64 l, .int .i64 m] (.tuple #[.int .i64 n, atv s q (numE n er l m)]) := fun w => by
  rcases (show er ≠ 0 ∨ (er = 0 ∧ n < l) ∨ (er = 0 ∧ l ≤ n ∧ m < n) ∨ (er = 0 ∧ l ≤ n ∧ n ≤ m) by omega) with h | ⟨rfl, h⟩ | ⟨rfl, h, h2⟩ | ⟨rfl, h, h2⟩
  · have hE : numE n er l m = er := by unfold numE; rw [if_pos h]
    have h1 : (er == 0) = false := by simpa using h
    rw [hE]
    clear hE h
    go_enter Tryz.func31, Tryz.ntmps31
    go_wp2_with (go_at_call 63; (with_reducible refine (G.go _).mono ?_); rintro e v ⟨rfl, rfl⟩)
    go_region
    all_goals (try go_wp2_with fail)
    all_goals go_returns
    all_goals exact ⟨rfl, by go_grown⟩
  · have hE : numE n 0 l m = 71 := by unfold numE; rw [if_neg (by simp), if_pos (.inl h)]
    rw [hE]
    clear hE
    go_enter Tryz.func31, Tryz.ntmps31
    go_wp2_with (go_at_call 63; (with_reducible refine (G.go _).mono ?_); rintro e v ⟨rfl, rfl⟩)
    go_region
    all_goals (try go_wp2_with fail)
    all_goals go_returns
    all_goals exact ⟨rfl, by go_grown⟩
  · have hE : numE n 0 l m = 71 := by unfold numE; rw [if_neg (by simp), if_pos (.inr h2)]
    rw [hE]
    clear hE
    go_enter Tryz.func31, Tryz.ntmps31
    go_wp2_with (go_at_call 63; (with_reducible refine (G.go _).mono ?_); rintro e v ⟨rfl, rfl⟩)
    go_region
    all_goals (try go_wp2_with fail)
    all_goals go_returns
    all_goals exact ⟨rfl, by go_grown⟩
  · have hE : numE n 0 l m = 0 := by unfold numE; rw [if_neg (by simp), if_neg (by omega)]
    rw [hE]
    clear hE
    go_enter Tryz.func31, Tryz.ntmps31
    go_wp2_with (go_at_call 63; (with_reducible refine (G.go _).mono ?_); rintro e v ⟨rfl, rfl⟩)
    go_region
    all_goals (try go_wp2_with fail)
    all_goals go_returns
    all_goals exact ⟨rfl, by go_grown⟩
/-- Where one reads on, behind a reading of bytes from i on. -/
def At (s : List UInt8) (i : Int) (t : List UInt8) : Prop := 0 ≤ i ∧ i ≤ s.length ∧ s.drop i.toNat = t
theorem pnum_in (s : ByteArray) (i l m : Int) (t : List UInt8) (hs : s.size ≤ maxLen) (hat : At s.data.toList i t) :
    (∀ n r, numR l m t = .inr (n, r) → ∃ q, At s.data.toList q r ∧ Ct Tryz.prog 31 #[atv s i 0, .int .i64 l, .int .i64 m] (.tuple #[.int .i64 n, atv s q 0])) ∧
    (∀ e, numR l m t = .inl e → ∃ n q, Ct Tryz.prog 31 #[atv s i 0, .int .i64 l, .int .i64 m] (.tuple #[.int .i64 n, atv s q e])) := by
  obtain ⟨h0, h1, rfl⟩ := hat
  have hl : s.data.toList.length = s.size := rfl
  have G : Cs Tryz.prog 63 #[.string s, .int .i64 i] (.tuple #[.int .i64 (getL (s.data.toList.drop i.toNat) 0 0).1, .int .i64 (i + (getL (s.data.toList.drop i.toNat) 0 0).2.1), .int .i64 (getL (s.data.toList.drop i.toNat) 0 0).2.2]) := fun W => by
    have := rget_all s i W hs
    rwa [getF, if_neg (by omega)] at this
  have P := pnum_get s i l m _ _ _ G
  refine ⟨fun n r h => ?_, fun e h => ?_⟩
  · unfold numR at h
    split at h
    · cases h
    · rename_i he
      split at h
      · cases h
      · rename_i hb
        simp only [Sum.inr.injEq, Prod.mk.injEq] at h
        obtain ⟨rfl, rfl⟩ := h
        have he0 : (getL (s.data.toList.drop i.toNat) 0 0).2.2 = 0 := by simpa using he
        obtain ⟨v, _, h2, h3, _, h5, _⟩ := putG_getL (s.data.toList.drop i.toNat) 0 0 (getL (s.data.toList.drop i.toNat) 0 0).1 (getL (s.data.toList.drop i.toNat) 0 0).2.1 (by omega) (Prod.ext rfl (Prod.ext rfl he0))
        refine ⟨i + (getL (s.data.toList.drop i.toNat) 0 0).2.1, ⟨by omega, ?_, ?_⟩, ?_⟩
        · rw [List.length_drop] at h3
          omega
        · rw [List.drop_drop]
          congr 1
          omega
        · have hE : numE (getL (s.data.toList.drop i.toNat) 0 0).1 (getL (s.data.toList.drop i.toNat) 0 0).2.2 l m = 0 := by unfold numE; rw [if_neg he, if_neg hb]
          rwa [hE] at P
  · refine ⟨(getL (s.data.toList.drop i.toNat) 0 0).1, i + (getL (s.data.toList.drop i.toNat) 0 0).2.1, ?_⟩
    · have hE : numE (getL (s.data.toList.drop i.toNat) 0 0).1 (getL (s.data.toList.drop i.toNat) 0 0).2.2 l m = e := by
        unfold numR at h
        unfold numE
        split at h
        · rename_i he
          rw [if_pos he]
          simpa using h
        · rename_i he
          rw [if_neg he]
          split at h
          · rename_i hb
            rw [if_pos hb]
            simpa using h
          · cases h
      rw [hE] at P
      exact P
end Go.Proofs.YtcfdbciooimjmaaGreatDoor

