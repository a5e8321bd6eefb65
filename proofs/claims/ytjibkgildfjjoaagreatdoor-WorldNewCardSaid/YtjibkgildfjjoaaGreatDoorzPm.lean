/- Layer 7, plain: programs, their lines, and their texts. -/
import Derived.Test.YtjibkgildfjjoaaGreatDoorzPw
namespace Go.Proofs.YtjibkgildfjjoaaGreatDoor
set_option linter.unusedVariables false
set_option linter.unusedSimpArgs false
open Go

/-- A function of a program: its head, and its instructions. -/
structure Fun where
  ar : Int
  lo : Int
  sl : Int
  code : List (Int × Int × Int)
/-- A line of a program's text. -/
inductive PLine where
  | head (a l s : Int)
  | ins (o a b : Int)
def headB (a l s : Int) : Bool := decide (0 ≤ a) && decide (a ≤ 16) && (decide (0 ≤ l) && decide (l ≤ 16)) && (decide (0 ≤ s) && decide (s ≤ 8))
theorem headB_iff (a l s : Int) : headB a l s = true ↔ (0 ≤ a ∧ a ≤ 16) ∧ (0 ≤ l ∧ l ≤ 16) ∧ 0 ≤ s ∧ s ≤ 8 := by
  simp [headB, and_assoc]
def okL : PLine → Bool
  | .head a l s => headB a l s
  | .ins o a b => mayZ o a b
/-- 'func'. -/
def funcW : List UInt8 := [102, 117, 110, 99]
def nmL (o : Int) : List UInt8 := (rz o).nm.data.toList
def wordsL : PLine → List (List UInt8)
  | .head a l s => [funcW, dgI a, dgI l, dgI s]
  | .ins o a b => nmL o :: (if (rz o).f < 1 then [] else if (rz o).f < 2 then [dgI a] else [dgI a, dgI b])
def lineT (x : PLine) : List UInt8 := joinC 32 (wordsL x)

theorem nmL_in {k : Nat} (hk : k < 17) : nmL k = (orow k).nm.data.toList := by unfold nmL; rw [rz_in hk]
theorem may_in {o a b : Int} (h : mayZ o a b = true) : ∃ k : Nat, k < 17 ∧ o = k := by
  rcases okZ_cases o with h1 | h1
  · exact h1
  · unfold mayZ at h
    rw [h1] at h
    cases h
/-- The numbers of words; none: one is no number, or there are more than three. -/
def numsW (ws : List (List UInt8)) : Option (List Int) := if ws.length ≤ 3 ∧ ∀ w ∈ ws, 0 ≤ numV w then some (ws.map numV) else none
/-- The line that a text is. -/
def lineOf (l : List UInt8) : Option PLine :=
  match splitL 32 l with
  | [] => none
  | w :: ws => match numsW ws with
    | none => none
    | some ns =>
      if w = funcW then (if ns.length = 3 ∧ headB (ns.getD 0 0) (ns.getD 1 0) (ns.getD 2 0) = true then some (.head (ns.getD 0 0) (ns.getD 1 0) (ns.getD 2 0)) else none)
      else if mayZ (rfnd ⟨w.toArray⟩) (ns.getD 0 0) (ns.getD 1 0) = true ∧ (ns.length : Int) = (rz (rfnd ⟨w.toArray⟩)).f then some (.ins (rfnd ⟨w.toArray⟩) (ns.getD 0 0) (ns.getD 1 0)) else none

theorem bytes_eta (l : List UInt8) : (⟨l.toArray⟩ : ByteArray).data.toList = l := by simp
theorem rfnd_of {s : ByteArray} (h : okO (rfnd s) = true) : ∃ k : Nat, k < 17 ∧ rfnd s = k ∧ s.data.toList = nmL k := by
  by_cases hi : idxN s < 17
  · refine ⟨idxN s, hi, rfnd_hit rfl hi, ?_⟩
    rw [nmL_in hi, idx_name hi]
  · have he : idxN s = 17 := by have := idx_le s; omega
    rw [rfnd_miss he] at h
    exact absurd h (by decide)
theorem numsW_of {ws : List (List UInt8)} {ns : List Int} (h : numsW ws = some ns) : ns.length ≤ 3 ∧ ws = ns.map dgI ∧ ∀ n ∈ ns, 0 ≤ n := by
  unfold numsW at h
  split at h
  · rename_i hc
    simp only [Option.some.injEq] at h
    subst h
    refine ⟨by simpa using hc.1, ?_, fun n hn => ?_⟩
    · rw [List.map_map]
      conv => lhs; rw [← List.map_id ws]
      exact List.map_congr_left fun w hw => (numV_of (hc.2 w hw)).1.symm
    · obtain ⟨w, hw, rfl⟩ := List.mem_map.1 hn
      exact hc.2 w hw
  · cases h

theorem row_bounds {o a b : Int} (h : mayZ o a b = true) : (0 ≤ a ∧ a < 1000) ∧ (0 ≤ b ∧ b < 1000) ∧ ((rz o).f < 1 → a = 0) ∧ ((rz o).f < 2 → b = 0) ∧ 0 ≤ (rz o).f ∧ (rz o).f ≤ 2 := by
  obtain ⟨k, hk, rfl⟩ := may_in h
  obtain ⟨h1, h2, h3, h4⟩ := (may_iff hk a b).1 h
  obtain ⟨r1, r2, r3, r4, r5⟩ := row_ok k hk
  rw [rz_in hk]
  refine ⟨by omega, by omega, fun hf => ?_, fun hf => ?_, by omega, by omega⟩
  · omega
  · omega

theorem lineOf_of {l : List UInt8} {x : PLine} (h : lineOf l = some x) : okL x = true ∧ lineT x = l := by
  have hj := join_split 32 l
  unfold lineOf at h
  split at h
  · cases h
  · rename_i w ws hs
    rw [hs] at hj
    split at h
    · cases h
    · rename_i ns hn
      obtain ⟨hl, rfl, hp⟩ := numsW_of hn
      split at h
      · rename_i hw
        split at h
        · rename_i hc
          simp only [Option.some.injEq] at h
          subst h
          refine ⟨hc.2, ?_⟩
          match ns, hc with
          | [a, l, s], hc => subst hw; exact hj
        · cases h
      · rename_i hw
        split at h
        · rename_i hc
          simp only [Option.some.injEq] at h
          subst h
          refine ⟨hc.1, ?_⟩
          obtain ⟨k, hk, he⟩ := may_in hc.1
          obtain ⟨j, hj2, he2, hb⟩ := rfnd_of (s := ⟨w.toArray⟩) (by rw [he]; simp [okO]; omega)
          rw [bytes_eta] at hb
          rw [he2] at hc ⊢
          rw [← hj, hb]
          unfold lineT
          congr 1
          match ns, hc with
          | [], hc => simp only [wordsL]; rw [if_pos (by have := hc.2; simp at this; omega)]; rfl
          | [a], hc => simp only [wordsL]; have := hc.2; simp at this; rw [if_neg (by omega), if_pos (by omega)]; rfl
          | [a, b], hc => simp only [wordsL]; have := hc.2; simp at this; rw [if_neg (by omega), if_neg (by omega)]; rfl
          | [a, b, c], hc =>
            have h1 := hc.2
            have := (row_bounds hc.1).2.2.2.2.2
            simp at h1
            omega
        · cases h
end Go.Proofs.YtjibkgildfjjoaaGreatDoor

