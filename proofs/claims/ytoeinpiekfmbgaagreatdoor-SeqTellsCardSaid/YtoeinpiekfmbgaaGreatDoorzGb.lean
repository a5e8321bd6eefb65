/- Layer 6, plain: the operations, by their numbers and names; which instructions may be. -/
import Derived.WalkKit
import Derived.ProofKit
import Derived.Lib.ItoaNum
import Derived.Lib.IndexMore
import Derived.Lib.Split
import Derived.Lib.AtoiAll
import Derived.Lib.AtoiAllCases
namespace Go.Proofs.YtoeinpiekfmbgaaGreatDoor
set_option linter.unusedVariables false
set_option linter.unusedSimpArgs false
open Go

/-- A row of the table: name, fields, pops, pushes, first and last of the first field, last of the second one. -/
structure Orow where
  nm : ByteArray
  f : Int
  p : Int
  q : Int
  lo : Int
  la : Int
  lb : Int
def opTab : List Orow := [
  ⟨⟨#[112, 117, 115, 104]⟩, 2, 0, 1, 0, 250, 250⟩,
  ⟨⟨#[108, 111, 97, 100]⟩, 1, 0, 1, 0, 15, 0⟩,
  ⟨⟨#[115, 116, 111, 114, 101]⟩, 1, 1, 0, 0, 15, 0⟩,
  ⟨⟨#[97, 100, 100]⟩, 0, 2, 1, 0, 0, 0⟩,
  ⟨⟨#[115, 117, 98]⟩, 0, 2, 1, 0, 0, 0⟩,
  ⟨⟨#[109, 117, 108]⟩, 0, 2, 1, 0, 0, 0⟩,
  ⟨⟨#[100, 105, 118]⟩, 0, 2, 1, 0, 0, 0⟩,
  ⟨⟨#[99, 111, 110, 106]⟩, 0, 1, 1, 0, 0, 0⟩,
  ⟨⟨#[100, 117, 112]⟩, 0, 1, 2, 0, 0, 0⟩,
  ⟨⟨#[100, 114, 111, 112]⟩, 0, 1, 0, 0, 0, 0⟩,
  ⟨⟨#[106, 117, 109, 112]⟩, 1, 0, 0, 0, 199, 0⟩,
  ⟨⟨#[122, 101, 114, 111]⟩, 1, 1, 0, 0, 199, 0⟩,
  ⟨⟨#[114, 97, 110, 100]⟩, 0, 0, 1, 0, 0, 0⟩,
  ⟨⟨#[115, 112, 97, 119, 110]⟩, 2, 0, 0, 0, 15, 7⟩,
  ⟨⟨#[106, 111, 105, 110]⟩, 1, 0, 1, 0, 7, 0⟩,
  ⟨⟨#[114, 101, 116]⟩, 0, 1, 0, 0, 0, 0⟩,
  ⟨⟨#[116, 114, 97, 112]⟩, 1, 0, 0, 16, 255, 0⟩]
def noOp : Orow := ⟨⟨#[]⟩, 0, 0, 0, 0, 0, 0⟩
/-- The operation of a number. -/
def orow (n : Nat) : Orow := opTab.getD n noOp
def okZ (n : Int) : Bool := decide (0 ≤ n) && decide (n ≤ 16)
def rz (n : Int) : Orow := if okZ n = true then orow n.toNat else noOp
theorem opTab_get {k : Nat} (hk : k < 17) : opTab[k]? = some (orow k) := by
  unfold orow
  rw [List.getD_eq_getElem?_getD]
  have : k < opTab.length := hk
  rw [List.getElem?_eq_getElem this]
  rfl
theorem rz_in {k : Nat} (h : k < 17) : rz k = orow k := by
  unfold rz
  rw [if_pos (by simp [okZ]; omega)]
  rfl
theorem rz_out {n : Int} (h : okZ n = false) : rz n = noOp := by unfold rz; rw [if_neg (by simp [h])]
theorem okZ_cases (n : Int) : (∃ k : Nat, k < 17 ∧ n = k) ∨ okZ n = false := by
  by_cases h : okZ n = true
  · simp only [okZ, Bool.and_eq_true, decide_eq_true_eq] at h
    exact .inl ⟨n.toNat, by omega, by omega⟩
  · exact .inr (by simpa using h)

/-- Whether two texts are the same. -/
def eqS (a b : ByteArray) : Bool := decide (a = b)
theorem eqS_toList (a b : ByteArray) : (a.toList == b.toList) = eqS a b := by
  unfold eqS
  by_cases h : a = b
  · simp [h]
  · rw [decide_eq_false h]
    refine beq_eq_false_iff_ne.2 fun he => h ?_
    rw [ByteArray.toList_eq, ByteArray.toList_eq] at he
    exact ByteArray.ext (Array.toList_inj.1 he)
theorem eqS_iff {a b : ByteArray} : eqS a b = true ↔ a = b := by simp [eqS]

/-- The number of the operation of a name; 17 if there is none. -/
def idxN (s : ByteArray) : Nat := opTab.findIdx fun r => eqS r.nm s
theorem idx_le (s : ByteArray) : idxN s ≤ 17 := List.findIdx_le_length
theorem orow_get {k : Nat} (h : k < opTab.length) : opTab[k] = orow k := Option.some.inj ((List.getElem?_eq_getElem h).symm.trans (opTab_get h))
theorem idx_hit {s : ByteArray} {k : Nat} (hk : k < 17) (h : eqS (orow k).nm s = true) (hn : ∀ j, j < k → eqS (orow j).nm s = false) : idxN s = k := by
  have hl : k < opTab.length := hk
  refine (List.findIdx_eq hl).2 ⟨?_, fun j hj => ?_⟩
  · rw [orow_get hl]; exact h
  · rw [orow_get (Nat.lt_trans hj hl)]; exact hn j hj
theorem idx_miss {s : ByteArray} (hn : ∀ j, j < 17 → eqS (orow j).nm s = false) : idxN s = 17 := by
  rcases Nat.lt_or_ge (idxN s) 17 with h | h
  · have hl : opTab.findIdx (fun r => eqS r.nm s) < opTab.length := h
    have := List.findIdx_getElem (w := hl)
    rw [orow_get hl] at this
    exact absurd (hn _ h) (by simpa [idxN] using this)
  · exact Nat.le_antisymm (idx_le s) h
/-- What finding a name tells. -/
def numF (s : ByteArray) : Int := ((if idxN s < 17 then idxN s else 0 : Nat) : Int)
def isF (s : ByteArray) : Bool := decide (idxN s < 17)
theorem fnd_hit {s : ByteArray} {k : Nat} (h : idxN s = k) (hk : k < 17) : numF s = k ∧ isF s = true := by
  unfold numF isF
  rw [h, if_pos hk]
  exact ⟨rfl, decide_eq_true hk⟩
theorem fnd_miss {s : ByteArray} (h : idxN s = 17) : numF s = 0 ∧ isF s = false := by
  unfold numF isF
  rw [h]
  exact ⟨rfl, rfl⟩
theorem idx_name {s : ByteArray} (h : idxN s < 17) : (orow (idxN s)).nm = s := by
  have hl : opTab.findIdx (fun r => eqS r.nm s) < opTab.length := h
  have := List.findIdx_getElem (w := hl)
  rw [orow_get hl] at this
  exact eqS_iff.1 this

/-- An instruction. -/
abbrev iv (o a b : Int) : Value := .agg #[.int .i64 o, .int .i64 a, .int .i64 b]
/-- Whether it may be. -/
def mayZ (o a b : Int) : Bool := okZ o && (decide ((rz o).lo ≤ a) && decide (a ≤ (rz o).la)) && (decide (0 ≤ b) && decide (b ≤ (rz o).lb))

theorem f_of : ∀ k, k < 17 → (orow k).f = (if k = 0 ∨ k = 13 then 2 else if k = 1 ∨ k = 2 ∨ k = 10 ∨ k = 11 ∨ k = 14 ∨ k = 16 then 1 else 0) := by decide
theorem p_of : ∀ k, k < 17 → (orow k).p = (if k = 3 ∨ k = 4 ∨ k = 5 ∨ k = 6 then 2 else if k = 2 ∨ k = 7 ∨ k = 8 ∨ k = 9 ∨ k = 11 ∨ k = 15 then 1 else 0) := by decide
theorem q_of : ∀ k, k < 17 → (orow k).q = (if k = 8 then 2 else if k = 0 ∨ k = 1 ∨ k = 3 ∨ k = 4 ∨ k = 5 ∨ k = 6 ∨ k = 7 ∨ k = 12 ∨ k = 14 then 1 else 0) := by decide
theorem o_of : ∀ k, k < 17 → (orow k).lo = (if k = 16 then 16 else 0) := by decide
theorem okZ_no {n : Int} (h : okZ n = false) : n < 0 ∨ 16 < n := by
  simp only [okZ, Bool.and_eq_false_iff, decide_eq_false_iff_not] at h
  omega

/-- A field's greatest number, as the document has it. -/
def mostZ (o j : Int) : Int := if o = 0 then 250 else if o = 1 ∨ o = 2 then 15 else if o = 10 ∨ o = 11 then 199 else if o = 13 then (if j = 1 then 7 else 15) else if o = 14 then 7 else 255
/-- What the document finds. -/
def rfnd (s : ByteArray) : Int := if isF s = true then numF s else -1
theorem rfnd_hit {s : ByteArray} {k : Nat} (h : idxN s = k) (hk : k < 17) : rfnd s = k := by
  unfold rfnd
  rw [(fnd_hit h hk).2, (fnd_hit h hk).1]
  rfl
theorem rfnd_miss {s : ByteArray} (h : idxN s = 17) : rfnd s = -1 := by
  unfold rfnd
  rw [(fnd_miss h).2]
  rfl

theorem row_ok : ∀ k, k < 17 → 0 ≤ (orow k).lo ∧ ((orow k).lo = 0 ∨ (k = 16 ∧ (orow k).lo = 16)) ∧ (orow k).la ≤ 255 ∧ (orow k).lb ≤ 255 ∧ (((orow k).f = 0 ∧ (orow k).la = 0 ∧ (orow k).lb = 0) ∨ ((orow k).f = 1 ∧ (orow k).lb = 0) ∨ (orow k).f = 2) := by decide
theorem may_iff {k : Nat} (hk : k < 17) (a b : Int) : mayZ k a b = true ↔ (orow k).lo ≤ a ∧ a ≤ (orow k).la ∧ 0 ≤ b ∧ b ≤ (orow k).lb := by
  unfold mayZ
  rw [rz_in hk, show okZ (k : Int) = true by simp [okZ]; omega]
  simp [and_assoc]
theorem apart : ∀ k, k < 17 → ∀ j, j < 17 → k ≠ j → (orow k).nm.size ≤ (orow j).nm.size → ((orow j).nm.extract 0 (orow k).nm.size).data.toList ≠ (orow k).nm.data.toList := by decide +kernel
end Go.Proofs.YtoeinpiekfmbgaaGreatDoor

/- Layer 7, plain: texts cut at a byte, and joined; numbers in digits. -/
namespace Go.Proofs.YtoeinpiekfmbgaaGreatDoor
set_option linter.unusedVariables false
set_option linter.unusedSimpArgs false
open Go

/-- A text cut at each byte c. -/
def splitL (c : UInt8) : List UInt8 → List (List UInt8)
  | [] => [[]]
  | x :: r => if x = c then [] :: splitL c r else match splitL c r with
    | w :: ws => (x :: w) :: ws
    | [] => [[x]]
def joinC (c : UInt8) : List (List UInt8) → List UInt8
  | [] => []
  | [w] => w
  | w :: v :: ws => w ++ c :: joinC c (v :: ws)
theorem splitL_ne (c : UInt8) (l : List UInt8) : splitL c l ≠ [] := by
  induction l with
  | nil => simp [splitL]
  | cons x r ih =>
    unfold splitL
    split
    · simp
    · cases h : splitL c r with
      | nil => exact absurd h ih
      | cons w ws => simp
theorem joinC_cons (c x : UInt8) (w : List UInt8) (ws : List (List UInt8)) : joinC c ((x :: w) :: ws) = x :: joinC c (w :: ws) := by
  cases ws <;> simp [joinC]
theorem joinC_nil_cons (c : UInt8) (ws : List (List UInt8)) (h : ws ≠ []) : joinC c ([] :: ws) = c :: joinC c ws := by
  cases ws with
  | nil => exact absurd rfl h
  | cons w ws => simp [joinC]
theorem join_split (c : UInt8) (l : List UInt8) : joinC c (splitL c l) = l := by
  induction l with
  | nil => simp [splitL, joinC]
  | cons x r ih =>
    unfold splitL
    split
    · rename_i h
      rw [joinC_nil_cons c _ (splitL_ne c r), ih, h]
    · cases h : splitL c r with
      | nil => exact absurd h (splitL_ne c r)
      | cons w ws =>
        simp only
        rw [joinC_cons, ← h, ih]
theorem split_word (c : UInt8) (w : List UInt8) (h : c ∉ w) : splitL c w = [w] := by
  induction w with
  | nil => rfl
  | cons x r ih =>
    simp only [List.mem_cons, not_or] at h
    unfold splitL
    rw [if_neg (Ne.symm h.1), ih h.2]
theorem split_app (c : UInt8) (w r : List UInt8) (h : c ∉ w) : splitL c (w ++ c :: r) = w :: splitL c r := by
  induction w with
  | nil => simp [splitL]
  | cons x w ih =>
    simp only [List.mem_cons, not_or] at h
    rw [List.cons_append]
    conv => lhs; unfold splitL
    rw [if_neg (Ne.symm h.1), ih h.2]
/-- Lines, each with a byte c behind it. -/
def flatC (c : UInt8) (ws : List (List UInt8)) : List UInt8 := (ws.map fun w => w ++ [c]).flatten
theorem flatC_cons (c : UInt8) (w : List UInt8) (ws : List (List UInt8)) : flatC c (w :: ws) = w ++ c :: flatC c ws := by simp [flatC]
theorem join_flat (c : UInt8) (t : List UInt8) : ∀ (ws : List (List UInt8)), joinC c (ws ++ [t]) = flatC c ws ++ t
  | [] => by simp [flatC, joinC]
  | w :: ws => by
    rw [flatC_cons, List.cons_append]
    cases h : ws ++ [t] with
    | nil => simp at h
    | cons v vs =>
      rw [joinC, ← h, join_flat c t ws]
      simp

/-- The number that digits are. -/
def valD (w : List UInt8) : Int := w.foldl (fun n c => 10 * n + c.toNat - 48) 0
theorem decd_lt {n : Nat} (h : n < 10) : Lib.decDigits n = [UInt8.ofNat (48 + n % 10)] := by rw [Lib.decDigits, dif_pos h, Nat.mod_eq_of_lt h]
theorem decd_ge {n : Nat} (h : ¬ n < 10) : Lib.decDigits n = Lib.decDigits (n / 10) ++ [UInt8.ofNat (48 + n % 10)] := by rw [Lib.decDigits, dif_neg h]
/-- A number as its digits. -/
def dgI (n : Int) : List UInt8 := Lib.decDigits n.toNat
/-- The number that a word is; -1: none. -/
def numV (w : List UInt8) : Int := if w.length ≤ 3 ∧ 0 ≤ valD w ∧ dgI (valD w) = w then valD w else -1
theorem numV_of {w : List UInt8} (h : 0 ≤ numV w) : dgI (numV w) = w ∧ numV w = valD w ∧ w.length ≤ 3 := by
  unfold numV at *
  split at h
  · rename_i hc
    rw [if_pos hc]
    exact ⟨hc.2.2, rfl, hc.1⟩
  · omega
theorem strb_size (q : List UInt8) : (⟨q.toArray⟩ : ByteArray).size = q.length := by show q.toArray.size = _; simp
end Go.Proofs.YtoeinpiekfmbgaaGreatDoor

/- Layer 7, plain: programs, their lines, and their texts. -/
namespace Go.Proofs.YtoeinpiekfmbgaaGreatDoor
set_option linter.unusedVariables false
set_option linter.unusedSimpArgs false
open Go

/-- A function of a program: its head, and its instructions. -/
structure Fun where
  ar : Int
  lo : Int
  sl : Int
  code : List (Int × Int × Int)
/-- A line of a program's text. -/
inductive PLine where
  | head (a l s : Int)
  | ins (o a b : Int)
def headB (a l s : Int) : Bool := decide (0 ≤ a) && decide (a ≤ 16) && (decide (0 ≤ l) && decide (l ≤ 16)) && (decide (0 ≤ s) && decide (s ≤ 8))
theorem headB_iff (a l s : Int) : headB a l s = true ↔ (0 ≤ a ∧ a ≤ 16) ∧ (0 ≤ l ∧ l ≤ 16) ∧ 0 ≤ s ∧ s ≤ 8 := by
  simp [headB, and_assoc]
def okL : PLine → Bool
  | .head a l s => headB a l s
  | .ins o a b => mayZ o a b
/-- 'func'. -/
def funcW : List UInt8 := [102, 117, 110, 99]
def nmL (o : Int) : List UInt8 := (rz o).nm.data.toList
def wordsL : PLine → List (List UInt8)
  | .head a l s => [funcW, dgI a, dgI l, dgI s]
  | .ins o a b => nmL o :: (if (rz o).f < 1 then [] else if (rz o).f < 2 then [dgI a] else [dgI a, dgI b])
def lineT (x : PLine) : List UInt8 := joinC 32 (wordsL x)

theorem nmL_in {k : Nat} (hk : k < 17) : nmL k = (orow k).nm.data.toList := by unfold nmL; rw [rz_in hk]
theorem may_in {o a b : Int} (h : mayZ o a b = true) : ∃ k : Nat, k < 17 ∧ o = k := by
  rcases okZ_cases o with h1 | h1
  · exact h1
  · unfold mayZ at h
    rw [h1] at h
    cases h
/-- The numbers of words; none: one is no number, or there are more than three. -/
def numsW (ws : List (List UInt8)) : Option (List Int) := if ws.length ≤ 3 ∧ ∀ w ∈ ws, 0 ≤ numV w then some (ws.map numV) else none
/-- The line that a text is. -/
def lineOf (l : List UInt8) : Option PLine :=
  match splitL 32 l with
  | [] => none
  | w :: ws => match numsW ws with
    | none => none
    | some ns =>
      if w = funcW then (if ns.length = 3 ∧ headB (ns.getD 0 0) (ns.getD 1 0) (ns.getD 2 0) = true then some (.head (ns.getD 0 0) (ns.getD 1 0) (ns.getD 2 0)) else none)
      else if mayZ (rfnd ⟨w.toArray⟩) (ns.getD 0 0) (ns.getD 1 0) = true ∧ (ns.length : Int) = (rz (rfnd ⟨w.toArray⟩)).f then some (.ins (rfnd ⟨w.toArray⟩) (ns.getD 0 0) (ns.getD 1 0)) else none

theorem bytes_eta (l : List UInt8) : (⟨l.toArray⟩ : ByteArray).data.toList = l := by simp
theorem rfnd_of {s : ByteArray} (h : okZ (rfnd s) = true) : ∃ k : Nat, k < 17 ∧ rfnd s = k ∧ s.data.toList = nmL k := by
  by_cases hi : idxN s < 17
  · refine ⟨idxN s, hi, rfnd_hit rfl hi, ?_⟩
    rw [nmL_in hi, idx_name hi]
  · have he : idxN s = 17 := by have := idx_le s; omega
    rw [rfnd_miss he] at h
    exact absurd h (by decide)
theorem numsW_of {ws : List (List UInt8)} {ns : List Int} (h : numsW ws = some ns) : ns.length ≤ 3 ∧ ws = ns.map dgI ∧ ∀ n ∈ ns, 0 ≤ n := by
  unfold numsW at h
  split at h
  · rename_i hc
    simp only [Option.some.injEq] at h
    subst h
    refine ⟨by simpa using hc.1, ?_, fun n hn => ?_⟩
    · rw [List.map_map]
      conv => lhs; rw [← List.map_id ws]
      exact List.map_congr_left fun w hw => (numV_of (hc.2 w hw)).1.symm
    · obtain ⟨w, hw, rfl⟩ := List.mem_map.1 hn
      exact hc.2 w hw
  · cases h

theorem row_bounds {o a b : Int} (h : mayZ o a b = true) : (0 ≤ a ∧ a < 1000) ∧ (0 ≤ b ∧ b < 1000) ∧ ((rz o).f < 1 → a = 0) ∧ ((rz o).f < 2 → b = 0) ∧ 0 ≤ (rz o).f ∧ (rz o).f ≤ 2 := by
  obtain ⟨k, hk, rfl⟩ := may_in h
  obtain ⟨h1, h2, h3, h4⟩ := (may_iff hk a b).1 h
  obtain ⟨r1, r2, r3, r4, r5⟩ := row_ok k hk
  rw [rz_in hk]
  refine ⟨by omega, by omega, fun hf => ?_, fun hf => ?_, by omega, by omega⟩
  · omega
  · omega

theorem lineOf_of {l : List UInt8} {x : PLine} (h : lineOf l = some x) : okL x = true ∧ lineT x = l := by
  have hj := join_split 32 l
  unfold lineOf at h
  split at h
  · cases h
  · rename_i w ws hs
    rw [hs] at hj
    split at h
    · cases h
    · rename_i ns hn
      obtain ⟨hl, rfl, hp⟩ := numsW_of hn
      split at h
      · rename_i hw
        split at h
        · rename_i hc
          simp only [Option.some.injEq] at h
          subst h
          refine ⟨hc.2, ?_⟩
          match ns, hc with
          | [a, l, s], hc => subst hw; exact hj
        · cases h
      · rename_i hw
        split at h
        · rename_i hc
          simp only [Option.some.injEq] at h
          subst h
          refine ⟨hc.1, ?_⟩
          obtain ⟨k, hk, he⟩ := may_in hc.1
          obtain ⟨j, hj2, he2, hb⟩ := rfnd_of (s := ⟨w.toArray⟩) (by rw [he]; simp [okZ]; omega)
          rw [bytes_eta] at hb
          rw [he2] at hc ⊢
          rw [← hj, hb]
          unfold lineT
          congr 1
          match ns, hc with
          | [], hc => simp only [wordsL]; rw [if_pos (by have := hc.2; simp at this; omega)]; rfl
          | [a], hc => simp only [wordsL]; have := hc.2; simp at this; rw [if_neg (by omega), if_pos (by omega)]; rfl
          | [a, b], hc => simp only [wordsL]; have := hc.2; simp at this; rw [if_neg (by omega), if_neg (by omega)]; rfl
          | [a, b, c], hc =>
            have h1 := hc.2
            have := (row_bounds hc.1).2.2.2.2.2
            simp at h1
            omega
        · cases h
end Go.Proofs.YtoeinpiekfmbgaaGreatDoor

/- Layer 7, plain: programs read of their texts. -/
namespace Go.Proofs.YtoeinpiekfmbgaaGreatDoor
set_option linter.unusedVariables false
set_option linter.unusedSimpArgs false
open Go

def linesF (f : Fun) : List PLine := .head f.ar f.lo f.sl :: f.code.map fun x => .ins x.1 x.2.1 x.2.2
def linesP (p : List Fun) : List PLine := (p.map linesF).flatten
/-- May a function be? -/
def mayF (f : Fun) : Bool := headB f.ar f.lo f.sl && (decide (1 ≤ f.code.length) && decide (f.code.length ≤ 200)) && f.code.all fun x => mayZ x.1 x.2.1 x.2.2
def mayP (p : List Fun) : Bool := decide (1 ≤ p.length) && decide (p.length ≤ 16) && p.all mayF
def textP (p : List Fun) : List UInt8 := if mayP p = true then flatC 10 ((linesP p).map lineT) else []
/-- May a program's next function be laid? -/
def openR (p : List Fun) : Bool := match p.getLast? with
  | some f => !f.code.isEmpty
  | none => true
/-- A program, and a line more. -/
def layH (p : List Fun) (a l s : Int) : Option (List Fun) := if openR p = true ∧ p.length ≠ 16 then some (p ++ [⟨a, l, s, []⟩]) else none
def layI (p : List Fun) (o a b : Int) : Option (List Fun) := match p.getLast? with
  | none => none
  | some f => if f.code.length = 200 then none else some (p.dropLast ++ [⟨f.ar, f.lo, f.sl, f.code ++ [(o, a, b)]⟩])
def layL (p : List Fun) : PLine → Option (List Fun)
  | .head a l s => layH p a l s
  | .ins o a b => layI p o a b
/-- Lines, one behind the other: what was laid, how many were, whether all were. -/
def runL : List Fun → List (List UInt8) → List Fun × Nat × Bool
  | p, [] => (p, 0, true)
  | p, l :: ls => match (lineOf l).bind (layL p) with
    | none => (p, 0, false)
    | some q => ((runL q ls).1, (runL q ls).2.1 + 1, (runL q ls).2.2)
def parseP (s : List UInt8) : List Fun × Nat × Int :=
  let L := splitL 10 s
  let r := runL [] L.dropLast
  if r.2.2 = true ∧ L.getLast? = some [] ∧ mayP r.1 = true then (r.1, r.2.1, 0) else ([], r.2.1, 70)

theorem linesP_nil : linesP [] = [] := rfl
theorem linesP_app (p q : List Fun) : linesP (p ++ q) = linesP p ++ linesP q := by simp [linesP]
theorem mayF_iff (f : Fun) : mayF f = true ↔ headB f.ar f.lo f.sl = true ∧ 1 ≤ f.code.length ∧ f.code.length ≤ 200 ∧ ∀ x ∈ f.code, mayZ x.1 x.2.1 x.2.2 = true := by
  simp [mayF, and_assoc]
theorem mayP_iff (p : List Fun) : mayP p = true ↔ 1 ≤ p.length ∧ p.length ≤ 16 ∧ ∀ f ∈ p, mayF f = true := by
  simp [mayP, and_assoc]
theorem runL_nil (p : List Fun) : runL p [] = (p, 0, true) := rfl
theorem runL_some {p q : List Fun} {l : List UInt8} (ls : List (List UInt8)) (h : (lineOf l).bind (layL p) = some q) : runL p (l :: ls) = ((runL q ls).1, (runL q ls).2.1 + 1, (runL q ls).2.2) := by
  rw [runL, h]
theorem runL_none {p : List Fun} {l : List UInt8} (ls : List (List UInt8)) (h : (lineOf l).bind (layL p) = none) : runL p (l :: ls) = (p, 0, false) := by
  rw [runL, h]
theorem getLast_split {α : Type} {p : List α} {f : α} (h : p.getLast? = some f) : p = p.dropLast ++ [f] := by
  have hne : p ≠ [] := by intro e; rw [e] at h; simp at h
  rw [List.getLast?_eq_some_getLast hne] at h
  simp only [Option.some.injEq] at h
  rw [← h]
  exact (List.dropLast_concat_getLast hne).symm
/-- What is laid has just these lines. -/
theorem lay_lines {p q : List Fun} {x : PLine} (h : layL p x = some q) : linesP q = linesP p ++ [x] := by
  cases x with
  | head a l s =>
    have h' : layH p a l s = some q := h
    unfold layH at h'
    split at h'
    · simp only [Option.some.injEq] at h'
      subst h'
      rw [linesP_app]
      rfl
    · cases h'
  | ins o a b =>
    have h' : layI p o a b = some q := h
    unfold layI at h'
    split at h'
    · cases h'
    · rename_i f hf
      split at h'
      · cases h'
      · simp only [Option.some.injEq] at h'
        subst h'
        have hs := getLast_split hf
        conv => rhs; rw [hs]
        rw [linesP_app, linesP_app]
        simp [linesP, linesF]
theorem run_lines : ∀ (ls : List (List UInt8)) (p : List Fun), (runL p ls).2.2 = true → (linesP (runL p ls).1).map lineT = (linesP p).map lineT ++ ls
  | [], p, _ => by simp [runL_nil]
  | l :: ls, p, h => by
    cases hq : (lineOf l).bind (layL p) with
    | none => rw [runL_none ls hq] at h; cases h
    | some q =>
      rw [runL_some ls hq] at h ⊢
      simp only
      rw [run_lines ls q h]
      cases hl : lineOf l with
      | none => rw [hl] at hq; cases hq
      | some x =>
        rw [hl] at hq
        rw [lay_lines (show layL p x = some q from hq)]
        rw [List.map_append, List.append_assoc]
        congr 1
        simp [(lineOf_of hl).2]

theorem text_eq {p : List Fun} (h : mayP p = true) : textP p = flatC 10 ((linesP p).map lineT) := by unfold textP; rw [if_pos h]
/-- A text that is read is the program's own. -/
theorem text_parse {s : List UInt8} (h : (parseP s).2.2 = 0) : mayP (parseP s).1 = true ∧ textP (parseP s).1 = s := by
  have hj := join_split 10 s
  unfold parseP at *
  simp only at *
  split at h
  · rename_i hc
    rw [if_pos hc]
    refine ⟨hc.2.2, ?_⟩
    rw [text_eq hc.2.2, run_lines _ _ hc.1]
    have hs := getLast_split hc.2.1
    rw [hs, join_flat] at hj
    simpa [linesP_nil] using hj
  · simp at h
theorem parse_none {s : List UInt8} (h : (parseP s).2.2 ≠ 0) : (parseP s).1 = [] ∧ (parseP s).2.2 = 70 := by
  unfold parseP at *
  simp only at *
  split at h
  · simp at h
  · rename_i hc
    rw [if_neg hc]
    exact ⟨rfl, rfl⟩
end Go.Proofs.YtoeinpiekfmbgaaGreatDoor

/- Layer 7, plain: lines cut as the program cuts them, and numbers as it reads them. -/
namespace Go.Proofs.YtoeinpiekfmbgaaGreatDoor
set_option linter.unusedVariables false
set_option linter.unusedSimpArgs false
open Go

theorem joinC_len (c : UInt8) : ∀ (ws : List (List UInt8)), ws.length ≤ (joinC c ws).length + 1
  | [] => by simp
  | [w] => by simp
  | w :: v :: ws => by
    have := joinC_len c (v :: ws)
    rw [joinC, List.length_append, List.length_cons, List.length_cons, List.length_cons]
    rw [List.length_cons] at this
    omega

def lineC (x : List UInt8 × List Int) : Option PLine :=
  if x.1 = funcW then (if x.2.length = 3 ∧ headB (x.2.getD 0 0) (x.2.getD 1 0) (x.2.getD 2 0) = true then some (.head (x.2.getD 0 0) (x.2.getD 1 0) (x.2.getD 2 0)) else none)
  else if mayZ (rfnd ⟨x.1.toArray⟩) (x.2.getD 0 0) (x.2.getD 1 0) = true ∧ (x.2.length : Int) = (rz (rfnd ⟨x.1.toArray⟩)).f then some (.ins (rfnd ⟨x.1.toArray⟩) (x.2.getD 0 0) (x.2.getD 1 0)) else none
end Go.Proofs.YtoeinpiekfmbgaaGreatDoor

