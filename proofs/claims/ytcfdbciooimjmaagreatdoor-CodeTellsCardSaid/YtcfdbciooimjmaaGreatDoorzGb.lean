/- Layer 6, plain: the operations, by their numbers and names; which instructions may be. -/
import Derived.WalkKit
import Derived.ProofKit
import Derived.Lib.ItoaNum
import Derived.Test.YtcfdbciooimjmaaGreatDoorzGa
import Derived.Lib.IndexMore
import Derived.Lib.Split
import Derived.Lib.AtoiAll
import Derived.Lib.AtoiAllCases
namespace Go.Proofs.YtcfdbciooimjmaaGreatDoor
set_option linter.unusedVariables false
set_option linter.unusedSimpArgs false
open Go

/-- A row of the table: name, fields, pops, pushes, first and last of the first field, last of the second one. -/
structure Orow where
  nm : ByteArray
  f : Int
  p : Int
  q : Int
  lo : Int
  la : Int
  lb : Int
def opTab : List Orow := [
  ⟨⟨#[112, 117, 115, 104]⟩, 2, 0, 1, 0, 250, 250⟩,
  ⟨⟨#[108, 111, 97, 100]⟩, 1, 0, 1, 0, 15, 0⟩,
  ⟨⟨#[115, 116, 111, 114, 101]⟩, 1, 1, 0, 0, 15, 0⟩,
  ⟨⟨#[97, 100, 100]⟩, 0, 2, 1, 0, 0, 0⟩,
  ⟨⟨#[115, 117, 98]⟩, 0, 2, 1, 0, 0, 0⟩,
  ⟨⟨#[109, 117, 108]⟩, 0, 2, 1, 0, 0, 0⟩,
  ⟨⟨#[100, 105, 118]⟩, 0, 2, 1, 0, 0, 0⟩,
  ⟨⟨#[99, 111, 110, 106]⟩, 0, 1, 1, 0, 0, 0⟩,
  ⟨⟨#[100, 117, 112]⟩, 0, 1, 2, 0, 0, 0⟩,
  ⟨⟨#[100, 114, 111, 112]⟩, 0, 1, 0, 0, 0, 0⟩,
  ⟨⟨#[106, 117, 109, 112]⟩, 1, 0, 0, 0, 199, 0⟩,
  ⟨⟨#[122, 101, 114, 111]⟩, 1, 1, 0, 0, 199, 0⟩,
  ⟨⟨#[114, 97, 110, 100]⟩, 0, 0, 1, 0, 0, 0⟩,
  ⟨⟨#[115, 112, 97, 119, 110]⟩, 2, 0, 0, 0, 15, 7⟩,
  ⟨⟨#[106, 111, 105, 110]⟩, 1, 0, 1, 0, 7, 0⟩,
  ⟨⟨#[114, 101, 116]⟩, 0, 1, 0, 0, 0, 0⟩,
  ⟨⟨#[116, 114, 97, 112]⟩, 1, 0, 0, 16, 255, 0⟩]
def noOp : Orow := ⟨⟨#[]⟩, 0, 0, 0, 0, 0, 0⟩
/-- The operation of a number. -/
def orow (n : Nat) : Orow := opTab.getD n noOp
def okZ (n : Int) : Bool := decide (0 ≤ n) && decide (n ≤ 16)
def rz (n : Int) : Orow := if okZ n = true then orow n.toNat else noOp
theorem opTab_get {k : Nat} (hk : k < 17) : opTab[k]? = some (orow k) := by
  unfold orow
  rw [List.getD_eq_getElem?_getD]
  have : k < opTab.length := hk
  rw [List.getElem?_eq_getElem this]
  rfl
theorem rz_in {k : Nat} (h : k < 17) : rz k = orow k := by
  unfold rz
  rw [if_pos (by simp [okZ]; omega)]
  rfl
theorem rz_out {n : Int} (h : okZ n = false) : rz n = noOp := by unfold rz; rw [if_neg (by simp [h])]
theorem okZ_cases (n : Int) : (∃ k : Nat, k < 17 ∧ n = k) ∨ okZ n = false := by
  by_cases h : okZ n = true
  · simp only [okZ, Bool.and_eq_true, decide_eq_true_eq] at h
    exact .inl ⟨n.toNat, by omega, by omega⟩
  · exact .inr (by simpa using h)

/-- Whether two texts are the same. -/
def eqS (a b : ByteArray) : Bool := decide (a = b)
theorem eqS_toList (a b : ByteArray) : (a.toList == b.toList) = eqS a b := by
  unfold eqS
  by_cases h : a = b
  · simp [h]
  · rw [decide_eq_false h]
    refine beq_eq_false_iff_ne.2 fun he => h ?_
    rw [ByteArray.toList_eq, ByteArray.toList_eq] at he
    exact ByteArray.ext (Array.toList_inj.1 he)
theorem eqS_iff {a b : ByteArray} : eqS a b = true ↔ a = b := by simp [eqS]

/-- The number of the operation of a name; 17 if there is none. -/
def idxN (s : ByteArray) : Nat := opTab.findIdx fun r => eqS r.nm s
theorem idx_le (s : ByteArray) : idxN s ≤ 17 := List.findIdx_le_length
theorem orow_get {k : Nat} (h : k < opTab.length) : opTab[k] = orow k := Option.some.inj ((List.getElem?_eq_getElem h).symm.trans (opTab_get h))
theorem idx_hit {s : ByteArray} {k : Nat} (hk : k < 17) (h : eqS (orow k).nm s = true) (hn : ∀ j, j < k → eqS (orow j).nm s = false) : idxN s = k := by
  have hl : k < opTab.length := hk
  refine (List.findIdx_eq hl).2 ⟨?_, fun j hj => ?_⟩
  · rw [orow_get hl]; exact h
  · rw [orow_get (Nat.lt_trans hj hl)]; exact hn j hj
theorem idx_miss {s : ByteArray} (hn : ∀ j, j < 17 → eqS (orow j).nm s = false) : idxN s = 17 := by
  rcases Nat.lt_or_ge (idxN s) 17 with h | h
  · have hl : opTab.findIdx (fun r => eqS r.nm s) < opTab.length := h
    have := List.findIdx_getElem (w := hl)
    rw [orow_get hl] at this
    exact absurd (hn _ h) (by simpa [idxN] using this)
  · exact Nat.le_antisymm (idx_le s) h
/-- What finding a name tells. -/
def numF (s : ByteArray) : Int := ((if idxN s < 17 then idxN s else 0 : Nat) : Int)
def isF (s : ByteArray) : Bool := decide (idxN s < 17)
theorem fnd_hit {s : ByteArray} {k : Nat} (h : idxN s = k) (hk : k < 17) : numF s = k ∧ isF s = true := by
  unfold numF isF
  rw [h, if_pos hk]
  exact ⟨rfl, decide_eq_true hk⟩
theorem fnd_miss {s : ByteArray} (h : idxN s = 17) : numF s = 0 ∧ isF s = false := by
  unfold numF isF
  rw [h]
  exact ⟨rfl, rfl⟩
theorem idx_name {s : ByteArray} (h : idxN s < 17) : (orow (idxN s)).nm = s := by
  have hl : opTab.findIdx (fun r => eqS r.nm s) < opTab.length := h
  have := List.findIdx_getElem (w := hl)
  rw [orow_get hl] at this
  exact eqS_iff.1 this

/-- An instruction. -/
abbrev iv (o a b : Int) : Value := .agg #[.int .i64 o, .int .i64 a, .int .i64 b]
/-- Whether it may be. -/
def mayZ (o a b : Int) : Bool := okZ o && (decide ((rz o).lo ≤ a) && decide (a ≤ (rz o).la)) && (decide (0 ≤ b) && decide (b ≤ (rz o).lb))

theorem f_of : ∀ k, k < 17 → (orow k).f = (if k = 0 ∨ k = 13 then 2 else if k = 1 ∨ k = 2 ∨ k = 10 ∨ k = 11 ∨ k = 14 ∨ k = 16 then 1 else 0) := by decide
theorem p_of : ∀ k, k < 17 → (orow k).p = (if k = 3 ∨ k = 4 ∨ k = 5 ∨ k = 6 then 2 else if k = 2 ∨ k = 7 ∨ k = 8 ∨ k = 9 ∨ k = 11 ∨ k = 15 then 1 else 0) := by decide
theorem q_of : ∀ k, k < 17 → (orow k).q = (if k = 8 then 2 else if k = 0 ∨ k = 1 ∨ k = 3 ∨ k = 4 ∨ k = 5 ∨ k = 6 ∨ k = 7 ∨ k = 12 ∨ k = 14 then 1 else 0) := by decide
theorem l_of : ∀ k, k < 17 → (orow k).la = (if k = 0 then 250 else if k = 1 ∨ k = 2 ∨ k = 13 then 15 else if k = 10 ∨ k = 11 then 199 else if k = 14 then 7 else if k = 16 then 255 else 0) := by decide
theorem b_of : ∀ k, k < 17 → (orow k).lb = (if k = 0 then 250 else if k = 13 then 7 else 0) := by decide
theorem o_of : ∀ k, k < 17 → (orow k).lo = (if k = 16 then 16 else 0) := by decide
theorem okZ_no {n : Int} (h : okZ n = false) : n < 0 ∨ 16 < n := by
  simp only [okZ, Bool.and_eq_false_iff, decide_eq_false_iff_not] at h
  omega

/-- A field's greatest number, as the document has it. -/
def mostZ (o j : Int) : Int := if o = 0 then 250 else if o = 1 ∨ o = 2 then 15 else if o = 10 ∨ o = 11 then 199 else if o = 13 then (if j = 1 then 7 else 15) else if o = 14 then 7 else 255
/-- What the document finds. -/
def rfnd (s : ByteArray) : Int := if isF s = true then numF s else -1
theorem rfnd_hit {s : ByteArray} {k : Nat} (h : idxN s = k) (hk : k < 17) : rfnd s = k := by
  unfold rfnd
  rw [(fnd_hit h hk).2, (fnd_hit h hk).1]
  rfl
theorem rfnd_miss {s : ByteArray} (h : idxN s = 17) : rfnd s = -1 := by
  unfold rfnd
  rw [(fnd_miss h).2]
  rfl

theorem idx_own : ∀ k, k < 17 → idxN (orow k).nm = k := by decide +kernel
theorem nm_some : ∀ k, k < 17 → ((orow k).nm.toList == []) = false := by decide +kernel
theorem none_found : numF ⟨#[]⟩ = 0 ∧ isF ⟨#[]⟩ = false := ⟨by kernel_rfl, by kernel_rfl⟩
theorem row_ok : ∀ k, k < 17 → 0 ≤ (orow k).lo ∧ ((orow k).lo = 0 ∨ (k = 16 ∧ (orow k).lo = 16)) ∧ (orow k).la ≤ 255 ∧ (orow k).lb ≤ 255 ∧ (((orow k).f = 0 ∧ (orow k).la = 0 ∧ (orow k).lb = 0) ∨ ((orow k).f = 1 ∧ (orow k).lb = 0) ∨ (orow k).f = 2) := by decide
theorem may_iff {k : Nat} (hk : k < 17) (a b : Int) : mayZ k a b = true ↔ (orow k).lo ≤ a ∧ a ≤ (orow k).la ∧ 0 ≤ b ∧ b ≤ (orow k).lb := by
  unfold mayZ
  rw [rz_in hk, show okZ (k : Int) = true by simp [okZ]; omega]
  simp [and_assoc]
theorem size_ok : ∀ k, k < 17 → 2 ≤ (orow k).nm.size ∧ (orow k).nm.size ≤ 5 ∧ (orow k).nm.data.toList.all (fun c => decide (97 ≤ c.toNat) && decide (c.toNat ≤ 122)) = true := by decide +kernel
theorem apart : ∀ k, k < 17 → ∀ j, j < 17 → k ≠ j → (orow k).nm.size ≤ (orow j).nm.size → ((orow j).nm.extract 0 (orow k).nm.size).data.toList ≠ (orow k).nm.data.toList := by decide +kernel
theorem letter {k : Nat} (hk : k < 17) (i : Nat) (hi : i < (orow k).nm.size) : 97 ≤ ((orow k).nm[i]'hi).toNat ∧ ((orow k).nm[i]'hi).toNat ≤ 122 := by
  have h := List.all_eq_true.1 (size_ok k hk).2.2 ((orow k).nm[i]'hi) (by
    have : i < (orow k).nm.data.toList.length := by simpa using hi
    exact List.mem_iff_getElem.2 ⟨i, this, by simp; rfl⟩)
  simpa using h
end Go.Proofs.YtcfdbciooimjmaaGreatDoor

/- Layer 7, plain: texts cut at a byte, and joined; numbers in digits. -/
namespace Go.Proofs.YtcfdbciooimjmaaGreatDoor
set_option linter.unusedVariables false
set_option linter.unusedSimpArgs false
open Go

/-- A text cut at each byte c. -/
def splitL (c : UInt8) : List UInt8 → List (List UInt8)
  | [] => [[]]
  | x :: r => if x = c then [] :: splitL c r else match splitL c r with
    | w :: ws => (x :: w) :: ws
    | [] => [[x]]
def joinC (c : UInt8) : List (List UInt8) → List UInt8
  | [] => []
  | [w] => w
  | w :: v :: ws => w ++ c :: joinC c (v :: ws)
theorem splitL_ne (c : UInt8) (l : List UInt8) : splitL c l ≠ [] := by
  induction l with
  | nil => simp [splitL]
  | cons x r ih =>
    unfold splitL
    split
    · simp
    · cases h : splitL c r with
      | nil => exact absurd h ih
      | cons w ws => simp
theorem joinC_cons (c x : UInt8) (w : List UInt8) (ws : List (List UInt8)) : joinC c ((x :: w) :: ws) = x :: joinC c (w :: ws) := by
  cases ws <;> simp [joinC]
theorem joinC_nil_cons (c : UInt8) (ws : List (List UInt8)) (h : ws ≠ []) : joinC c ([] :: ws) = c :: joinC c ws := by
  cases ws with
  | nil => exact absurd rfl h
  | cons w ws => simp [joinC]
theorem join_split (c : UInt8) (l : List UInt8) : joinC c (splitL c l) = l := by
  induction l with
  | nil => simp [splitL, joinC]
  | cons x r ih =>
    unfold splitL
    split
    · rename_i h
      rw [joinC_nil_cons c _ (splitL_ne c r), ih, h]
    · cases h : splitL c r with
      | nil => exact absurd h (splitL_ne c r)
      | cons w ws =>
        simp only
        rw [joinC_cons, ← h, ih]
theorem split_free (c : UInt8) (l : List UInt8) : ∀ w ∈ splitL c l, c ∉ w := by
  induction l with
  | nil => simp [splitL]
  | cons x r ih =>
    unfold splitL
    split
    · intro w hw
      rcases List.mem_cons.1 hw with rfl | hw
      · simp
      · exact ih w hw
    · rename_i hx
      cases h : splitL c r with
      | nil => exact absurd h (splitL_ne c r)
      | cons v vs =>
        rw [h] at ih
        intro w hw
        rcases List.mem_cons.1 hw with rfl | hw
        · have := ih v (by simp)
          simp [this, Ne.symm hx]
        · exact ih w (by simp [hw])
theorem split_word (c : UInt8) (w : List UInt8) (h : c ∉ w) : splitL c w = [w] := by
  induction w with
  | nil => rfl
  | cons x r ih =>
    simp only [List.mem_cons, not_or] at h
    unfold splitL
    rw [if_neg (Ne.symm h.1), ih h.2]
theorem split_app (c : UInt8) (w r : List UInt8) (h : c ∉ w) : splitL c (w ++ c :: r) = w :: splitL c r := by
  induction w with
  | nil => simp [splitL]
  | cons x w ih =>
    simp only [List.mem_cons, not_or] at h
    rw [List.cons_append]
    conv => lhs; unfold splitL
    rw [if_neg (Ne.symm h.1), ih h.2]
theorem split_join (c : UInt8) : ∀ (ws : List (List UInt8)), ws ≠ [] → (∀ w ∈ ws, c ∉ w) → splitL c (joinC c ws) = ws
  | [], h, _ => absurd rfl h
  | [w], _, h => split_word c w (h w (by simp))
  | w :: v :: ws, _, h => by
    rw [joinC, split_app c w _ (h w (by simp)), split_join c (v :: ws) (by simp) (fun x hx => h x (by simp at hx ⊢; exact .inr hx))]
/-- Lines, each with a byte c behind it. -/
def flatC (c : UInt8) (ws : List (List UInt8)) : List UInt8 := (ws.map fun w => w ++ [c]).flatten
theorem flatC_nil (c : UInt8) : flatC c [] = [] := rfl
theorem flatC_cons (c : UInt8) (w : List UInt8) (ws : List (List UInt8)) : flatC c (w :: ws) = w ++ c :: flatC c ws := by simp [flatC]
theorem flatC_app (c : UInt8) (a b : List (List UInt8)) : flatC c (a ++ b) = flatC c a ++ flatC c b := by simp [flatC]
theorem split_flat (c : UInt8) (t : List UInt8) : ∀ (ws : List (List UInt8)), (∀ w ∈ ws, c ∉ w) → splitL c (flatC c ws ++ t) = ws ++ splitL c t
  | [], _ => by simp [flatC]
  | w :: ws, h => by
    rw [flatC_cons, List.append_assoc, List.cons_append, split_app c w _ (h w (by simp)), split_flat c t ws (fun x hx => h x (by simp [hx]))]
    rfl
theorem join_flat (c : UInt8) (t : List UInt8) : ∀ (ws : List (List UInt8)), joinC c (ws ++ [t]) = flatC c ws ++ t
  | [] => by simp [flatC, joinC]
  | w :: ws => by
    rw [flatC_cons, List.cons_append]
    cases h : ws ++ [t] with
    | nil => simp at h
    | cons v vs =>
      rw [joinC, ← h, join_flat c t ws]
      simp

/-- The number that digits are. -/
def valD (w : List UInt8) : Int := w.foldl (fun n c => 10 * n + c.toNat - 48) 0
theorem decd_lt {n : Nat} (h : n < 10) : Lib.decDigits n = [UInt8.ofNat (48 + n % 10)] := by rw [Lib.decDigits, dif_pos h, Nat.mod_eq_of_lt h]
theorem decd_ge {n : Nat} (h : ¬ n < 10) : Lib.decDigits n = Lib.decDigits (n / 10) ++ [UInt8.ofNat (48 + n % 10)] := by rw [Lib.decDigits, dif_neg h]
theorem digit_val (n : Nat) : (UInt8.ofNat (48 + n % 10)).toNat = 48 + n % 10 := by rw [UInt8.toNat_ofNat']; omega
theorem valD_dec (n : Nat) : valD (Lib.decDigits n) = n := by
  induction n using Nat.strongRecOn with
  | _ n ih =>
    by_cases h : n < 10
    · rw [decd_lt h]
      simp only [valD, List.foldl_cons, List.foldl_nil, digit_val]
      omega
    · have := ih (n / 10) (by omega)
      rw [decd_ge h]
      unfold valD at *
      rw [List.foldl_append, this]
      simp only [List.foldl_cons, List.foldl_nil, digit_val]
      omega
theorem dec_digits (n : Nat) : ∀ c ∈ Lib.decDigits n, 48 ≤ c.toNat ∧ c.toNat ≤ 57 := by
  induction n using Nat.strongRecOn with
  | _ n ih =>
    by_cases h : n < 10
    · rw [decd_lt h]
      intro c hc
      simp only [List.mem_singleton] at hc
      subst hc
      rw [digit_val]
      omega
    · rw [decd_ge h]
      intro c hc
      rcases List.mem_append.1 hc with hc | hc
      · exact ih (n / 10) (by omega) c hc
      · simp only [List.mem_singleton] at hc
        subst hc
        rw [digit_val]
        omega
theorem dec_pos (n : Nat) : 1 ≤ (Lib.decDigits n).length := by
  by_cases h : n < 10
  · rw [decd_lt h]; simp
  · rw [decd_ge h]; simp
theorem dec_len3 {n : Nat} (h : n < 1000) : (Lib.decDigits n).length ≤ 3 := by
  by_cases h1 : n < 10
  · rw [decd_lt h1]; simp
  · rw [decd_ge h1]
    by_cases h2 : n / 10 < 10
    · rw [decd_lt h2]; simp
    · rw [decd_ge h2, decd_lt (show n / 10 / 10 < 10 by omega)]; simp
theorem dec_inj {m n : Nat} (h : Lib.decDigits m = Lib.decDigits n) : m = n := by
  have h1 := valD_dec m
  rw [h, valD_dec n] at h1
  omega

/-- A number as its digits. -/
def dgI (n : Int) : List UInt8 := Lib.decDigits n.toNat
/-- The number that a word is; -1: none. -/
def numV (w : List UInt8) : Int := if w.length ≤ 3 ∧ 0 ≤ valD w ∧ dgI (valD w) = w then valD w else -1
theorem numV_dg {n : Int} (h0 : 0 ≤ n) (h1 : n < 1000) : numV (dgI n) = n := by
  have hv : valD (dgI n) = n := by unfold dgI; rw [valD_dec]; omega
  unfold numV
  rw [hv, if_pos ⟨dec_len3 (by omega), h0, rfl⟩]
theorem numV_of {w : List UInt8} (h : 0 ≤ numV w) : dgI (numV w) = w ∧ numV w = valD w ∧ w.length ≤ 3 := by
  unfold numV at *
  split at h
  · rename_i hc
    rw [if_pos hc]
    exact ⟨hc.2.2, rfl, hc.1⟩
  · omega
theorem dgI_inj {m n : Int} (hm : 0 ≤ m) (hn : 0 ≤ n) (h : dgI m = dgI n) : m = n := by
  have := dec_inj h
  omega
theorem dgI_free {c : UInt8} (hc : c.toNat < 48) (n : Int) : c ∉ dgI n := fun h => by
  have := (dec_digits _ c h).1
  omega
end Go.Proofs.YtcfdbciooimjmaaGreatDoor

/- Layer 7, plain: programs, their lines, and their texts. -/
namespace Go.Proofs.YtcfdbciooimjmaaGreatDoor
set_option linter.unusedVariables false
set_option linter.unusedSimpArgs false
open Go

/-- A function of a program: its head, and its instructions. -/
structure Fun where
  ar : Int
  lo : Int
  sl : Int
  code : List (Int × Int × Int)
/-- A line of a program's text. -/
inductive PLine where
  | head (a l s : Int)
  | ins (o a b : Int)
def headB (a l s : Int) : Bool := decide (0 ≤ a) && decide (a ≤ 16) && (decide (0 ≤ l) && decide (l ≤ 16)) && (decide (0 ≤ s) && decide (s ≤ 8))
theorem headB_iff (a l s : Int) : headB a l s = true ↔ (0 ≤ a ∧ a ≤ 16) ∧ (0 ≤ l ∧ l ≤ 16) ∧ 0 ≤ s ∧ s ≤ 8 := by
  simp [headB, and_assoc]
def okL : PLine → Bool
  | .head a l s => headB a l s
  | .ins o a b => mayZ o a b
/-- 'func'. -/
def funcW : List UInt8 := [102, 117, 110, 99]
def nmL (o : Int) : List UInt8 := (rz o).nm.data.toList
def wordsL : PLine → List (List UInt8)
  | .head a l s => [funcW, dgI a, dgI l, dgI s]
  | .ins o a b => nmL o :: (if (rz o).f < 1 then [] else if (rz o).f < 2 then [dgI a] else [dgI a, dgI b])
def lineT (x : PLine) : List UInt8 := joinC 32 (wordsL x)

theorem name_fix : ∀ k, k < 17 → (32 : UInt8) ∉ (orow k).nm.data.toList ∧ (10 : UInt8) ∉ (orow k).nm.data.toList ∧ (orow k).nm.data.toList ≠ funcW := by decide +kernel
theorem nmL_in {k : Nat} (hk : k < 17) : nmL k = (orow k).nm.data.toList := by unfold nmL; rw [rz_in hk]
theorem may_in {o a b : Int} (h : mayZ o a b = true) : ∃ k : Nat, k < 17 ∧ o = k := by
  rcases okZ_cases o with h1 | h1
  · exact h1
  · unfold mayZ at h
    rw [h1] at h
    cases h
theorem wordsL_free {x : PLine} (h : okL x = true) (c : UInt8) (hc : c = 32 ∨ c = 10) : ∀ w ∈ wordsL x, c ∉ w := by
  have hd : ∀ n, c ∉ dgI n := fun n => dgI_free (by rcases hc with rfl | rfl <;> decide) n
  cases x with
  | head a l s =>
    intro w hw
    simp only [wordsL, List.mem_cons, List.not_mem_nil, or_false] at hw
    rcases hw with rfl | rfl | rfl | rfl
    · rcases hc with rfl | rfl <;> decide
    · exact hd _
    · exact hd _
    · exact hd _
  | ins o a b =>
    obtain ⟨k, hk, rfl⟩ := may_in h
    intro w hw
    simp only [wordsL, List.mem_cons] at hw
    rcases hw with rfl | hw
    · rw [nmL_in hk]
      rcases hc with rfl | rfl
      · exact (name_fix k hk).1
      · exact (name_fix k hk).2.1
    · split at hw
      · simp at hw
      · split at hw
        · simp only [List.mem_cons, List.not_mem_nil, or_false] at hw
          subst hw
          exact hd _
        · simp only [List.mem_cons, List.not_mem_nil, or_false] at hw
          rcases hw with rfl | rfl
          · exact hd _
          · exact hd _
theorem wordsL_ne (x : PLine) : wordsL x ≠ [] := by cases x <;> simp [wordsL]
theorem split_line {x : PLine} (h : okL x = true) : splitL 32 (lineT x) = wordsL x := split_join 32 _ (wordsL_ne x) (wordsL_free h 32 (.inl rfl))
theorem joinC_free {c d : UInt8} (hcd : c ≠ d) : ∀ (ws : List (List UInt8)), (∀ w ∈ ws, d ∉ w) → d ∉ joinC c ws
  | [], _ => by simp [joinC]
  | [w], h => by simpa [joinC] using h w (by simp)
  | w :: v :: ws, h => by
    rw [joinC, List.mem_append, List.mem_cons]
    rintro (h1 | h1 | h1)
    · exact h w (by simp) h1
    · exact hcd h1.symm
    · exact joinC_free hcd (v :: ws) (fun x hx => h x (by simp at hx ⊢; exact .inr hx)) h1
theorem line_free {x : PLine} (h : okL x = true) : (10 : UInt8) ∉ lineT x := joinC_free (by decide) _ (wordsL_free h 10 (.inr rfl))

/-- The numbers of words; none: one is no number, or there are more than three. -/
def numsW (ws : List (List UInt8)) : Option (List Int) := if ws.length ≤ 3 ∧ ∀ w ∈ ws, 0 ≤ numV w then some (ws.map numV) else none
/-- The line that a text is. -/
def lineOf (l : List UInt8) : Option PLine :=
  match splitL 32 l with
  | [] => none
  | w :: ws => match numsW ws with
    | none => none
    | some ns =>
      if w = funcW then (if ns.length = 3 ∧ headB (ns.getD 0 0) (ns.getD 1 0) (ns.getD 2 0) = true then some (.head (ns.getD 0 0) (ns.getD 1 0) (ns.getD 2 0)) else none)
      else if mayZ (rfnd ⟨w.toArray⟩) (ns.getD 0 0) (ns.getD 1 0) = true ∧ (ns.length : Int) = (rz (rfnd ⟨w.toArray⟩)).f then some (.ins (rfnd ⟨w.toArray⟩) (ns.getD 0 0) (ns.getD 1 0)) else none

theorem bytes_eta (l : List UInt8) : (⟨l.toArray⟩ : ByteArray).data.toList = l := by simp
theorem bytes_ext {a b : ByteArray} (h : a.data.toList = b.data.toList) : a = b := ByteArray.ext (Array.toList_inj.1 h)
theorem rfnd_name {k : Nat} (hk : k < 17) : rfnd ⟨(nmL k).toArray⟩ = k := by
  have h : (⟨(nmL k).toArray⟩ : ByteArray) = (orow k).nm := bytes_ext (by rw [bytes_eta, nmL_in hk])
  rw [h]
  exact rfnd_hit (idx_own k hk) hk
theorem rfnd_of {s : ByteArray} (h : okZ (rfnd s) = true) : ∃ k : Nat, k < 17 ∧ rfnd s = k ∧ s.data.toList = nmL k := by
  by_cases hi : idxN s < 17
  · refine ⟨idxN s, hi, rfnd_hit rfl hi, ?_⟩
    rw [nmL_in hi, idx_name hi]
  · have he : idxN s = 17 := by have := idx_le s; omega
    rw [rfnd_miss he] at h
    exact absurd h (by decide)
theorem numsW_dg (ns : List Int) (hl : ns.length ≤ 3) (h : ∀ n ∈ ns, 0 ≤ n ∧ n < 1000) : numsW (ns.map dgI) = some ns := by
  have e : ∀ n ∈ ns, numV (dgI n) = n := fun n hn => numV_dg (h n hn).1 (h n hn).2
  unfold numsW
  rw [if_pos]
  · congr 1
    rw [List.map_map]
    conv => rhs; rw [← List.map_id ns]
    exact List.map_congr_left fun n hn => e n hn
  · refine ⟨by simpa using hl, fun w hw => ?_⟩
    obtain ⟨n, hn, rfl⟩ := List.mem_map.1 hw
    rw [e n hn]
    exact (h n hn).1
theorem numsW_of {ws : List (List UInt8)} {ns : List Int} (h : numsW ws = some ns) : ns.length ≤ 3 ∧ ws = ns.map dgI ∧ ∀ n ∈ ns, 0 ≤ n := by
  unfold numsW at h
  split at h
  · rename_i hc
    simp only [Option.some.injEq] at h
    subst h
    refine ⟨by simpa using hc.1, ?_, fun n hn => ?_⟩
    · rw [List.map_map]
      conv => lhs; rw [← List.map_id ws]
      exact List.map_congr_left fun w hw => (numV_of (hc.2 w hw)).1.symm
    · obtain ⟨w, hw, rfl⟩ := List.mem_map.1 hn
      exact hc.2 w hw
  · cases h

theorem row_bounds {o a b : Int} (h : mayZ o a b = true) : (0 ≤ a ∧ a < 1000) ∧ (0 ≤ b ∧ b < 1000) ∧ ((rz o).f < 1 → a = 0) ∧ ((rz o).f < 2 → b = 0) ∧ 0 ≤ (rz o).f ∧ (rz o).f ≤ 2 := by
  obtain ⟨k, hk, rfl⟩ := may_in h
  obtain ⟨h1, h2, h3, h4⟩ := (may_iff hk a b).1 h
  obtain ⟨r1, r2, r3, r4, r5⟩ := row_ok k hk
  rw [rz_in hk]
  refine ⟨by omega, by omega, fun hf => ?_, fun hf => ?_, by omega, by omega⟩
  · omega
  · omega

/-- A text is a line's just if it is that line's text. -/
theorem lineOf_line {x : PLine} (h : okL x = true) : lineOf (lineT x) = some x := by
  unfold lineOf
  rw [split_line h]
  cases x with
  | head a l s =>
    obtain ⟨⟨a0, a1⟩, ⟨l0, l1⟩, s0, s1⟩ := (headB_iff a l s).1 h
    have hn : numsW [dgI a, dgI l, dgI s] = some [a, l, s] := numsW_dg [a, l, s] (by simp) (by
      intro n hn
      simp only [List.mem_cons, List.not_mem_nil, or_false] at hn
      rcases hn with rfl | rfl | rfl <;> omega)
    simp only [wordsL, hn, if_true]
    rw [if_pos ⟨rfl, h⟩]
    rfl
  | ins o a b =>
    obtain ⟨⟨a0, a1⟩, ⟨b0, b1⟩, fa, fb, f0, f2⟩ := row_bounds h
    obtain ⟨k, hk, rfl⟩ := may_in h
    have hw : nmL k ≠ funcW := by rw [nmL_in hk]; exact (name_fix k hk).2.2
    by_cases hf1 : (rz (k : Int)).f < 1
    · obtain rfl := fa hf1
      obtain rfl := fb (by omega)
      have hn : numsW [] = some [] := numsW_dg [] (by simp) (by simp)
      simp only [wordsL, hf1, if_true, hn]
      rw [if_neg hw, rfnd_name hk, if_pos ⟨h, by simp; omega⟩]
      rfl
    · by_cases hf2 : (rz (k : Int)).f < 2
      · obtain rfl := fb hf2
        have hn : numsW [dgI a] = some [a] := numsW_dg [a] (by simp) (by simp; omega)
        simp only [wordsL, hf1, hf2, if_true, if_false, hn]
        rw [if_neg hw, rfnd_name hk, if_pos ⟨h, by simp; omega⟩]
        rfl
      · have hn : numsW [dgI a, dgI b] = some [a, b] := numsW_dg [a, b] (by simp) (by simp; omega)
        simp only [wordsL, hf1, hf2, if_false, hn]
        rw [if_neg hw, rfnd_name hk, if_pos ⟨h, by simp; omega⟩]
        rfl
theorem lineOf_of {l : List UInt8} {x : PLine} (h : lineOf l = some x) : okL x = true ∧ lineT x = l := by
  have hj := join_split 32 l
  unfold lineOf at h
  split at h
  · cases h
  · rename_i w ws hs
    rw [hs] at hj
    split at h
    · cases h
    · rename_i ns hn
      obtain ⟨hl, rfl, hp⟩ := numsW_of hn
      split at h
      · rename_i hw
        split at h
        · rename_i hc
          simp only [Option.some.injEq] at h
          subst h
          refine ⟨hc.2, ?_⟩
          match ns, hc with
          | [a, l, s], hc => subst hw; exact hj
        · cases h
      · rename_i hw
        split at h
        · rename_i hc
          simp only [Option.some.injEq] at h
          subst h
          refine ⟨hc.1, ?_⟩
          obtain ⟨k, hk, he⟩ := may_in hc.1
          obtain ⟨j, hj2, he2, hb⟩ := rfnd_of (s := ⟨w.toArray⟩) (by rw [he]; simp [okZ]; omega)
          rw [bytes_eta] at hb
          rw [he2] at hc ⊢
          rw [← hj, hb]
          unfold lineT
          congr 1
          match ns, hc with
          | [], hc => simp only [wordsL]; rw [if_pos (by have := hc.2; simp at this; omega)]; rfl
          | [a], hc => simp only [wordsL]; have := hc.2; simp at this; rw [if_neg (by omega), if_pos (by omega)]; rfl
          | [a, b], hc => simp only [wordsL]; have := hc.2; simp at this; rw [if_neg (by omega), if_neg (by omega)]; rfl
          | [a, b, c], hc =>
            have h1 := hc.2
            have := (row_bounds hc.1).2.2.2.2.2
            simp at h1
            omega
        · cases h
theorem lineOf_iff {l : List UInt8} {x : PLine} : lineOf l = some x ↔ okL x = true ∧ lineT x = l :=
  ⟨lineOf_of, fun ⟨h, e⟩ => by rw [← e]; exact lineOf_line h⟩
theorem lineT_inj {x y : PLine} (hx : okL x = true) (hy : okL y = true) (h : lineT x = lineT y) : x = y := by
  have h1 := lineOf_line hx
  rw [h, lineOf_line hy] at h1
  exact (Option.some.inj h1).symm
end Go.Proofs.YtcfdbciooimjmaaGreatDoor

/- Layer 7, plain: programs read of their texts. -/
namespace Go.Proofs.YtcfdbciooimjmaaGreatDoor
set_option linter.unusedVariables false
set_option linter.unusedSimpArgs false
open Go

def linesF (f : Fun) : List PLine := .head f.ar f.lo f.sl :: f.code.map fun x => .ins x.1 x.2.1 x.2.2
def linesP (p : List Fun) : List PLine := (p.map linesF).flatten
/-- May a function be? -/
def mayF (f : Fun) : Bool := headB f.ar f.lo f.sl && (decide (1 ≤ f.code.length) && decide (f.code.length ≤ 200)) && f.code.all fun x => mayZ x.1 x.2.1 x.2.2
def mayP (p : List Fun) : Bool := decide (1 ≤ p.length) && decide (p.length ≤ 16) && p.all mayF
def textP (p : List Fun) : List UInt8 := if mayP p = true then flatC 10 ((linesP p).map lineT) else []
/-- May a program's next function be laid? -/
def openR (p : List Fun) : Bool := match p.getLast? with
  | some f => !f.code.isEmpty
  | none => true
/-- A program, and a line more. -/
def layH (p : List Fun) (a l s : Int) : Option (List Fun) := if openR p = true ∧ p.length ≠ 16 then some (p ++ [⟨a, l, s, []⟩]) else none
def layI (p : List Fun) (o a b : Int) : Option (List Fun) := match p.getLast? with
  | none => none
  | some f => if f.code.length = 200 then none else some (p.dropLast ++ [⟨f.ar, f.lo, f.sl, f.code ++ [(o, a, b)]⟩])
def layL (p : List Fun) : PLine → Option (List Fun)
  | .head a l s => layH p a l s
  | .ins o a b => layI p o a b
/-- Lines, one behind the other: what was laid, how many were, whether all were. -/
def runL : List Fun → List (List UInt8) → List Fun × Nat × Bool
  | p, [] => (p, 0, true)
  | p, l :: ls => match (lineOf l).bind (layL p) with
    | none => (p, 0, false)
    | some q => ((runL q ls).1, (runL q ls).2.1 + 1, (runL q ls).2.2)
def parseP (s : List UInt8) : List Fun × Nat × Int :=
  let L := splitL 10 s
  let r := runL [] L.dropLast
  if r.2.2 = true ∧ L.getLast? = some [] ∧ mayP r.1 = true then (r.1, r.2.1, 0) else ([], r.2.1, 70)

theorem linesP_nil : linesP [] = [] := rfl
theorem linesP_cons (f : Fun) (p : List Fun) : linesP (f :: p) = linesF f ++ linesP p := by simp [linesP]
theorem linesP_app (p q : List Fun) : linesP (p ++ q) = linesP p ++ linesP q := by simp [linesP]
theorem linesP_len (p : List Fun) : (linesP p).length = p.length + (p.map fun f => f.code.length).sum := by
  induction p with
  | nil => rfl
  | cons f p ih => rw [linesP_cons, List.length_append, ih]; simp [linesF]; omega
theorem mayF_iff (f : Fun) : mayF f = true ↔ headB f.ar f.lo f.sl = true ∧ 1 ≤ f.code.length ∧ f.code.length ≤ 200 ∧ ∀ x ∈ f.code, mayZ x.1 x.2.1 x.2.2 = true := by
  simp [mayF, and_assoc]
theorem mayP_iff (p : List Fun) : mayP p = true ↔ 1 ≤ p.length ∧ p.length ≤ 16 ∧ ∀ f ∈ p, mayF f = true := by
  simp [mayP, and_assoc]
theorem linesF_ok {f : Fun} (h : mayF f = true) : ∀ x ∈ linesF f, okL x = true := by
  obtain ⟨h1, _, _, h4⟩ := (mayF_iff f).1 h
  intro x hx
  rcases List.mem_cons.1 hx with rfl | hx
  · exact h1
  · obtain ⟨y, hy, rfl⟩ := List.mem_map.1 hx
    exact h4 y hy
theorem linesP_ok {p : List Fun} (h : ∀ f ∈ p, mayF f = true) : ∀ x ∈ linesP p, okL x = true := by
  intro x hx
  obtain ⟨l, hl, hx⟩ := List.mem_flatten.1 hx
  obtain ⟨f, hf, rfl⟩ := List.mem_map.1 hl
  exact linesF_ok (h f hf) x hx
theorem texts_free {xs : List PLine} (h : ∀ x ∈ xs, okL x = true) : ∀ w ∈ xs.map lineT, (10 : UInt8) ∉ w := by
  intro w hw
  obtain ⟨x, hx, rfl⟩ := List.mem_map.1 hw
  exact line_free (h x hx)

theorem runL_nil (p : List Fun) : runL p [] = (p, 0, true) := rfl
theorem runL_some {p q : List Fun} {l : List UInt8} (ls : List (List UInt8)) (h : (lineOf l).bind (layL p) = some q) : runL p (l :: ls) = ((runL q ls).1, (runL q ls).2.1 + 1, (runL q ls).2.2) := by
  rw [runL, h]
theorem runL_none {p : List Fun} {l : List UInt8} (ls : List (List UInt8)) (h : (lineOf l).bind (layL p) = none) : runL p (l :: ls) = (p, 0, false) := by
  rw [runL, h]
theorem runL_app : ∀ (a b : List (List UInt8)) (p : List Fun), (runL p a).2.2 = true → runL p (a ++ b) = ((runL (runL p a).1 b).1, (runL p a).2.1 + (runL (runL p a).1 b).2.1, (runL (runL p a).1 b).2.2)
  | [], b, p, _ => by simp [runL_nil]
  | l :: a, b, p, h => by
    cases hq : (lineOf l).bind (layL p) with
    | none => rw [runL_none a hq] at h; cases h
    | some q =>
      rw [runL_some a hq] at h
      rw [List.cons_append, runL_some _ hq, runL_some _ hq, runL_app a b q h]
      simp only
      congr 2
      omega
theorem runL_bad : ∀ (a b : List (List UInt8)) (p : List Fun), (runL p a).2.2 = false → runL p (a ++ b) = runL p a
  | [], b, p, h => by simp [runL_nil] at h
  | l :: a, b, p, h => by
    cases hq : (lineOf l).bind (layL p) with
    | none => rw [List.cons_append, runL_none _ hq, runL_none _ hq]
    | some q =>
      rw [runL_some a hq] at h
      rw [List.cons_append, runL_some _ hq, runL_some _ hq, runL_bad a b q h]
theorem runL_count : ∀ (a : List (List UInt8)) (p : List Fun), (runL p a).2.2 = true → (runL p a).2.1 = a.length
  | [], p, _ => rfl
  | l :: a, p, h => by
    cases hq : (lineOf l).bind (layL p) with
    | none => rw [runL_none a hq] at h; cases h
    | some q =>
      rw [runL_some a hq] at h ⊢
      simp only [runL_count a q h, List.length_cons]
theorem getLast_split {α : Type} {p : List α} {f : α} (h : p.getLast? = some f) : p = p.dropLast ++ [f] := by
  have hne : p ≠ [] := by intro e; rw [e] at h; simp at h
  rw [List.getLast?_eq_some_getLast hne] at h
  simp only [Option.some.injEq] at h
  rw [← h]
  exact (List.dropLast_concat_getLast hne).symm
/-- What is laid has just these lines. -/
theorem lay_lines {p q : List Fun} {x : PLine} (h : layL p x = some q) : linesP q = linesP p ++ [x] := by
  cases x with
  | head a l s =>
    have h' : layH p a l s = some q := h
    unfold layH at h'
    split at h'
    · simp only [Option.some.injEq] at h'
      subst h'
      rw [linesP_app]
      rfl
    · cases h'
  | ins o a b =>
    have h' : layI p o a b = some q := h
    unfold layI at h'
    split at h'
    · cases h'
    · rename_i f hf
      split at h'
      · cases h'
      · simp only [Option.some.injEq] at h'
        subst h'
        have hs := getLast_split hf
        conv => rhs; rw [hs]
        rw [linesP_app, linesP_app]
        simp [linesP, linesF]
theorem run_lines : ∀ (ls : List (List UInt8)) (p : List Fun), (runL p ls).2.2 = true → (linesP (runL p ls).1).map lineT = (linesP p).map lineT ++ ls
  | [], p, _ => by simp [runL_nil]
  | l :: ls, p, h => by
    cases hq : (lineOf l).bind (layL p) with
    | none => rw [runL_none ls hq] at h; cases h
    | some q =>
      rw [runL_some ls hq] at h ⊢
      simp only
      rw [run_lines ls q h]
      cases hl : lineOf l with
      | none => rw [hl] at hq; cases hq
      | some x =>
        rw [hl] at hq
        rw [lay_lines (show layL p x = some q from hq)]
        rw [List.map_append, List.append_assoc]
        congr 1
        simp [(lineOf_of hl).2]

theorem text_eq {p : List Fun} (h : mayP p = true) : textP p = flatC 10 ((linesP p).map lineT) := by unfold textP; rw [if_pos h]
/-- A text that is read is the program's own. -/
theorem text_parse {s : List UInt8} (h : (parseP s).2.2 = 0) : mayP (parseP s).1 = true ∧ textP (parseP s).1 = s := by
  have hj := join_split 10 s
  unfold parseP at *
  simp only at *
  split at h
  · rename_i hc
    rw [if_pos hc]
    refine ⟨hc.2.2, ?_⟩
    rw [text_eq hc.2.2, run_lines _ _ hc.1]
    have hs := getLast_split hc.2.1
    rw [hs, join_flat] at hj
    simpa [linesP_nil] using hj
  · simp at h
theorem parse_none {s : List UInt8} (h : (parseP s).2.2 ≠ 0) : (parseP s).1 = [] ∧ (parseP s).2.2 = 70 := by
  unfold parseP at *
  simp only at *
  split at h
  · simp at h
  · rename_i hc
    rw [if_neg hc]
    exact ⟨rfl, rfl⟩
theorem parse_err (s : List UInt8) : (parseP s).2.2 = 0 ∨ (parseP s).2.2 = 70 := by
  by_cases h : (parseP s).2.2 = 0
  · exact .inl h
  · exact .inr (parse_none h).2

theorem lay_head {r : List Fun} (hr : openR r = true) (hl : r.length < 16) (a l s : Int) : layL r (.head a l s) = some (r ++ [⟨a, l, s, []⟩]) := by
  show layH r a l s = _
  unfold layH
  rw [if_pos ⟨hr, by omega⟩]
theorem lay_full {r : List Fun} (hl : r.length = 16) (a l s : Int) : layL r (.head a l s) = none := by
  show layH r a l s = _
  unfold layH
  rw [if_neg (fun h => h.2 hl)]
theorem lay_ins (r : List Fun) (f : Fun) (hc : f.code.length < 200) (o a b : Int) : layL (r ++ [f]) (.ins o a b) = some (r ++ [⟨f.ar, f.lo, f.sl, f.code ++ [(o, a, b)]⟩]) := by
  show layI (r ++ [f]) o a b = _
  unfold layI
  simp only [List.getLast?_append, List.getLast?_singleton, Option.some_or, List.dropLast_concat]
  rw [if_neg (by omega)]
theorem run_code (r : List Fun) : ∀ (xs : List (Int × Int × Int)) (a l s : Int) (c : List (Int × Int × Int)), (∀ x ∈ xs, mayZ x.1 x.2.1 x.2.2 = true) → c.length + xs.length ≤ 200 →
    runL (r ++ [⟨a, l, s, c⟩]) (xs.map fun x => lineT (.ins x.1 x.2.1 x.2.2)) = (r ++ [⟨a, l, s, c ++ xs⟩], xs.length, true)
  | [], a, l, s, c, _, _ => by simp [runL_nil]
  | x :: xs, a, l, s, c, h, hl => by
    have hx := h x (by simp)
    have h1 : (lineOf (lineT (.ins x.1 x.2.1 x.2.2))).bind (layL (r ++ [⟨a, l, s, c⟩])) = some (r ++ [⟨a, l, s, c ++ [x]⟩]) := by
      rw [lineOf_line (x := .ins x.1 x.2.1 x.2.2) hx]
      exact lay_ins r _ (by simp at hl ⊢; omega) _ _ _
    rw [List.map_cons, runL_some _ h1, run_code r xs a l s (c ++ [x]) (fun y hy => h y (by simp [hy])) (by simp at hl ⊢; omega)]
    simp
theorem run_fun {r : List Fun} (hr : openR r = true) (hl : r.length < 16) {f : Fun} (hf : mayF f = true) : runL r ((linesF f).map lineT) = (r ++ [f], (linesF f).length, true) := by
  obtain ⟨h1, h2, h3, h4⟩ := (mayF_iff f).1 hf
  have hh : (lineOf (lineT (.head f.ar f.lo f.sl))).bind (layL r) = some (r ++ [⟨f.ar, f.lo, f.sl, []⟩]) := by
    rw [lineOf_line (x := .head f.ar f.lo f.sl) h1]
    exact lay_head hr hl _ _ _
  unfold linesF
  rw [List.map_cons, runL_some _ hh, List.map_map]
  have := run_code r f.code f.ar f.lo f.sl [] h4 (by simpa using h3)
  simp only [Function.comp_def]
  rw [this]
  simp
theorem openB_snoc (r : List Fun) {f : Fun} (h : mayF f = true) : openR (r ++ [f]) = true := by
  have := ((mayF_iff f).1 h).2.1
  unfold openR
  simp only [List.getLast?_append, List.getLast?_singleton, Option.some_or]
  cases hc : f.code with
  | nil => rw [hc] at this; simp at this
  | cons x xs => rfl
theorem run_prog : ∀ (p r : List Fun), openR r = true → r.length + p.length ≤ 16 → (∀ f ∈ p, mayF f = true) → runL r ((linesP p).map lineT) = (r ++ p, (linesP p).length, true)
  | [], r, _, _, _ => by simp [linesP_nil, runL_nil]
  | f :: p, r, hr, hl, h => by
    have hf := h f (by simp)
    have h1 := run_fun hr (by simp at hl; omega) hf
    rw [linesP_cons, List.map_append, runL_app _ _ _ (by rw [h1]), h1]
    simp only
    rw [run_prog p (r ++ [f]) (openB_snoc r hf) (by simp at hl ⊢; omega) (fun g hg => h g (by simp [hg]))]
    simp
/-- A function that is one too many. -/
theorem run_over : ∀ (p r : List Fun), openR r = true → r.length ≤ 16 → 16 < r.length + p.length → (∀ f ∈ p, mayF f = true) → (runL r ((linesP p).map lineT)).2.2 = false
  | [], r, _, h1, h2, _ => by simp at h2; omega
  | f :: p, r, hr, hl, ho, h => by
    have hf := h f (by simp)
    by_cases hl2 : r.length < 16
    · have h1 := run_fun hr hl2 hf
      rw [linesP_cons, List.map_append, runL_app _ _ _ (by rw [h1]), h1]
      exact run_over p (r ++ [f]) (openB_snoc r hf) (by simp; omega) (by simp at ho ⊢; omega) (fun g hg => h g (by simp [hg]))
    · have h1 : (lineOf (lineT (.head f.ar f.lo f.sl))).bind (layL r) = none := by
        rw [lineOf_line (x := .head f.ar f.lo f.sl) ((mayF_iff f).1 hf).1]
        exact lay_full (by omega) _ _ _
      rw [linesP_cons]
      unfold linesF
      rw [List.cons_append, List.map_cons, runL_none _ h1]
theorem openB_nil : openR [] = true := rfl
theorem split_texts {xs : List PLine} (h : ∀ x ∈ xs, okL x = true) : splitL 10 (flatC 10 (xs.map lineT)) = xs.map lineT ++ [[]] := by
  have := split_flat 10 [] (xs.map lineT) (texts_free h)
  rw [List.append_nil] at this
  rw [this]
  rfl
theorem parse_lines {p : List Fun} (h : mayP p = true) : parseP (flatC 10 ((linesP p).map lineT)) = (p, (linesP p).length, 0) := by
  obtain ⟨h1, h2, h3⟩ := (mayP_iff p).1 h
  unfold parseP
  simp only
  rw [split_texts (linesP_ok h3), List.dropLast_concat, run_prog p [] openB_nil (by simpa using h2) h3]
  rw [if_pos ⟨rfl, by simp, by simpa using h⟩]
  simp
/-- A program that may be is read of its text as it was. -/
theorem parse_text {p : List Fun} (h : mayP p = true) : parseP (textP p) = (p, (linesP p).length, 0) := by
  rw [text_eq h]
  exact parse_lines h
theorem textP_inj {p q : List Fun} (hp : mayP p = true) (hq : mayP q = true) (h : textP p = textP q) : p = q := by
  have h1 := parse_text hp
  rw [h, parse_text hq] at h1
  exact (Prod.mk.inj h1).1.symm
/-- The lines of two programs. -/
theorem parse_both {p q : List Fun} (hp : mayP p = true) (hq : mayP q = true) (hl : p.length + q.length ≤ 16) : parseP (textP p ++ textP q) = (p ++ q, (linesP (p ++ q)).length, 0) := by
  obtain ⟨h1, _, h3⟩ := (mayP_iff p).1 hp
  obtain ⟨g1, _, g3⟩ := (mayP_iff q).1 hq
  have hb : mayP (p ++ q) = true := (mayP_iff _).2 ⟨by simp; omega, by simpa using hl, fun f hf => (List.mem_append.1 hf).elim (h3 f) (g3 f)⟩
  rw [text_eq hp, text_eq hq, ← flatC_app, ← List.map_append, ← linesP_app]
  exact parse_lines hb
theorem parse_over {p q : List Fun} (hp : mayP p = true) (hq : mayP q = true) (hl : 16 < p.length + q.length) : (parseP (textP p ++ textP q)).1 = [] ∧ (parseP (textP p ++ textP q)).2.2 = 70 := by
  obtain ⟨h1, h2, h3⟩ := (mayP_iff p).1 hp
  obtain ⟨g1, g2, g3⟩ := (mayP_iff q).1 hq
  have hok : ∀ x ∈ linesP (p ++ q), okL x = true := linesP_ok fun f hf => (List.mem_append.1 hf).elim (h3 f) (g3 f)
  have hf := run_over (p ++ q) [] openB_nil (by simp) (by simpa using hl) (fun f hf => (List.mem_append.1 hf).elim (h3 f) (g3 f))
  rw [text_eq hp, text_eq hq, ← flatC_app, ← List.map_append, ← linesP_app]
  unfold parseP
  simp only
  rw [split_texts hok, List.dropLast_concat, hf, if_neg (by simp)]
  exact ⟨rfl, rfl⟩
end Go.Proofs.YtcfdbciooimjmaaGreatDoor

/- Layer 7, plain: a blank more in a program's text; a text without its last byte. -/
namespace Go.Proofs.YtcfdbciooimjmaaGreatDoor
set_option linter.unusedVariables false
set_option linter.unusedSimpArgs false
open Go

theorem split_glue (c : UInt8) : ∀ (a b : List UInt8), ∃ A u v B, splitL c a = A ++ [u] ∧ splitL c b = v :: B ∧ splitL c (a ++ b) = A ++ (u ++ v) :: B ∧ splitL c (a ++ c :: b) = A ++ u :: v :: B
  | [], b => by
    cases h : splitL c b with
    | nil => exact absurd h (splitL_ne c b)
    | cons v B => exact ⟨[], [], v, B, rfl, rfl, by simpa using h, by simp [splitL, h]⟩
  | x :: a, b => by
    obtain ⟨A, u, v, B, h1, h2, h3, h4⟩ := split_glue c a b
    by_cases hx : x = c
    · exact ⟨[] :: A, u, v, B, by simp [splitL, hx, h1], h2, by simp [splitL, hx, h3], by simp [splitL, hx, h4]⟩
    · cases A with
      | nil => exact ⟨[], x :: u, v, B, by simp [splitL, hx, h1], h2, by simp [splitL, hx, h3], by simp [splitL, hx, h4]⟩
      | cons w A => exact ⟨(x :: w) :: A, u, v, B, by simp [splitL, hx, h1], h2, by simp [splitL, hx, h3], by simp [splitL, hx, h4]⟩

/-- The first words of lines: 'func', and the names. -/
def firsts : List (List UInt8) := funcW :: opTab.map fun r => r.nm.data.toList
theorem firsts_apart : ∀ u ∈ firsts, ∀ v ∈ firsts, u.isPrefixOf v = true → u = v := by decide +kernel
theorem first_in {x : PLine} (h : okL x = true) : ∃ u W, wordsL x = u :: W ∧ u ∈ firsts ∧ u ≠ [] := by
  cases x with
  | head a l s => exact ⟨_, _, rfl, by simp [firsts], by decide⟩
  | ins o a b =>
    obtain ⟨k, hk, rfl⟩ := may_in h
    refine ⟨_, _, rfl, ?_, ?_⟩
    · rw [nmL_in hk]
      unfold firsts
      refine List.mem_cons_of_mem _ (List.mem_map.2 ⟨orow k, ?_, rfl⟩)
      exact List.mem_of_getElem? (opTab_get hk)
    · rw [nmL_in hk]
      intro e
      have := nm_some k hk
      rw [ByteArray.toList_eq, e] at this
      exact absurd this (by decide)
theorem first_len {x y : PLine} (hx : okL x = true) (hy : okL y = true) {u : List UInt8} {V W : List (List UInt8)} (h1 : wordsL x = u :: V) (h2 : wordsL y = u :: W) : V.length = W.length := by
  have hno : ∀ {o a b : Int}, mayZ o a b = true → nmL o ≠ funcW := fun h => by
    obtain ⟨k, hk, rfl⟩ := may_in h
    rw [nmL_in hk]
    exact (name_fix k hk).2.2
  cases x with
  | head a l s =>
    cases y with
    | head a' l' s' =>
      simp only [wordsL, List.cons.injEq] at h1 h2
      rw [← h1.2, ← h2.2]
      rfl
    | ins o b c =>
      simp only [wordsL, List.cons.injEq] at h1 h2
      exact absurd (h2.1.trans h1.1.symm) (hno hy)
  | ins o a b =>
    cases y with
    | head a' l' s' =>
      simp only [wordsL, List.cons.injEq] at h1 h2
      exact absurd (h1.1.trans h2.1.symm) (hno hx)
    | ins o' a' b' =>
      simp only [wordsL, List.cons.injEq] at h1 h2
      obtain ⟨k, hk, rfl⟩ := may_in hx
      obtain ⟨j, hj, rfl⟩ := may_in hy
      have hkj : (k : Int) = j := by
        have e := rfnd_name hk
        rw [h1.1, ← h2.1, rfnd_name hj] at e
        exact e.symm
      rw [← h1.2, ← h2.2, hkj]
      split
      · rfl
      · split <;> rfl
theorem prefix_app (a b : List UInt8) : a.isPrefixOf (a ++ b) = true := by
  rw [List.isPrefixOf_iff_prefix]
  exact List.prefix_append a b
/-- A line in which one blank more stands anywhere is none. -/
theorem blank_none {x : PLine} (h : okL x = true) {l1 l2 : List UInt8} (he : lineT x = l1 ++ l2) : lineOf (l1 ++ 32 :: l2) = none := by
  cases hy : lineOf (l1 ++ 32 :: l2) with
  | none => rfl
  | some y =>
    exfalso
    obtain ⟨hy1, hy2⟩ := lineOf_of hy
    obtain ⟨A, u, v, B, _, _, h3, h4⟩ := split_glue 32 l1 l2
    rw [← he, split_line h] at h3
    rw [← hy2, split_line hy1] at h4
    cases A with
    | cons w A =>
      have := first_len h hy1 (by simpa using h3) (by simpa using h4)
      simp at this
    | nil =>
      obtain ⟨p, P, e1, m1, _⟩ := first_in h
      obtain ⟨q, Q, e2, m2, _⟩ := first_in hy1
      simp only [List.nil_append] at h3 h4
      obtain ⟨rfl, rfl⟩ := List.cons.inj (h3.symm.trans e1)
      obtain ⟨rfl, rfl⟩ := List.cons.inj (h4.symm.trans e2)
      have hu := firsts_apart _ m2 _ m1 (prefix_app u v)
      have := first_len h hy1 h3 (by rw [h4, ← hu])
      simp at this
theorem line_ne {x : PLine} (h : okL x = true) : lineT x ≠ [] := by
  intro e
  obtain ⟨u, W, h1, _, h2⟩ := first_in h
  have := split_line h
  rw [e, h1] at this
  simp only [splitL, List.cons.injEq] at this
  exact h2 this.1.symm

/-- Where a place in lines stands. -/
theorem flat_at (c : UInt8) : ∀ (ws : List (List UInt8)) (k : Nat), (∀ w ∈ ws, c ∉ w) → k ≤ (flatC c ws).length →
    ((flatC c ws).take k).count c ≤ ws.length ∧ ((k = (flatC c ws).length ∧ ((flatC c ws).take k).count c = ws.length) ∨ ∃ pre l1 l2 post, ws = pre ++ (l1 ++ l2) :: post ∧ (flatC c ws).take k = flatC c pre ++ l1 ∧ (flatC c ws).drop k = l2 ++ c :: flatC c post ∧ ((flatC c ws).take k).count c = pre.length)
  | [], k, _, hk => by
    have hk0 : k = 0 := by simpa [flatC] using hk
    subst hk0
    exact ⟨by simp, .inl ⟨by simp [flatC], by simp⟩⟩
  | w :: ws, k, h, hk => by
    have hw := h w (by simp)
    rw [flatC_cons] at *
    by_cases h1 : k ≤ w.length
    · have e1 : (w ++ c :: flatC c ws).take k = w.take k := by rw [List.take_append_of_le_length h1]
      have e2 : (w ++ c :: flatC c ws).drop k = w.drop k ++ c :: flatC c ws := by rw [List.drop_append_of_le_length h1]
      have hc : (w.take k).count c = 0 := List.count_eq_zero.2 fun hm => hw (List.mem_of_mem_take hm)
      rw [e1, e2, hc]
      exact ⟨by simp, .inr ⟨[], w.take k, w.drop k, ws, by simp, by simp [flatC], rfl, rfl⟩⟩
    · obtain ⟨j, rfl⟩ : ∃ j, k = w.length + 1 + j := ⟨k - (w.length + 1), by omega⟩
      have hj : j ≤ (flatC c ws).length := by simp at hk; omega
      obtain ⟨i1, i2⟩ := flat_at c ws j (fun x hx => h x (by simp [hx])) hj
      have e0 : w ++ c :: flatC c ws = (w ++ [c]) ++ flatC c ws := by simp
      have e1 : (w ++ c :: flatC c ws).take (w.length + 1 + j) = w ++ c :: (flatC c ws).take j := by
        rw [e0, show w.length + 1 + j = (w ++ [c]).length + j by simp, List.take_length_add_append]
        simp
      have e2 : (w ++ c :: flatC c ws).drop (w.length + 1 + j) = (flatC c ws).drop j := by
        rw [e0, show w.length + 1 + j = (w ++ [c]).length + j by simp, List.drop_length_add_append]
      have hc : (w ++ c :: (flatC c ws).take j).count c = 1 + ((flatC c ws).take j).count c := by
        rw [List.count_append, List.count_eq_zero.2 hw, List.count_cons_self]
        omega
      rw [e1, e2, hc]
      refine ⟨by simp; omega, ?_⟩
      rcases i2 with ⟨a1, a2⟩ | ⟨pre, l1, l2, post, b1, b2, b3, b4⟩
      · exact .inl ⟨by simp; omega, by simp; omega⟩
      · refine .inr ⟨w :: pre, l1, l2, post, by simp [b1], ?_, b3, by simp; omega⟩
        rw [b2, flatC_cons]
        simp
theorem run_pre {ls : List (List UInt8)} {r : List Fun} (h : (runL r ls).2.2 = true) {a b : List (List UInt8)} (e : ls = a ++ b) : (runL r a).2.2 = true := by
  cases ha : (runL r a).2.2 with
  | true => rfl
  | false =>
    rw [e, runL_bad a b r ha, ha] at h
    cases h
theorem run_stop {r : List Fun} {a b : List (List UInt8)} {l : List UInt8} (ha : (runL r a).2.2 = true) (hl : lineOf l = none) : (runL r (a ++ l :: b)).2.1 = a.length ∧ (runL r (a ++ l :: b)).2.2 = false := by
  have h1 : (lineOf l).bind (layL (runL r a).1) = none := by rw [hl]; rfl
  rw [runL_app a _ r ha, runL_none b h1]
  exact ⟨by simp [runL_count a r ha], rfl⟩
theorem parse_blank {p : List Fun} (hp : mayP p = true) {k : Nat} (hk : k ≤ (textP p).length) :
    parseP ((textP p).take k ++ 32 :: (textP p).drop k) = ([], ((textP p).take k).count 10, 70) := by
  obtain ⟨h1, h2, h3⟩ := (mayP_iff p).1 hp
  have hok := linesP_ok h3
  have hrun := run_prog p [] openB_nil (by simpa using h2) h3
  rw [text_eq hp] at *
  have hfree := texts_free hok
  obtain ⟨_, hh⟩ := flat_at 10 _ k hfree hk
  rcases hh with ⟨rfl, hc⟩ | ⟨pre, l1, l2, post, e1, e2, e3, e4⟩
  · rw [hc, List.take_length, List.drop_length]
    have hs : splitL 10 (flatC 10 ((linesP p).map lineT) ++ [32]) = (linesP p).map lineT ++ [[32]] := by
      rw [split_flat 10 [32] _ hfree]
      rfl
    unfold parseP
    simp only
    rw [hs, List.dropLast_concat, hrun, if_neg (by simp)]
    simp
  · rw [e4, e3, e2]
    obtain ⟨x, hx, hxe⟩ := List.mem_map.1 (show l1 ++ l2 ∈ (linesP p).map lineT by rw [e1]; simp)
    have hnone := blank_none (hok x hx) hxe
    have hpre : ∀ w ∈ pre, (10 : UInt8) ∉ w := fun w hw => hfree w (by rw [e1]; simp [hw])
    have hpost : ∀ w ∈ post, (10 : UInt8) ∉ w := fun w hw => hfree w (by rw [e1]; simp [hw])
    have hmid : (10 : UInt8) ∉ l1 ++ 32 :: l2 := by
      have := hfree (l1 ++ l2) (by rw [e1]; simp)
      simp only [List.mem_append, List.mem_cons, not_or] at this ⊢
      exact ⟨this.1, by decide, this.2⟩
    have hs : splitL 10 (flatC 10 pre ++ l1 ++ 32 :: (l2 ++ 10 :: flatC 10 post)) = (pre ++ (l1 ++ 32 :: l2) :: post) ++ [[]] := by
      have e : flatC 10 pre ++ l1 ++ 32 :: (l2 ++ 10 :: flatC 10 post) = flatC 10 (pre ++ (l1 ++ 32 :: l2) :: post) ++ [] := by
        rw [flatC_app, flatC_cons]
        simp
      rw [e, split_flat 10 [] _ (by
        intro w hw
        rcases List.mem_append.1 hw with hw | hw
        · exact hpre w hw
        · rcases List.mem_cons.1 hw with rfl | hw
          · exact hmid
          · exact hpost w hw)]
      rfl
    have hr := run_pre (r := []) (ls := (linesP p).map lineT) (by rw [hrun]) e1
    obtain ⟨s1, s2⟩ := run_stop (b := post) hr hnone
    unfold parseP
    simp only
    rw [hs, List.dropLast_concat, if_neg (by simp [s2]), s1]
theorem parse_short {p : List Fun} (hp : mayP p = true) : (parseP ((textP p).take ((textP p).length - 1))).2.2 = 70 := by
  obtain ⟨h1, h2, h3⟩ := (mayP_iff p).1 hp
  have hok := linesP_ok h3
  rw [text_eq hp]
  have hne : linesP p ≠ [] := by
    intro e
    have := linesP_len p
    rw [e] at this
    simp at this
    omega
  obtain ⟨xs, x, hx⟩ : ∃ xs x, linesP p = xs ++ [x] := ⟨_, _, (List.dropLast_concat_getLast hne).symm⟩
  rw [hx] at hok ⊢
  have hfree := texts_free hok
  have e : flatC 10 ((xs ++ [x]).map lineT) = (flatC 10 (xs.map lineT) ++ lineT x) ++ [10] := by
    rw [List.map_append, flatC_app]
    simp [flatC]
  rw [e, List.length_append, List.length_singleton, Nat.add_sub_cancel, List.take_left]
  have hs : splitL 10 (flatC 10 (xs.map lineT) ++ lineT x) = xs.map lineT ++ [lineT x] := by
    rw [split_flat 10 _ _ (fun w hw => hfree w (by rw [List.map_append]; simp [hw])), split_word 10 _ (hfree _ (by simp))]
  unfold parseP
  simp only
  rw [hs, if_neg (by simp [line_ne (hok x (by simp))])]
end Go.Proofs.YtcfdbciooimjmaaGreatDoor

/- Layer 7, plain: programs as bytes. -/
namespace Go.Proofs.YtcfdbciooimjmaaGreatDoor
set_option linter.unusedVariables false
set_option linter.unusedSimpArgs false
open Go

/-- What is read of bytes: an error, or something and the rest. -/
abbrev Rd (α : Type) := List UInt8 → Sum Int (α × List UInt8)
def andR {α β : Type} (P : Rd α) (Q : α → Rd β) : Rd β := fun t => match P t with
  | .inl e => .inl e
  | .inr (a, r) => Q a r
def retR {α : Type} (a : α) : Rd α := fun t => .inr (a, t)
/-- P reads a of just the bytes A. -/
def Good {α : Type} (P : Rd α) (A : List UInt8) (a : α) : Prop := (∀ r, P (A ++ r) = .inr (a, r)) ∧ ∀ j, j < A.length → P (A.take j) = .inl 10
/-- What P reads is what was put. -/
def Sound {α : Type} (P : Rd α) (E : α → List UInt8) (ok : α → Prop) : Prop := ∀ t a r, P t = .inr (a, r) → t = E a ++ r ∧ ok a
theorem Good.ret {α : Type} (a : α) : Good (retR a) [] a := ⟨fun _ => rfl, fun _ h => absurd h (by simp)⟩
theorem Good.bind {α β : Type} {P : Rd α} {Q : α → Rd β} {A B : List UInt8} {a : α} {b : β} (h : Good P A a) (g : Good (Q a) B b) : Good (andR P Q) (A ++ B) b := by
  refine ⟨fun r => ?_, fun j hj => ?_⟩
  · unfold andR
    rw [List.append_assoc, h.1]
    exact g.1 r
  · unfold andR
    rcases Nat.lt_or_ge j A.length with h1 | h1
    · rw [List.take_append_of_le_length (Nat.le_of_lt h1), h.2 j h1]
    · rw [List.take_append, List.take_of_length_le h1, h.1]
      exact g.2 _ (by simp at hj; omega)
theorem andR_of {α β : Type} {P : Rd α} {Q : α → Rd β} {t r : List UInt8} {b : β} (h : andR P Q t = .inr (b, r)) : ∃ a s, P t = .inr (a, s) ∧ Q a s = .inr (b, r) := by
  unfold andR at h
  cases hp : P t with
  | inl e => rw [hp] at h; cases h
  | inr x => rw [hp] at h; exact ⟨x.1, x.2, rfl, h⟩

/-- A number, from one bound to another. -/
def numR (least most : Int) : Rd Int := fun t => if (getL t 0 0).2.2 ≠ 0 then .inl (getL t 0 0).2.2 else if (getL t 0 0).1 < least ∨ most < (getL t 0 0).1 then .inl 71 else .inr ((getL t 0 0).1, t.drop (getL t 0 0).2.1)
theorem putF_in {n : Int} (h0 : 0 ≤ n) (h1 : n ≤ 281474976710655) : putF n = putG 7 n.toNat := by unfold putF; rw [if_neg (by omega)]
theorem numR_good {l m n : Int} (h0 : 0 ≤ n) (h1 : n ≤ 281474976710655) (hl : l ≤ n) (hm : n ≤ m) : Good (numR l m) (putF n) n := by
  rw [putF_in h0 h1]
  have hb : n.toNat < 64 * 128 ^ 6 := by omega
  refine ⟨fun r => ?_, fun j hj => ?_⟩
  · have hg := getL_putG r 7 0 n.toNat 0 (by omega) (by omega) (by omega) (by omega) (fun _ => by omega) (by omega)
    have e : (0 : Int) + (n.toNat : Int) * 128 ^ 0 = n := by simp; omega
    rw [e] at hg
    unfold numR
    rw [hg]
    simp only
    rw [if_neg (by simp), if_neg (by omega), Nat.zero_add, List.drop_left]
  · have hg := getL_cut 7 0 n.toNat j 0 (by omega) (by omega) (by omega) (by omega) (fun _ => by omega) (by omega) hj
    unfold numR
    rw [hg]
    simp
theorem numR_of {l m : Int} : Sound (numR l m) putF (fun n => l ≤ n ∧ n ≤ m ∧ 0 ≤ n ∧ n ≤ 281474976710655) := by
  intro t n r h
  unfold numR at h
  split at h
  · cases h
  · rename_i he
    split at h
    · cases h
    · rename_i hb
      simp only [Sum.inr.injEq, Prod.mk.injEq] at h
      obtain ⟨rfl, rfl⟩ := h
      obtain ⟨v, h1, h2, h3, h4, h5, _, _, h8⟩ := putG_getL t 0 0 (getL t 0 0).1 (getL t 0 0).2.1 (by omega) (by
        have : (getL t 0 0).2.2 = 0 := by simpa using he
        exact Prod.ext rfl (Prod.ext rfl this))
      have hv : (getL t 0 0).1 = v := by rw [h1]; simp
      rw [hv]
      have hb2 : v ≤ 281474976710655 := by omega
      refine ⟨?_, by omega, by omega, by omega, by omega⟩
      rw [putF_in (by omega) (by omega), Int.toNat_natCast]
      simp only [Nat.sub_zero] at h5
      rw [h5, List.take_append_drop]

/-- An instruction. -/
def opB (c : UInt8) : Int := (c.toNat : Int)
def insQ2 (o a : Int) : Int → Rd (Int × Int × Int) := fun b t2 => if mayZ o a b = false then .inl 71 else .inr ((o, a, b), t2)
def insQ1 (o : Int) : Int → Rd (Int × Int × Int) := fun a t1 => if mayZ o a 0 = false then .inl 71 else if (rz o).f < 2 then .inr ((o, a, 0), t1) else andR (numR 0 281474976710656) (insQ2 o a) t1
def insR : Rd (Int × Int × Int) := fun t => match t with
  | [] => .inl 10
  | c :: r => if 16 < c.toNat then .inl 71
    else if (rz (opB c)).f < 1 then .inr ((opB c, 0, 0), r)
    else andR (numR 0 281474976710656) (insQ1 (opB c)) r
def insE (x : Int × Int × Int) : List UInt8 := UInt8.ofNat x.1.toNat :: (if (rz x.1).f < 1 then [] else if (rz x.1).f < 2 then putF x.2.1 else putF x.2.1 ++ putF x.2.2)
theorem opB_nat {k : Nat} (h : k < 17) : opB (UInt8.ofNat k) = k := by
  unfold opB
  rw [UInt8.toNat_ofNat']
  omega
theorem opB_back {c : UInt8} : UInt8.ofNat (opB c).toNat = c := by simp [opB]
theorem may_zero {o a b : Int} (h : mayZ o a b = true) : mayZ o a 0 = true := by
  obtain ⟨k, hk, rfl⟩ := may_in h
  obtain ⟨h1, h2, h3, h4⟩ := (may_iff hk a b).1 h
  exact (may_iff hk a 0).2 ⟨h1, h2, by omega, by omega⟩
theorem may_none {k : Nat} (hk : k < 17) (hf : (rz (k : Int)).f < 1) : mayZ k 0 0 = true := by
  rw [rz_in hk] at hf
  obtain ⟨r1, r2, r3, r4, r5⟩ := row_ok k hk
  have hl := o_of k hk
  have hf2 := f_of k hk
  refine (may_iff hk 0 0).2 ⟨?_, ?_, by omega, ?_⟩
  · rcases r2 with h | ⟨h, h2⟩
    · omega
    · subst h
      simp at hf2
      omega
  · omega
  · omega
theorem insR_good {x : Int × Int × Int} (h : mayZ x.1 x.2.1 x.2.2 = true) : Good insR (insE x) x := by
  obtain ⟨o, a, b⟩ := x
  simp only at h
  obtain ⟨⟨a0, a1⟩, ⟨b0, b1⟩, fa, fb, f0, f2⟩ := row_bounds h
  obtain ⟨k, hk, rfl⟩ := may_in h
  have hc : ¬ 16 < (UInt8.ofNat k).toNat := by rw [UInt8.toNat_ofNat']; omega
  have ho := opB_nat hk
  unfold insE
  simp only [Int.toNat_natCast]
  by_cases hf1 : (rz (k : Int)).f < 1
  · rw [if_pos hf1]
    obtain rfl := fa hf1
    obtain rfl := fb (by omega)
    refine ⟨fun r => ?_, fun j hj => ?_⟩
    · show insR (UInt8.ofNat k :: r) = _
      unfold insR
      simp only
      rw [if_neg hc, ho, if_pos hf1]
    · have : j = 0 := by simp at hj; omega
      subst this
      rfl
  · rw [if_neg hf1]
    have ga : Good (numR 0 281474976710656) (putF a) a := numR_good (by omega) (by omega) (by omega) (by omega)
    have gb : Good (numR 0 281474976710656) (putF b) b := numR_good (by omega) (by omega) (by omega) (by omega)
    have hz := may_zero h
    have main : ∀ (T : List UInt8), Good (andR (numR 0 281474976710656) (insQ1 k)) T ((k : Int), a, b) → Good insR (UInt8.ofNat k :: T) ((k : Int), a, b) := fun T g => by
      refine ⟨fun r => ?_, fun j hj => ?_⟩
      · show insR (UInt8.ofNat k :: (T ++ r)) = _
        unfold insR
        simp only
        rw [if_neg hc, ho, if_neg hf1]
        exact g.1 r
      · cases j with
        | zero => rfl
        | succ j =>
          rw [List.take_succ_cons]
          unfold insR
          simp only
          rw [if_neg hc, ho, if_neg hf1]
          exact g.2 j (by simpa using hj)
    by_cases hf2 : (rz (k : Int)).f < 2
    · rw [if_pos hf2]
      obtain rfl := fb hf2
      refine main _ ?_
      have e : insQ1 k a = retR ((k : Int), a, (0 : Int)) := by
        funext t1
        unfold insQ1
        rw [if_neg (by rw [hz]; simp), if_pos hf2]
        rfl
      have g := Good.bind (Q := insQ1 k) ga (by rw [e]; exact Good.ret _)
      rw [List.append_nil] at g
      exact g
    · rw [if_neg hf2]
      have e : insQ1 k a = andR (numR 0 281474976710656) (insQ2 k a) := by
        funext t1
        unfold insQ1
        rw [if_neg (by rw [hz]; simp), if_neg hf2]
      have e2 : insQ2 k a b = retR ((k : Int), a, b) := by
        funext t2
        unfold insQ2
        rw [if_neg (by rw [h]; simp)]
        rfl
      have g := Good.bind (Q := insQ2 k a) gb (by rw [e2]; exact Good.ret _)
      rw [List.append_nil] at g
      exact main _ (Good.bind (Q := insQ1 k) ga (by rw [e]; exact g))
theorem insR_of : Sound insR insE (fun x => mayZ x.1 x.2.1 x.2.2 = true) := by
  intro t x r h
  unfold insR at h
  cases t with
  | nil => cases h
  | cons c t =>
    simp only at h
    split at h
    · cases h
    · rename_i hc
      have hk : c.toNat < 17 := by omega
      have ho : opB c = (c.toNat : Int) := rfl
      split at h
      · rename_i hf
        simp only [Sum.inr.injEq, Prod.mk.injEq] at h
        obtain ⟨rfl, rfl⟩ := h
        refine ⟨?_, ?_⟩
        · unfold insE
          simp only
          rw [if_pos hf, opB_back]
          rfl
        · rw [ho] at hf ⊢
          exact may_none hk hf
      · rename_i hf
        obtain ⟨a, s, h1, h2⟩ := andR_of h
        obtain ⟨e1, _⟩ := numR_of _ _ _ h1
        unfold insQ1 at h2
        split at h2
        · cases h2
        · rename_i hm
          split at h2
          · rename_i hf2
            simp only [Sum.inr.injEq, Prod.mk.injEq] at h2
            obtain ⟨rfl, rfl⟩ := h2
            refine ⟨?_, by simpa using hm⟩
            unfold insE
            simp only
            rw [if_neg hf, if_pos hf2, opB_back, e1]
            rfl
          · rename_i hf2
            obtain ⟨b, s2, h3, h4⟩ := andR_of h2
            obtain ⟨e2, _⟩ := numR_of _ _ _ h3
            unfold insQ2 at h4
            split at h4
            · cases h4
            · rename_i hm2
              simp only [Sum.inr.injEq, Prod.mk.injEq] at h4
              obtain ⟨rfl, rfl⟩ := h4
              refine ⟨?_, by simpa using hm2⟩
              unfold insE
              simp only
              rw [if_neg hf, if_neg hf2, opB_back, e1, e2]
              simp

/-- So many, one behind the other. -/
def manyR {α : Type} (P : Rd α) : Nat → Rd (List α)
  | 0 => retR []
  | n + 1 => andR P fun a => andR (manyR P n) fun l => retR (a :: l)
theorem manyR_good {α : Type} {P : Rd α} {E : α → List UInt8} : ∀ (l : List α), (∀ x ∈ l, Good P (E x) x) → Good (manyR P l.length) (l.map E).flatten l
  | [], _ => Good.ret _
  | x :: l, h => by
    have := Good.bind (h x (by simp)) (Q := fun a => andR (manyR P l.length) fun l => retR (a :: l)) (Good.bind (manyR_good l (fun y hy => h y (by simp [hy]))) (Q := fun l => retR (x :: l)) (Good.ret (x :: l)))
    simpa [manyR] using this
theorem manyR_of {α : Type} {P : Rd α} {E : α → List UInt8} {ok : α → Prop} (hP : Sound P E ok) : ∀ n, Sound (manyR P n) (fun l => (l.map E).flatten) (fun l => l.length = n ∧ ∀ x ∈ l, ok x)
  | 0 => by
    intro t l r h
    have h' : (Sum.inr ([], t) : Sum Int (List α × List UInt8)) = .inr (l, r) := h
    simp only [Sum.inr.injEq, Prod.mk.injEq] at h'
    obtain ⟨rfl, rfl⟩ := h'
    exact ⟨rfl, rfl, by simp⟩
  | n + 1 => by
    intro t l r h
    obtain ⟨a, s, h1, h2⟩ := andR_of h
    obtain ⟨l2, s2, h3, h4⟩ := andR_of h2
    have h' : (Sum.inr (a :: l2, s2) : Sum Int (List α × List UInt8)) = .inr (l, r) := h4
    simp only [Sum.inr.injEq, Prod.mk.injEq] at h'
    obtain ⟨rfl, rfl⟩ := h'
    obtain ⟨e1, o1⟩ := hP _ _ _ h1
    obtain ⟨e2, o2, o3⟩ := manyR_of hP n _ _ _ h3
    refine ⟨by rw [e1, e2]; simp, by simp [o2], fun x hx => ?_⟩
    rcases List.mem_cons.1 hx with rfl | hx
    · exact o1
    · exact o3 x hx

def funR : Rd Fun := andR (numR 0 16) fun a => andR (numR 0 16) fun l => andR (numR 0 8) fun s => andR (numR 1 200) fun n => andR (manyR insR n.toNat) fun c => retR ⟨a, l, s, c⟩
def funE (f : Fun) : List UInt8 := putF f.ar ++ (putF f.lo ++ (putF f.sl ++ (putF f.code.length ++ (f.code.map insE).flatten)))
theorem funR_good {f : Fun} (h : mayF f = true) : Good funR (funE f) f := by
  obtain ⟨h1, h2, h3, h4⟩ := (mayF_iff f).1 h
  obtain ⟨⟨a0, a1⟩, ⟨l0, l1⟩, s0, s1⟩ := (headB_iff _ _ _).1 h1
  have g5 : Good (andR (manyR insR f.code.length) fun c => retR (⟨f.ar, f.lo, f.sl, c⟩ : Fun)) ((f.code.map insE).flatten ++ []) f := Good.bind (manyR_good f.code (fun x hx => insR_good (h4 x hx))) (Good.ret _)
  rw [List.append_nil] at g5
  refine Good.bind (numR_good a0 (by omega) a0 a1) (Good.bind (numR_good l0 (by omega) l0 l1) (Good.bind (numR_good s0 (by omega) s0 s1) (Good.bind (numR_good (n := (f.code.length : Int)) (by omega) (by omega) (by omega) (by omega)) ?_)))
  simpa using g5
theorem funR_of : Sound funR funE (fun f => mayF f = true) := by
  intro t f r h
  obtain ⟨a, t1, h1, h⟩ := andR_of h
  obtain ⟨l, t2, h2, h⟩ := andR_of h
  obtain ⟨s, t3, h3, h⟩ := andR_of h
  obtain ⟨n, t4, h4, h⟩ := andR_of h
  obtain ⟨c, t5, h5, h⟩ := andR_of h
  have h' : (Sum.inr ((⟨a, l, s, c⟩ : Fun), t5) : Sum Int (Fun × List UInt8)) = .inr (f, r) := h
  simp only [Sum.inr.injEq, Prod.mk.injEq] at h'
  obtain ⟨rfl, rfl⟩ := h'
  obtain ⟨e1, a1, a2, _⟩ := numR_of _ _ _ h1
  obtain ⟨e2, l1, l2, _⟩ := numR_of _ _ _ h2
  obtain ⟨e3, s1, s2, _⟩ := numR_of _ _ _ h3
  obtain ⟨e4, n1, n2, _⟩ := numR_of _ _ _ h4
  obtain ⟨e5, c1, c2⟩ := manyR_of insR_of _ _ _ _ h5
  have hn : (c.length : Int) = n := by rw [c1]; omega
  refine ⟨?_, (mayF_iff _).2 ⟨(headB_iff _ _ _).2 ⟨⟨a1, a2⟩, ⟨l1, l2⟩, s1, s2⟩, ?_, ?_, c2⟩⟩
  · unfold funE
    simp only
    rw [e1, e2, e3, e4, e5, hn]
    simp
  · show 1 ≤ c.length
    omega
  · show c.length ≤ 200
    omega
def progR : Rd (List Fun) := andR (numR 1 16) fun n => manyR funR n.toNat
/-- What is read of all bytes. -/
def decP (s : List UInt8) : List Fun × Int := match progR s with
  | .inl e => ([], e)
  | .inr (p, r) => if r = [] then (p, 0) else ([], 72)
def progE (p : List Fun) : List UInt8 := putF p.length ++ (p.map funE).flatten
def encP (p : List Fun) : List UInt8 := if mayP p = true then progE p else []
theorem encP_in {p : List Fun} (h : mayP p = true) : encP p = progE p := by unfold encP; rw [if_pos h]
theorem progR_good {p : List Fun} (h : mayP p = true) : Good progR (progE p) p := by
  obtain ⟨h1, h2, h3⟩ := (mayP_iff p).1 h
  refine Good.bind (numR_good (n := (p.length : Int)) (by omega) (by omega) (by omega) (by omega)) ?_
  simpa using manyR_good p (fun f hf => funR_good (h3 f hf))
theorem progR_of : Sound progR progE (fun p => mayP p = true) := by
  intro t p r h
  obtain ⟨n, t1, h1, h⟩ := andR_of h
  obtain ⟨e1, n1, n2, _⟩ := numR_of _ _ _ h1
  obtain ⟨e2, c1, c2⟩ := manyR_of funR_of _ _ _ _ h
  have hn : (p.length : Int) = n := by rw [c1]; omega
  refine ⟨?_, (mayP_iff p).2 ⟨by omega, by omega, c2⟩⟩
  unfold progE
  rw [e1, e2, hn]
  simp
theorem dec_enc {p : List Fun} (h : mayP p = true) (m : List UInt8) : decP (encP p ++ m) = if m = [] then (p, 0) else ([], 72) := by
  unfold decP
  rw [encP_in h, (progR_good h).1 m]
theorem dec_cut {p : List Fun} (h : mayP p = true) {j : Nat} (hj : j < (encP p).length) : decP ((encP p).take j) = ([], 10) := by
  rw [encP_in h] at *
  unfold decP
  rw [(progR_good h).2 j hj]
theorem dec_back {p : List Fun} (h : mayP p = true) : decP (encP p) = (p, 0) := by
  have := dec_enc h []
  simpa using this
def NZ {α : Type} (P : Rd α) : Prop := ∀ t e, P t = .inl e → e ≠ 0
theorem NZ.bind {α β : Type} {P : Rd α} {Q : α → Rd β} (h : NZ P) (g : ∀ a, NZ (Q a)) : NZ (andR P Q) := by
  intro t e he
  unfold andR at he
  cases hp : P t with
  | inl e' => rw [hp] at he; simp only [Sum.inl.injEq] at he; subst he; exact h _ _ hp
  | inr x => rw [hp] at he; exact g _ _ _ he
theorem NZ.ret {α : Type} (a : α) : NZ (retR a) := by
  intro t e he
  cases he
theorem numR_nz (l m : Int) : NZ (numR l m) := by
  intro t e he
  unfold numR at he
  split at he
  · rename_i h
    simp only [Sum.inl.injEq] at he
    subst he
    exact h
  · split at he
    · simp only [Sum.inl.injEq] at he
      subst he
      decide
    · cases he
theorem insQ2_nz (o a b : Int) : NZ (insQ2 o a b) := by
  intro t e he
  unfold insQ2 at he
  split at he
  · simp only [Sum.inl.injEq] at he
    subst he
    decide
  · cases he
theorem insQ1_nz (o a : Int) : NZ (insQ1 o a) := by
  intro t e he
  unfold insQ1 at he
  split at he
  · simp only [Sum.inl.injEq] at he
    subst he
    decide
  · split at he
    · cases he
    · exact NZ.bind (numR_nz _ _) (insQ2_nz o a) _ _ he
theorem insR_nz : NZ insR := by
  intro t e he
  unfold insR at he
  cases t with
  | nil => simp only [Sum.inl.injEq] at he; subst he; decide
  | cons c r =>
    simp only at he
    split at he
    · simp only [Sum.inl.injEq] at he
      subst he
      decide
    · split at he
      · cases he
      · exact NZ.bind (numR_nz _ _) (insQ1_nz _) _ _ he
theorem manyR_nz {α : Type} {P : Rd α} (h : NZ P) : ∀ n, NZ (manyR P n)
  | 0 => NZ.ret _
  | n + 1 => NZ.bind h fun _ => NZ.bind (manyR_nz h n) fun _ => NZ.ret _
theorem funR_nz : NZ funR := NZ.bind (numR_nz _ _) fun _ => NZ.bind (numR_nz _ _) fun _ => NZ.bind (numR_nz _ _) fun _ => NZ.bind (numR_nz _ _) fun _ => NZ.bind (manyR_nz insR_nz _) fun _ => NZ.ret _
theorem progR_nz : NZ progR := NZ.bind (numR_nz _ _) fun _ => manyR_nz funR_nz _
theorem dec_of {s : List UInt8} (h : (decP s).2 = 0) : mayP (decP s).1 = true ∧ encP (decP s).1 = s := by
  unfold decP at *
  cases hp : progR s with
  | inl e =>
    rw [hp] at h
    exact absurd h (progR_nz _ _ hp)
  | inr x =>
    obtain ⟨p, r⟩ := x
    rw [hp] at h
    simp only at h ⊢
    split at h
    · rename_i hr
      subst hr
      obtain ⟨e, hm⟩ := progR_of _ _ _ hp
      simp only [if_true]
      rw [encP_in hm]
      exact ⟨hm, by rw [e]; simp⟩
    · simp at h
theorem encP_inj {p q : List Fun} (hp : mayP p = true) (hq : mayP q = true) (h : encP p = encP q) : p = q := by
  have h1 := dec_back hp
  rw [h, dec_back hq] at h1
  exact (Prod.mk.inj h1).1.symm
end Go.Proofs.YtcfdbciooimjmaaGreatDoor

/- Layer 7, plain: lines cut as the program cuts them, and numbers as it reads them. -/
namespace Go.Proofs.YtcfdbciooimjmaaGreatDoor
set_option linter.unusedVariables false
set_option linter.unusedSimpArgs false
open Go

theorem idx_free {c : UInt8} : ∀ {l : List UInt8}, c ∉ l → Lib.index l [c] = -1
  | [], _ => rfl
  | x :: r, h => by
    simp only [List.mem_cons, not_or] at h
    unfold Lib.index
    rw [idx_free h.2]
    simp [h.1]
theorem idx_app {c : UInt8} : ∀ {a : List UInt8} (b : List UInt8), c ∉ a → Lib.index (a ++ c :: b) [c] = a.length
  | [], b, _ => by simp [Lib.index]
  | x :: a, b, h => by
    simp only [List.mem_cons, not_or] at h
    have ih := idx_app b h.2
    rw [List.cons_append]
    unfold Lib.index
    rw [ih]
    have : ¬ ((a.length : Int) = -1) := by omega
    simp [h.1, this]
theorem cut_free {c : UInt8} {l : List UInt8} (h : c ∉ l) : Lib.cut l [c] = (l, [], false) := by
  unfold Lib.cut
  rw [idx_free h]
  simp
theorem cut_app {c : UInt8} {a : List UInt8} (b : List UInt8) (h : c ∉ a) : Lib.cut (a ++ c :: b) [c] = (a, b, true) := by
  unfold Lib.cut
  rw [idx_app b h, if_pos (by omega), Int.toNat_natCast]
  simp
theorem splitK_free {c : UInt8} {l : List UInt8} (h : c ∉ l) (k : Nat) : Lib.splitK [c] 0 k l = [l] := by
  cases k with
  | zero => rfl
  | succ k => unfold Lib.splitK; rw [idx_free h]; simp
theorem splitK_app {c : UInt8} {a : List UInt8} (b : List UInt8) (h : c ∉ a) (k : Nat) : Lib.splitK [c] 0 (k + 1) (a ++ c :: b) = a :: Lib.splitK [c] 0 k b := by
  rw [Lib.splitK, idx_app b h]
  have : ¬ ((a.length : Int) = -1) := by omega
  simp [this]
theorem mem_cut {c : UInt8} (l : List UInt8) : c ∉ l ∨ ∃ a b, l = a ++ c :: b ∧ c ∉ a := by
  by_cases h : c ∈ l
  · obtain ⟨a, b, e, hn⟩ := List.eq_append_cons_of_mem h
    exact .inr ⟨a, b, e, hn⟩
  · exact .inl h
theorem splitK_ne (c : UInt8) (k : Nat) (l : List UInt8) : Lib.splitK [c] 0 k l ≠ [] := by
  cases k with
  | zero => simp [Lib.splitK]
  | succ k => unfold Lib.splitK; split <;> simp
theorem join_splitK (c : UInt8) : ∀ (k : Nat) (l : List UInt8), joinC c (Lib.splitK [c] 0 k l) = l
  | 0, l => rfl
  | k + 1, l => by
    rcases mem_cut (c := c) l with h | ⟨a, b, rfl, h⟩
    · rw [splitK_free h]
      rfl
    · rw [splitK_app b h]
      have ih := join_splitK c k b
      cases hs : Lib.splitK [c] 0 k b with
      | nil => exact absurd hs (splitK_ne c k b)
      | cons v vs =>
        rw [hs] at ih
        rw [joinC, ih]
theorem splitK_join (c : UInt8) : ∀ (ws : List (List UInt8)) (k : Nat), ws ≠ [] → (∀ w ∈ ws, c ∉ w) → ws.length ≤ k + 1 → Lib.splitK [c] 0 k (joinC c ws) = ws
  | [], _, h, _, _ => absurd rfl h
  | [w], k, _, h, _ => splitK_free (h w (by simp)) k
  | w :: v :: ws, k, _, h, hl => by
    obtain ⟨j, rfl⟩ : ∃ j, k = j + 1 := ⟨k - 1, by simp at hl; omega⟩
    rw [joinC, splitK_app _ (h w (by simp)), splitK_join c (v :: ws) j (by simp) (fun x hx => h x (by simp at hx ⊢; exact .inr hx)) (by simp at hl ⊢; omega)]
theorem joinC_len (c : UInt8) : ∀ (ws : List (List UInt8)), ws.length ≤ (joinC c ws).length + 1
  | [] => by simp
  | [w] => by simp
  | w :: v :: ws => by
    have := joinC_len c (v :: ws)
    rw [joinC, List.length_append, List.length_cons, List.length_cons, List.length_cons]
    rw [List.length_cons] at this
    omega

/-- A number as the program reads it: what is written as it would write it. -/
def numC (w : List UInt8) : Option Int := match Lib.atoiAll w with
  | .ok v => if Lib.itoa v = w then some v else none
  | _ => none
theorem numC_fix : ∀ n, n < 1000 → Lib.atoiAll (Lib.decDigits n) = .ok (n : Int) := by decide +kernel
theorem itoa_dg {n : Int} (h0 : 0 ≤ n) : Lib.itoa n = dgI n := by unfold Lib.itoa; rw [if_neg (by omega)]; rfl
theorem numC_dg {n : Int} (h0 : 0 ≤ n) (h1 : n < 1000) : numC (dgI n) = some n := by
  unfold numC
  have := numC_fix n.toNat (by omega)
  rw [Int.toNat_of_nonneg h0] at this
  rw [show dgI n = Lib.decDigits n.toNat from rfl, this]
  simp only
  exact if_pos (itoa_dg h0)
theorem numC_of {w : List UInt8} {n : Int} (h : numC w = some n) : Lib.itoa n = w := by
  unfold numC at h
  split at h
  · split at h
    · rename_i he
      cases h
      exact he
    · cases h
  · cases h
def numsC : List (List UInt8) → Option (List Int)
  | [] => some []
  | w :: ws => match numC w with
    | none => none
    | some n => (numsC ws).map (n :: ·)
theorem numsC_of : ∀ {ws : List (List UInt8)} {ns : List Int}, numsC ws = some ns → ws = ns.map Lib.itoa
  | [], ns, h => by
    cases h
    rfl
  | w :: ws, ns, h => by
    unfold numsC at h
    split at h
    · cases h
    · rename_i n hn
      rw [Option.map_eq_some_iff] at h
      obtain ⟨m, hm, rfl⟩ := h
      rw [List.map_cons, numC_of hn, ← numsC_of hm]
theorem numsC_dg : ∀ (ns : List Int), (∀ n ∈ ns, 0 ≤ n ∧ n < 1000) → numsC (ns.map dgI) = some ns
  | [], _ => rfl
  | n :: ns, h => by
    have h1 := h n (by simp)
    rw [List.map_cons, numsC, numC_dg h1.1 h1.2, numsC_dg ns (fun m hm => h m (by simp [hm]))]
    rfl
def partsC (l : List UInt8) : List (List UInt8) := Lib.splitK [32] 0 (min 4 (l.length + 1) - 1) l
/-- A line's first word, and the numbers behind it. -/
def wordsC (l : List UInt8) : Option (List UInt8 × List Int) := match partsC l with
  | [] => none
  | w :: ws => (numsC ws).map fun ns => (w, ns)
def lineC (x : List UInt8 × List Int) : Option PLine :=
  if x.1 = funcW then (if x.2.length = 3 ∧ headB (x.2.getD 0 0) (x.2.getD 1 0) (x.2.getD 2 0) = true then some (.head (x.2.getD 0 0) (x.2.getD 1 0) (x.2.getD 2 0)) else none)
  else if mayZ (rfnd ⟨x.1.toArray⟩) (x.2.getD 0 0) (x.2.getD 1 0) = true ∧ (x.2.length : Int) = (rz (rfnd ⟨x.1.toArray⟩)).f then some (.ins (rfnd ⟨x.1.toArray⟩) (x.2.getD 0 0) (x.2.getD 1 0)) else none
theorem wordsL_len (x : PLine) : (wordsL x).length ≤ 4 := by
  cases x with
  | head a l s => simp [wordsL]
  | ins o a b =>
    simp only [wordsL, List.length_cons]
    split
    · simp
    · split <;> simp
theorem parts_line {x : PLine} (h : okL x = true) : partsC (lineT x) = wordsL x := by
  have h1 := wordsL_len x
  have h2 := joinC_len 32 (wordsL x)
  exact splitK_join 32 (wordsL x) _ (wordsL_ne x) (wordsL_free h 32 (.inl rfl)) (by unfold lineT; omega)
theorem line_fwd {x : PLine} (h : okL x = true) : (wordsC (lineT x)).bind lineC = some x := by
  unfold wordsC
  rw [parts_line h]
  cases x with
  | head a l s =>
    obtain ⟨⟨a0, a1⟩, ⟨l0, l1⟩, s0, s1⟩ := (headB_iff a l s).1 h
    have hn : numsC [dgI a, dgI l, dgI s] = some [a, l, s] := numsC_dg [a, l, s] (by
      intro n hn
      simp only [List.mem_cons, List.not_mem_nil, or_false] at hn
      rcases hn with rfl | rfl | rfl <;> omega)
    simp only [wordsL, hn, Option.map_some, Option.bind_some]
    unfold lineC
    rw [if_pos rfl, if_pos ⟨rfl, h⟩]
    rfl
  | ins o a b =>
    obtain ⟨⟨a0, a1⟩, ⟨b0, b1⟩, fa, fb, f0, f2⟩ := row_bounds h
    obtain ⟨k, hk, rfl⟩ := may_in h
    have hw : nmL k ≠ funcW := by rw [nmL_in hk]; exact (name_fix k hk).2.2
    by_cases hf1 : (rz (k : Int)).f < 1
    · obtain rfl := fa hf1
      obtain rfl := fb (by omega)
      simp only [wordsL, hf1, if_true, show numsC [] = some [] from rfl, Option.map_some, Option.bind_some]
      unfold lineC
      simp only
      rw [if_neg hw, rfnd_name hk, if_pos ⟨h, by simp; omega⟩]
      rfl
    · by_cases hf2 : (rz (k : Int)).f < 2
      · obtain rfl := fb hf2
        have hn : numsC [dgI a] = some [a] := numsC_dg [a] (by simp; omega)
        simp only [wordsL, hf1, hf2, if_true, if_false, hn, Option.map_some, Option.bind_some]
        unfold lineC
        simp only
        rw [if_neg hw, rfnd_name hk, if_pos ⟨h, by simp; omega⟩]
        rfl
      · have hn : numsC [dgI a, dgI b] = some [a, b] := numsC_dg [a, b] (by simp; omega)
        simp only [wordsL, hf1, hf2, if_false, hn, Option.map_some, Option.bind_some]
        unfold lineC
        simp only
        rw [if_neg hw, rfnd_name hk, if_pos ⟨h, by simp; omega⟩]
        rfl
theorem line_bwd {l : List UInt8} {x : PLine} (h : (wordsC l).bind lineC = some x) : okL x = true ∧ lineT x = l := by
  have hj := join_splitK 32 (min 4 (l.length + 1) - 1) l
  unfold wordsC partsC at h
  cases hp : Lib.splitK [32] 0 (min 4 (l.length + 1) - 1) l with
  | nil => rw [hp] at h; cases h
  | cons w ws =>
    rw [hp] at h hj
    simp only at h
    cases hn : numsC ws with
    | none => rw [hn] at h; cases h
    | some ns =>
      rw [hn] at h
      simp only [Option.map_some, Option.bind_some] at h
      obtain rfl := numsC_of hn
      unfold lineC at h
      simp only at h
      split at h
      · rename_i hw
        split at h
        · rename_i hc
          simp only [Option.some.injEq] at h
          subst h
          refine ⟨hc.2, ?_⟩
          match ns, hc with
          | [a, l, s], hc =>
            obtain ⟨⟨a0, a1⟩, ⟨l0, l1⟩, s0, s1⟩ := (headB_iff a l s).1 hc.2
            subst hw
            rw [← hj]
            simp only [lineT, wordsL, List.map_cons, List.map_nil]
            rw [itoa_dg a0, itoa_dg l0, itoa_dg s0]
            rfl
        · cases h
      · rename_i hw
        split at h
        · rename_i hc
          simp only [Option.some.injEq] at h
          subst h
          refine ⟨hc.1, ?_⟩
          have ho : okZ (rfnd ⟨w.toArray⟩) = true := by
            have := hc.1
            unfold mayZ at this
            simp only [Bool.and_eq_true] at this
            exact this.1.1
          obtain ⟨k, hk, he, hb⟩ := rfnd_of ho
          rw [bytes_eta] at hb
          rw [he] at hc ⊢
          obtain ⟨⟨a0, a1⟩, ⟨b0, b1⟩, _, _, f0, f2⟩ := row_bounds hc.1
          rw [← hj, hb]
          unfold lineT
          congr 1
          match ns, hc, a0, b0 with
          | [], hc, _, _ => simp only [wordsL]; rw [if_pos (by have := hc.2; simp at this; omega)]; rfl
          | [a], hc, a0, _ =>
            simp only [wordsL]
            have := hc.2
            simp at this a0
            rw [if_neg (by omega), if_pos (by omega), List.map_cons, itoa_dg a0]
            rfl
          | [a, b], hc, a0, b0 =>
            simp only [wordsL]
            have := hc.2
            simp at this a0 b0
            rw [if_neg (by omega), if_neg (by omega), List.map_cons, List.map_cons, itoa_dg a0, itoa_dg b0]
            rfl
          | a :: b :: c :: r, hc, _, _ =>
            have h1 := hc.2
            simp at h1
            omega
        · cases h
/-- The line that a text is, out of the words that the program cuts it into. -/
theorem line_words (l : List UInt8) : lineOf l = (wordsC l).bind lineC := by
  cases h : (wordsC l).bind lineC with
  | some x =>
    obtain ⟨h1, h2⟩ := line_bwd h
    rw [← h2]
    exact lineOf_line h1
  | none =>
    cases h2 : lineOf l with
    | none => rfl
    | some x =>
      obtain ⟨h3, h4⟩ := lineOf_of h2
      rw [← h4, line_fwd h3] at h
      cases h

/-- What comes of the rest of a text, when a program lies, and lines were read. -/
def finP (p : List Fun) (n : Nat) (s : List UInt8) : List Fun × Nat × Int :=
  if (runL p (splitL 10 s).dropLast).2.2 = true ∧ (splitL 10 s).getLast? = some [] ∧ mayP (runL p (splitL 10 s).dropLast).1 = true then ((runL p (splitL 10 s).dropLast).1, n + (runL p (splitL 10 s).dropLast).2.1, 0) else ([], n + (runL p (splitL 10 s).dropLast).2.1, 70)
theorem parse_fin (s : List UInt8) : parseP s = finP [] 0 s := by
  unfold parseP finP
  simp
theorem fin_step {p q : List Fun} (n : Nat) {a : List UInt8} (b : List UInt8) (ha : (10 : UInt8) ∉ a) (h : (lineOf a).bind (layL p) = some q) : finP p n (a ++ 10 :: b) = finP q (n + 1) b := by
  unfold finP
  rw [split_app 10 a b ha, List.dropLast_cons_of_ne_nil (splitL_ne 10 b), runL_some _ h]
  rw [show (a :: splitL 10 b).getLast? = (splitL 10 b).getLast? from List.getLast?_cons_of_ne_nil (splitL_ne 10 b)]
  simp only
  rw [show n + ((runL q (splitL 10 b).dropLast).2.1 + 1) = n + 1 + (runL q (splitL 10 b).dropLast).2.1 by omega]
theorem fin_bad {p : List Fun} (n : Nat) {a : List UInt8} (b : List UInt8) (ha : (10 : UInt8) ∉ a) (h : (lineOf a).bind (layL p) = none) : finP p n (a ++ 10 :: b) = ([], n, 70) := by
  unfold finP
  rw [split_app 10 a b ha, List.dropLast_cons_of_ne_nil (splitL_ne 10 b), runL_none _ h]
  simp
theorem fin_end (p : List Fun) (n : Nat) {a : List UInt8} (ha : (10 : UInt8) ∉ a) : finP p n a = if a = [] ∧ mayP p = true then (p, n, 0) else ([], n, 70) := by
  unfold finP
  rw [split_word 10 a ha]
  simp [runL_nil]
end Go.Proofs.YtcfdbciooimjmaaGreatDoor

/- Layer 7, plain: a list that is read element by element, as a loop reads it. -/
namespace Go.Proofs.YtcfdbciooimjmaaGreatDoor
set_option linter.unusedVariables false
set_option linter.unusedSimpArgs false
open Go

/-- What is read, behind what was read before. -/
def contM {α : Type} (l : List α) : Int ⊕ (List α × List UInt8) → Int ⊕ (List α × List UInt8)
  | .inl e => .inl e
  | .inr (m, r) => .inr (l ++ m, r)
theorem contM_start {α : Type} (x : Int ⊕ (List α × List UInt8)) : contM [] x = x := by
  unfold contM
  split <;> simp_all
theorem contM_step {α : Type} {P : Rd α} (l : List α) (m : Nat) {r r1 : List UInt8} {a : α} (h : P r = .inr (a, r1)) : contM l (manyR P (m + 1) r) = contM (l ++ [a]) (manyR P m r1) := by
  have e : manyR P (m + 1) r = (match manyR P m r1 with | .inl e => .inl e | .inr (k, q) => .inr (a :: k, q)) := by
    show andR P _ r = _
    unfold andR
    rw [h]
    simp only
    show andR (manyR P m) _ r1 = _
    unfold andR
    cases manyR P m r1 <;> rfl
  rw [e]
  cases manyR P m r1 with
  | inl e => rfl
  | inr x => simp [contM]
theorem contM_bad {α : Type} {P : Rd α} (l : List α) (m : Nat) {r : List UInt8} {e : Int} (h : P r = .inl e) : contM l (manyR P (m + 1) r) = .inl e := by
  have : manyR P (m + 1) r = .inl e := by
    show andR P _ r = _
    unfold andR
    rw [h]
  rw [this]
  rfl
theorem contM_end {α : Type} {P : Rd α} (l : List α) (r : List UInt8) : contM l (manyR P 0 r) = .inr (l, r) := by
  show Sum.inr (l ++ [], r) = _
  rw [List.append_nil]
/-- All bytes, by the number of functions. -/
theorem decP_of (s : List UInt8) : decP s = match numR 1 16 s with
    | .inl e => ([], e)
    | .inr (n, r) => match manyR funR n.toNat r with
      | .inl e => ([], e)
      | .inr (p, q) => if q = [] then (p, 0) else ([], 72) := by
  unfold decP progR andR
  cases numR 1 16 s with
  | inl e => rfl
  | inr x => rfl
end Go.Proofs.YtcfdbciooimjmaaGreatDoor

/- Layer 7, plain: a decoder that keeps its first error, state by state. -/
namespace Go.Proofs.YtcfdbciooimjmaaGreatDoor
set_option linter.unusedVariables false
set_option linter.unusedSimpArgs false
open Go

def rdS (l : List UInt8) (i er : Int) : Int × Int × Int := if er ≠ 0 then (0, i, er) else ((getL (l.drop i.toNat) 0 0).1, i + (getL (l.drop i.toNat) 0 0).2.1, (getL (l.drop i.toNat) 0 0).2.2)
def wE (ok : Bool) (e er : Int) : Int := if er = 0 ∧ ok = false then e else er
def opS (l : List UInt8) (i er : Int) : Int × Int × Int := if er ≠ 0 then (0, i, er) else match l.drop i.toNat with
  | [] => (0, i, 10)
  | c :: _ => (c.toNat, i + 1, wE (decide ((c.toNat : Int) < 17)) 71 0)
def nmW (a b : Int) (x : Int × Int × Int) : Int × Int × Int :=
  (if wE (decide (a ≤ x.1) && decide (x.1 ≤ b)) 71 x.2.2 ≠ 0 then 0 else x.1, x.2.1, wE (decide (a ≤ x.1) && decide (x.1 ≤ b)) 71 x.2.2)
def nmS (a b : Int) (l : List UInt8) (i er : Int) : Int × Int × Int := nmW a b (rdS l i er)
def insS (l : List UInt8) (i er : Int) : (Int × Int × Int) × Int × Int :=
  if (rz (opS l i er).1).f < 1 then (((opS l i er).1, 0, 0), (opS l i er).2)
  else if (rz (opS l i er).1).f < 2 then (((opS l i er).1, (rdS l (opS l i er).2.1 (opS l i er).2.2).1, 0), (rdS l (opS l i er).2.1 (opS l i er).2.2).2.1, wE (mayZ (opS l i er).1 (rdS l (opS l i er).2.1 (opS l i er).2.2).1 0) 71 (rdS l (opS l i er).2.1 (opS l i er).2.2).2.2)
  else
    (((opS l i er).1, (rdS l (opS l i er).2.1 (opS l i er).2.2).1, (rdS l (rdS l (opS l i er).2.1 (opS l i er).2.2).2.1 (wE (mayZ (opS l i er).1 (rdS l (opS l i er).2.1 (opS l i er).2.2).1 0) 71 (rdS l (opS l i er).2.1 (opS l i er).2.2).2.2)).1),
      (rdS l (rdS l (opS l i er).2.1 (opS l i er).2.2).2.1 (wE (mayZ (opS l i er).1 (rdS l (opS l i er).2.1 (opS l i er).2.2).1 0) 71 (rdS l (opS l i er).2.1 (opS l i er).2.2).2.2)).2.1,
      wE (mayZ (opS l i er).1 (rdS l (opS l i er).2.1 (opS l i er).2.2).1 (rdS l (rdS l (opS l i er).2.1 (opS l i er).2.2).2.1 (wE (mayZ (opS l i er).1 (rdS l (opS l i er).2.1 (opS l i er).2.2).1 0) 71 (rdS l (opS l i er).2.1 (opS l i er).2.2).2.2)).1) 71
        (rdS l (rdS l (opS l i er).2.1 (opS l i er).2.2).2.1 (wE (mayZ (opS l i er).1 (rdS l (opS l i er).2.1 (opS l i er).2.2).1 0) 71 (rdS l (opS l i er).2.1 (opS l i er).2.2).2.2)).2.2)

/-- One stands in the text, if nothing is wrong. -/
def Vl (l : List UInt8) (i er : Int) : Prop := er = 0 → 0 ≤ i ∧ i ≤ l.length
theorem wE_keep {ok : Bool} {e er : Int} (h : er ≠ 0) : wE ok e er = er := by unfold wE; rw [if_neg (by simp [h])]
theorem wE_true {e er : Int} : wE true e er = er := by unfold wE; rw [if_neg (by simp)]
theorem wE_zero {ok : Bool} {e er : Int} (he : e ≠ 0) (h : wE ok e er = 0) : er = 0 ∧ ok = true := by
  unfold wE at h
  split at h
  · exact absurd h he
  · rename_i hn
    refine ⟨h, ?_⟩
    cases ok
    · exact absurd ⟨h, rfl⟩ hn
    · rfl
theorem Vl.want {l : List UInt8} {i er e : Int} {ok : Bool} (he : e ≠ 0) (h : Vl l i er) : Vl l i (wE ok e er) := fun h0 => h (wE_zero he h0).1
theorem get_bd (l : List UInt8) : 0 ≤ (getL l 0 0).1 ∧ (getL l 0 0).1 < 562949953421312 ∧ ((getL l 0 0).2.2 = 0 → 0 < (getL l 0 0).2.1 ∧ (getL l 0 0).2.1 ≤ l.length) ∧ ((getL l 0 0).2.2 ≠ 0 → (getL l 0 0).1 = 0 ∧ (getL l 0 0).2.1 = 0) := by
  have := getL_bd l 0 0 (by omega) (by omega) (by omega)
  simpa using this
theorem Vl.rd {l : List UInt8} {i er : Int} (h : Vl l i er) : Vl l (rdS l i er).2.1 (rdS l i er).2.2 := by
  unfold rdS
  by_cases he : er ≠ 0
  · rw [if_pos he]
    exact h
  · rw [if_neg he]
    intro h0
    obtain ⟨h1, h2⟩ := h (by omega)
    have := (get_bd (l.drop i.toNat)).2.2.1 h0
    rw [List.length_drop] at this
    simp only
    omega
theorem rdS_bd (l : List UInt8) (i er : Int) : 0 ≤ (rdS l i er).1 ∧ (rdS l i er).1 < 562949953421312 := by
  unfold rdS
  split
  · simp
  · exact ⟨(get_bd _).1, (get_bd _).2.1⟩
theorem opS_bd (l : List UInt8) (i er : Int) : 0 ≤ (opS l i er).1 ∧ (opS l i er).1 < 256 := by
  unfold opS
  split
  · simp
  · split
    · simp
    · rename_i c _ _
      have := c.toNat_lt
      simp only
      omega
theorem Vl.op {l : List UInt8} {i er : Int} (h : Vl l i er) : Vl l (opS l i er).2.1 (opS l i er).2.2 := by
  unfold opS
  by_cases he : er ≠ 0
  · rw [if_pos he]
    exact h
  · rw [if_neg he]
    obtain ⟨h1, h2⟩ := h (by omega)
    split
    · intro h0
      simp at h0
    · rename_i c r hc
      intro _
      have := congrArg List.length hc
      rw [List.length_drop, List.length_cons] at this
      simp only
      omega
theorem rdS_keep {l : List UInt8} {i er : Int} (h : er ≠ 0) : rdS l i er = (0, i, er) := by unfold rdS; rw [if_pos h]
theorem opS_keep {l : List UInt8} {i er : Int} (h : er ≠ 0) : opS l i er = (0, i, er) := by unfold opS; rw [if_pos h]

/-- S does what P reads, and keeps its first error. -/
def Sim {α : Type} (P : Rd α) (S : List UInt8 → Int → Int → α × Int × Int) : Prop :=
  (∀ l i er, er ≠ 0 → (S l i er).2.2 = er) ∧ (∀ l i er, Vl l i er → Vl l (S l i er).2.1 (S l i er).2.2) ∧
  ∀ l i, 0 ≤ i → i ≤ (l.length : Int) → (∀ e, P (l.drop i.toNat) = .inl e → (S l i 0).2.2 = e ∧ e ≠ 0) ∧ ∀ a r, P (l.drop i.toNat) = .inr (a, r) → (S l i 0).1 = a ∧ (S l i 0).2.2 = 0 ∧ l.drop (S l i 0).2.1.toNat = r
theorem sim_num (a b : Int) : Sim (numR a b) (nmS a b) := by
  refine ⟨fun l i er h => ?_, fun l i er h => ?_, fun l i h0 h1 => ?_⟩
  · show wE _ 71 (rdS l i er).2.2 = er
    rw [rdS_keep h]
    exact wE_keep h
  · exact Vl.want (by decide) h.rd
  · have e : nmS a b l i 0 = nmW a b ((getL (l.drop i.toNat) 0 0).1, i + (getL (l.drop i.toNat) 0 0).2.1, (getL (l.drop i.toNat) 0 0).2.2) := by
      show nmW a b (rdS l i 0) = _
      unfold rdS
      rw [if_neg (by simp)]
    rw [e]
    have hg := get_bd (l.drop i.toNat)
    rw [List.length_drop] at hg
    have hd : l.drop (i + (getL (l.drop i.toNat) 0 0).2.1).toNat = (l.drop i.toNat).drop (getL (l.drop i.toNat) 0 0).2.1 := by
      rw [List.drop_drop]
      congr 1
      omega
    unfold numR nmW
    simp only
    rw [hd]
    generalize (getL (l.drop i.toNat) 0 0).1 = n at *
    generalize (getL (l.drop i.toNat) 0 0).2.1 = k at *
    generalize (getL (l.drop i.toNat) 0 0).2.2 = er at *
    by_cases he : er ≠ 0
    · rw [if_pos he, wE_keep he]
      exact ⟨fun e h => by cases h; exact ⟨rfl, he⟩, fun _ _ h => by cases h⟩
    · have he : er = 0 := by omega
      subst he
      rw [if_neg (by simp)]
      by_cases hb : n < a ∨ b < n
      · rw [if_pos hb]
        have hw : (decide (a ≤ n) && decide (n ≤ b)) = false := by simp; omega
        rw [hw]
        exact ⟨fun e h => by cases h; exact ⟨rfl, by decide⟩, fun _ _ h => by cases h⟩
      · rw [if_neg hb]
        have hw : (decide (a ≤ n) && decide (n ≤ b)) = true := by simp; omega
        rw [hw, wE_true]
        exact ⟨fun _ h => (by cases h), fun _ _ h => by cases h; exact ⟨by simp, rfl, rfl⟩⟩
/-- So often. -/
def itS {α : Type} (S : List UInt8 → Int → Int → α × Int × Int) (l : List UInt8) (i er : Int) : Nat → List α × Int × Int
  | 0 => ([], i, er)
  | k + 1 => ((itS S l i er k).1 ++ [(S l (itS S l i er k).2.1 (itS S l i er k).2.2).1], (S l (itS S l i er k).2.1 (itS S l i er k).2.2).2)
theorem itS_len {α : Type} (S : List UInt8 → Int → Int → α × Int × Int) (l : List UInt8) (i er : Int) : ∀ k, (itS S l i er k).1.length = k
  | 0 => rfl
  | k + 1 => by
    have := itS_len S l i er k
    simp [itS, this]
theorem sim_many {α : Type} {P : Rd α} {S : List UInt8 → Int → Int → α × Int × Int} (h : Sim P S) (n : Nat) : Sim (manyR P n) (fun l i er => itS S l i er n) := by
  refine ⟨fun l i er he => ?_, fun l i er hv => ?_, fun l i h0 h1 => ?_⟩
  · show (itS S l i er n).2.2 = er
    induction n with
    | zero => rfl
    | succ n ih =>
      show (S l _ (itS S l i er n).2.2).2.2 = er
      rw [h.1 _ _ _ (by rw [ih]; exact he), ih]
  · show Vl l (itS S l i er n).2.1 (itS S l i er n).2.2
    induction n with
    | zero => exact hv
    | succ n ih => exact h.2.1 _ _ _ ih
  · have inv : ∀ k, k ≤ n → ((itS S l i 0 k).2.2 = 0 ∧ Vl l (itS S l i 0 k).2.1 0 ∧ manyR P n (l.drop i.toNat) = contM (itS S l i 0 k).1 (manyR P (n - k) (l.drop (itS S l i 0 k).2.1.toNat))) ∨ ((itS S l i 0 k).2.2 ≠ 0 ∧ manyR P n (l.drop i.toNat) = .inl (itS S l i 0 k).2.2) := by
      intro k
      induction k with
      | zero => exact fun _ => .inl ⟨rfl, fun _ => ⟨h0, h1⟩, by rw [show itS S l i 0 0 = ([], i, 0) from rfl, Nat.sub_zero, contM_start]⟩
      | succ k ih =>
        intro hk
        have hs : itS S l i 0 (k + 1) = ((itS S l i 0 k).1 ++ [(S l (itS S l i 0 k).2.1 (itS S l i 0 k).2.2).1], (S l (itS S l i 0 k).2.1 (itS S l i 0 k).2.2).2) := rfl
        rw [hs]
        rcases ih (by omega) with ⟨e0, v0, hm⟩ | ⟨e0, hm⟩
        · rw [e0]
          obtain ⟨g0, g1⟩ := v0 rfl
          obtain ⟨s1, s2⟩ := h.2.2 l _ g0 g1
          cases hp : P (l.drop (itS S l i 0 k).2.1.toNat) with
          | inl e =>
            obtain ⟨e1, e2⟩ := s1 e hp
            exact .inr ⟨by rw [e1]; exact e2, by rw [hm, e1, show n - k = (n - (k + 1)) + 1 by omega, contM_bad _ _ hp]⟩
          | inr x =>
            obtain ⟨a, r⟩ := x
            obtain ⟨e1, e2, e3⟩ := s2 a r hp
            refine .inl ⟨e2, fun _ => ?_, ?_⟩
            · exact h.2.1 l _ 0 (fun _ => ⟨g0, g1⟩) e2
            · rw [hm, e1, e3, show n - k = (n - (k + 1)) + 1 by omega, contM_step _ _ hp]
        · right
          rw [h.1 _ _ _ e0]
          exact ⟨e0, hm⟩
    rcases inv n (Nat.le_refl _) with ⟨e0, v0, hm⟩ | ⟨e0, hm⟩
    · rw [Nat.sub_self, contM_end] at hm
      rw [hm]
      exact ⟨fun _ h => (by cases h), fun _ _ h => by cases h; exact ⟨rfl, e0, rfl⟩⟩
    · rw [hm]
      exact ⟨fun _ h => by cases h; exact ⟨rfl, e0⟩, fun _ _ h => by cases h⟩
theorem sim_ins : Sim insR insS := by
  refine ⟨fun l i er h => ?_, fun l i er h => ?_, fun l i h0 h1 => ?_⟩
  · unfold insS
    rw [opS_keep h]
    simp only
    rw [rdS_keep h]
    simp only
    rw [wE_keep h, rdS_keep h]
    simp only
    rw [wE_keep h]
    split
    · rfl
    · split <;> rfl
  · unfold insS
    split
    · exact h.op
    · split
      · exact Vl.want (by decide) h.op.rd
      · exact Vl.want (by decide) (Vl.rd (Vl.want (by decide) h.op.rd))
  · have hop : opS l i 0 = (match l.drop i.toNat with | [] => (0, i, 10) | c :: _ => ((c.toNat : Int), i + 1, wE (decide ((c.toNat : Int) < 17)) 71 0)) := by unfold opS; rw [if_neg (by simp)]
    cases hd : l.drop i.toNat with
    | nil =>
      rw [hd] at hop
      simp only at hop
      have hi : (insS l i 0).2.2 = 10 := by
        unfold insS
        rw [hop]
        simp only
        rw [rdS_keep (by decide)]
        simp only
        rw [wE_keep (by decide), rdS_keep (by decide)]
        simp only
        rw [wE_keep (by decide)]
        split
        · rfl
        · split <;> rfl
      exact ⟨fun e h => by cases h; exact ⟨hi, by decide⟩, fun _ _ h => by cases h⟩
    | cons c r =>
      rw [hd] at hop
      simp only at hop
      have hr : l.drop (i + 1).toNat = r := by
        have : l.drop (i.toNat + 1) = (l.drop i.toNat).drop 1 := by rw [List.drop_drop]
        rw [show (i + 1).toNat = i.toNat + 1 by omega, this, hd]
        rfl
      have hle : i + 1 ≤ l.length := by
        have := congrArg List.length hd
        rw [List.length_drop, List.length_cons] at this
        omega
      unfold insR
      simp only
      by_cases hc : 16 < c.toNat
      · rw [if_pos hc]
        rw [show wE (decide ((c.toNat : Int) < 17)) 71 0 = 71 by unfold wE; rw [if_pos ⟨rfl, by simp; omega⟩]] at hop
        have hi : (insS l i 0).2.2 = 71 := by
          unfold insS
          rw [hop]
          simp only
          rw [rdS_keep (by decide)]
          simp only
          rw [wE_keep (by decide), rdS_keep (by decide)]
          simp only
          rw [wE_keep (by decide)]
          split
          · rfl
          · split <;> rfl
        exact ⟨fun e h => by cases h; exact ⟨hi, by decide⟩, fun _ _ h => by cases h⟩
      · rw [if_neg hc]
        rw [show wE (decide ((c.toNat : Int) < 17)) 71 0 = 0 by unfold wE; rw [if_neg (by simp; omega)]] at hop
        have hob : opB c = (c.toNat : Int) := rfl
        rw [hob]
        unfold insS
        rw [hop]
        simp only
        by_cases hf : (rz (c.toNat : Int)).f < 1
        · rw [if_pos hf, if_pos hf]
          exact ⟨fun _ h => (by cases h), fun _ _ h => by cases h; exact ⟨rfl, rfl, hr⟩⟩
        · rw [if_neg hf, if_neg hf]
          have hrd : rdS l (i + 1) 0 = ((getL r 0 0).1, i + 1 + (getL r 0 0).2.1, (getL r 0 0).2.2) := by unfold rdS; rw [if_neg (by simp), hr]
          have hg := get_bd r
          have hrl : (r.length : Int) = l.length - (i + 1) := by rw [← hr, List.length_drop]; omega
          have hr2 : l.drop (i + 1 + (getL r 0 0).2.1).toNat = r.drop (getL r 0 0).2.1 := by
            rw [← hr, List.drop_drop]
            congr 1
            omega
          rw [hrd]
          simp only
          unfold andR numR
          try simp only
          generalize (getL r 0 0).1 = n at *
          generalize (getL r 0 0).2.1 = k at *
          generalize (getL r 0 0).2.2 = er at *
          by_cases he : er ≠ 0
          · rw [if_pos he, wE_keep he, rdS_keep he]
            simp only
            rw [wE_keep he]
            refine ⟨fun e h => ?_, fun _ _ h => by cases h⟩
            cases h
            split
            · exact ⟨rfl, he⟩
            · exact ⟨rfl, he⟩
          · have he : er = 0 := by omega
            subst he
            rw [if_neg (by simp)]
            by_cases hm : mayZ (c.toNat : Int) n 0 = true
            · have hb := (row_bounds hm).1
              rw [if_neg (by omega), hm, wE_true]
              simp only
              unfold insQ1
              rw [hm]
              simp only [Bool.true_eq_false, if_false]
              by_cases hf2 : (rz (c.toNat : Int)).f < 2
              · rw [if_pos hf2, if_pos hf2]
                exact ⟨fun _ h => (by cases h), fun _ _ h => by cases h; exact ⟨rfl, rfl, hr2⟩⟩
              · rw [if_neg hf2, if_neg hf2]
                have hk := hg.2.2.1 rfl
                have hrd2 : rdS l (i + 1 + k) 0 = ((getL (r.drop k) 0 0).1, i + 1 + k + (getL (r.drop k) 0 0).2.1, (getL (r.drop k) 0 0).2.2) := by unfold rdS; rw [if_neg (by simp), hr2]
                have hg2 := get_bd (r.drop k)
                have hr3 : l.drop (i + 1 + k + (getL (r.drop k) 0 0).2.1).toNat = (r.drop k).drop (getL (r.drop k) 0 0).2.1 := by
                  rw [← hr2, List.drop_drop]
                  congr 1
                  omega
                rw [hrd2]
                simp only
                unfold andR numR
                try simp only
                generalize (getL (r.drop k) 0 0).1 = n2 at *
                generalize (getL (r.drop k) 0 0).2.1 = k2 at *
                generalize (getL (r.drop k) 0 0).2.2 = er2 at *
                by_cases he2 : er2 ≠ 0
                · rw [if_pos he2, wE_keep he2]
                  exact ⟨fun e h => by cases h; exact ⟨rfl, he2⟩, fun _ _ h => by cases h⟩
                · have he2 : er2 = 0 := by omega
                  subst he2
                  rw [if_neg (by simp)]
                  by_cases hm2 : mayZ (c.toNat : Int) n n2 = true
                  · have hb2 := (row_bounds hm2).2.1
                    rw [if_neg (by omega), hm2, wE_true]
                    simp only
                    unfold insQ2
                    rw [hm2]
                    simp only [Bool.true_eq_false, if_false]
                    exact ⟨fun _ h => (by cases h), fun _ _ h => by cases h; exact ⟨rfl, trivial, hr3⟩⟩
                  · have hm3 : mayZ (c.toNat : Int) n n2 = false := by simpa using hm2
                    rw [hm3, show wE false 71 0 = 71 from rfl]
                    by_cases hb : n2 < 0 ∨ 281474976710656 < n2
                    · rw [if_pos hb]
                      exact ⟨fun e h => by cases h; exact ⟨rfl, by decide⟩, fun _ _ h => by cases h⟩
                    · rw [if_neg hb]
                      unfold insQ2
                      simp only
                      rw [hm3]
                      simp only [if_true]
                      exact ⟨fun e h => by cases h; exact ⟨rfl, by decide⟩, fun _ _ h => by cases h⟩
            · have hm3 : mayZ (c.toNat : Int) n 0 = false := by simpa using hm
              rw [hm3, show wE false 71 0 = 71 from rfl, rdS_keep (by decide)]
              simp only
              rw [wE_keep (by decide)]
              have hfin : (if (rz (c.toNat : Int)).f < 2 then (((c.toNat : Int), n, (0 : Int)), i + 1 + (k : Int), (71 : Int)) else (((c.toNat : Int), n, (0 : Int)), i + 1 + (k : Int), (71 : Int))).2.2 = 71 := by split <;> rfl
              by_cases hb : n < 0 ∨ 281474976710656 < n
              · rw [if_pos hb]
                exact ⟨fun e h => by cases h; exact ⟨hfin, by decide⟩, fun _ _ h => by cases h⟩
              · rw [if_neg hb]
                unfold insQ1
                simp only
                rw [hm3]
                simp only [if_true]
                exact ⟨fun e h => by cases h; exact ⟨hfin, by decide⟩, fun _ _ h => by cases h⟩
theorem sim_ret {α : Type} (a : α) : Sim (retR a) (fun _ i er => (a, i, er)) := by
  refine ⟨fun _ _ _ _ => rfl, fun _ _ _ h => h, fun l i _ _ => ⟨fun e h => ?_, fun b r h => ?_⟩⟩
  · have h' : (Sum.inr (a, l.drop i.toNat) : Sum Int (α × List UInt8)) = .inl e := h
    cases h'
  · have h' : (Sum.inr (a, l.drop i.toNat) : Sum Int (α × List UInt8)) = .inr (b, r) := h
    simp only [Sum.inr.injEq, Prod.mk.injEq] at h'
    exact ⟨h'.1, rfl, h'.2⟩
theorem sim_and {α β : Type} {P : Rd α} {S : List UInt8 → Int → Int → α × Int × Int} {Q : α → Rd β} {R : α → List UInt8 → Int → Int → β × Int × Int} (h : Sim P S) (g : ∀ a, Sim (Q a) (R a)) :
    Sim (andR P Q) (fun l i er => R (S l i er).1 l (S l i er).2.1 (S l i er).2.2) := by
  refine ⟨fun l i er he => ?_, fun l i er hv => ?_, fun l i h0 h1 => ?_⟩
  · have e1 := h.1 l i er he
    simp only
    rw [(g _).1 _ _ _ (by rw [e1]; exact he), e1]
  · exact (g _).2.1 _ _ _ (h.2.1 _ _ _ hv)
  · obtain ⟨s1, s2⟩ := h.2.2 l i h0 h1
    unfold andR
    cases hp : P (l.drop i.toNat) with
    | inl e =>
      obtain ⟨e1, e2⟩ := s1 e hp
      refine ⟨fun e' h' => ?_, fun _ _ h' => by cases h'⟩
      cases h'
      simp only
      rw [(g _).1 _ _ _ (by rw [e1]; exact e2), e1]
      exact ⟨rfl, e2⟩
    | inr x =>
      obtain ⟨a, r⟩ := x
      obtain ⟨e1, e2, e3⟩ := s2 a r hp
      have hv := h.2.1 l i 0 (fun _ => ⟨h0, h1⟩) e2
      have hq := (g a).2.2 l _ hv.1 hv.2
      rw [e3] at hq
      simp only
      rw [e1, e2]
      exact hq
def funS (l : List UInt8) (i er : Int) : Fun × Int × Int :=
  (⟨(nmS 0 16 l i er).1, (nmS 0 16 l (nmS 0 16 l i er).2.1 (nmS 0 16 l i er).2.2).1,
      (nmS 0 8 l (nmS 0 16 l (nmS 0 16 l i er).2.1 (nmS 0 16 l i er).2.2).2.1 (nmS 0 16 l (nmS 0 16 l i er).2.1 (nmS 0 16 l i er).2.2).2.2).1,
      (itS insS l (nmS 1 200 l (nmS 0 8 l (nmS 0 16 l (nmS 0 16 l i er).2.1 (nmS 0 16 l i er).2.2).2.1 (nmS 0 16 l (nmS 0 16 l i er).2.1 (nmS 0 16 l i er).2.2).2.2).2.1 (nmS 0 8 l (nmS 0 16 l (nmS 0 16 l i er).2.1 (nmS 0 16 l i er).2.2).2.1 (nmS 0 16 l (nmS 0 16 l i er).2.1 (nmS 0 16 l i er).2.2).2.2).2.2).2.1
        (nmS 1 200 l (nmS 0 8 l (nmS 0 16 l (nmS 0 16 l i er).2.1 (nmS 0 16 l i er).2.2).2.1 (nmS 0 16 l (nmS 0 16 l i er).2.1 (nmS 0 16 l i er).2.2).2.2).2.1 (nmS 0 8 l (nmS 0 16 l (nmS 0 16 l i er).2.1 (nmS 0 16 l i er).2.2).2.1 (nmS 0 16 l (nmS 0 16 l i er).2.1 (nmS 0 16 l i er).2.2).2.2).2.2).2.2
        (nmS 1 200 l (nmS 0 8 l (nmS 0 16 l (nmS 0 16 l i er).2.1 (nmS 0 16 l i er).2.2).2.1 (nmS 0 16 l (nmS 0 16 l i er).2.1 (nmS 0 16 l i er).2.2).2.2).2.1 (nmS 0 8 l (nmS 0 16 l (nmS 0 16 l i er).2.1 (nmS 0 16 l i er).2.2).2.1 (nmS 0 16 l (nmS 0 16 l i er).2.1 (nmS 0 16 l i er).2.2).2.2).2.2).1.toNat).1⟩,
    (itS insS l (nmS 1 200 l (nmS 0 8 l (nmS 0 16 l (nmS 0 16 l i er).2.1 (nmS 0 16 l i er).2.2).2.1 (nmS 0 16 l (nmS 0 16 l i er).2.1 (nmS 0 16 l i er).2.2).2.2).2.1 (nmS 0 8 l (nmS 0 16 l (nmS 0 16 l i er).2.1 (nmS 0 16 l i er).2.2).2.1 (nmS 0 16 l (nmS 0 16 l i er).2.1 (nmS 0 16 l i er).2.2).2.2).2.2).2.1
        (nmS 1 200 l (nmS 0 8 l (nmS 0 16 l (nmS 0 16 l i er).2.1 (nmS 0 16 l i er).2.2).2.1 (nmS 0 16 l (nmS 0 16 l i er).2.1 (nmS 0 16 l i er).2.2).2.2).2.1 (nmS 0 8 l (nmS 0 16 l (nmS 0 16 l i er).2.1 (nmS 0 16 l i er).2.2).2.1 (nmS 0 16 l (nmS 0 16 l i er).2.1 (nmS 0 16 l i er).2.2).2.2).2.2).2.2
        (nmS 1 200 l (nmS 0 8 l (nmS 0 16 l (nmS 0 16 l i er).2.1 (nmS 0 16 l i er).2.2).2.1 (nmS 0 16 l (nmS 0 16 l i er).2.1 (nmS 0 16 l i er).2.2).2.2).2.1 (nmS 0 8 l (nmS 0 16 l (nmS 0 16 l i er).2.1 (nmS 0 16 l i er).2.2).2.1 (nmS 0 16 l (nmS 0 16 l i er).2.1 (nmS 0 16 l i er).2.2).2.2).2.2).1.toNat).2)
theorem sim_fun : Sim funR funS :=
  sim_and (sim_num 0 16) fun a => sim_and (sim_num 0 16) fun b => sim_and (sim_num 0 8) fun s => sim_and (sim_num 1 200) fun n => sim_and (sim_many sim_ins n.toNat) fun c => sim_ret (⟨a, b, s, c⟩ : Fun)
def progS (l : List UInt8) (i er : Int) : List Fun × Int × Int := itS funS l (nmS 1 16 l i er).2.1 (nmS 1 16 l i er).2.2 (nmS 1 16 l i er).1.toNat
theorem sim_prog : Sim progR progS := sim_and (sim_num 1 16) fun n => sim_many sim_fun n.toNat
theorem nmS_bd {a b : Int} (ha : 0 ≤ a) (hb : a ≤ b) (l : List UInt8) (i er : Int) : 0 ≤ (nmS a b l i er).1 ∧ (nmS a b l i er).1 ≤ b := by
  unfold nmS nmW
  have := rdS_bd l i er
  simp only
  split
  · omega
  · rename_i h
    have h' : wE (decide (a ≤ (rdS l i er).1) && decide ((rdS l i er).1 ≤ b)) 71 (rdS l i er).2.2 = 0 := by simpa using h
    have := (wE_zero (by decide) h').2
    simp at this
    omega
theorem dec_sim (l : List UInt8) : decP l = (if wE (decide ((progS l 0 0).2.1 = l.length)) 72 (progS l 0 0).2.2 ≠ 0 then [] else (progS l 0 0).1, wE (decide ((progS l 0 0).2.1 = l.length)) 72 (progS l 0 0).2.2) := by
  obtain ⟨s1, s2⟩ := sim_prog.2.2 l 0 (by omega) (by omega)
  have hv := sim_prog.2.1 l 0 0 (fun _ => ⟨by omega, by omega⟩)
  rw [show l.drop (0 : Int).toNat = l from rfl] at s1 s2
  unfold decP
  cases hp : progR l with
  | inl e =>
    obtain ⟨e1, e2⟩ := s1 e hp
    rw [e1, wE_keep e2, if_pos e2]
  | inr x =>
    obtain ⟨p, r⟩ := x
    obtain ⟨e1, e2, e3⟩ := s2 p r hp
    obtain ⟨v0, v1⟩ := hv e2
    rw [e1, e2]
    by_cases hr : r = []
    · have hd : decide ((progS l 0 0).2.1 = l.length) = true := by
        rw [hr, List.drop_eq_nil_iff] at e3
        simp
        omega
      rw [hd, wE_true]
      simp [hr]
    · have hd : decide ((progS l 0 0).2.1 = l.length) = false := by
        simp
        intro h
        rw [h] at e3
        apply hr
        rw [← e3]
        simp
      rw [hd]
      simp [hr, wE]
end Go.Proofs.YtcfdbciooimjmaaGreatDoor

/- Layer 7, plain: the program whose answers the document fixes. -/
namespace Go.Proofs.YtcfdbciooimjmaaGreatDoor
set_option linter.unusedVariables false
set_option linter.unusedSimpArgs false
open Go

deriving instance DecidableEq for Fun
def p0 : List Fun := [⟨0, 1, 2, [(0, 1, 2), (13, 0, 1), (15, 0, 0)]⟩, ⟨1, 1, 0, [(16, 16, 0)]⟩]
def s0 : List UInt8 := [102, 117, 110, 99, 32, 48, 32, 49, 32, 50, 10, 112, 117, 115, 104, 32, 49, 32, 50, 10, 115, 112, 97, 119, 110, 32, 48, 32, 49, 10, 114, 101, 116, 10, 102, 117, 110, 99, 32, 49, 32, 49, 32, 48, 10, 116, 114, 97, 112, 32, 49, 54, 10]
def b0 : List UInt8 := [2, 0, 1, 2, 3, 0, 1, 2, 13, 0, 1, 15, 1, 1, 0, 1, 16, 16]
theorem may0 : mayP p0 = true := by decide +kernel
theorem text0 : textP p0 = s0 := by decide +kernel
theorem enc0 : encP p0 = b0 := by decide +kernel
theorem parse0 : parseP s0 = (p0, 6, 0) := by
  have := parse_text may0
  rw [text0] at this
  rw [this]
  congr 2
theorem parse1 : parseP (s0 ++ [120]) = ([], 6, 70) := by decide +kernel
theorem parse2 : parseP [102, 117, 110, 99, 32, 48, 32, 48, 32, 48, 10, 114, 101, 116, 32, 49, 10] = ([], 1, 70) := by decide +kernel
theorem dec0 : decP b0 = (p0, 0) := by
  have := dec_back may0
  rw [enc0] at this
  exact this
theorem dec1 : decP (b0 ++ [120]) = ([], 72) := by decide +kernel
theorem dec2 : decP [0] = ([], 71) := by decide +kernel
theorem dec3 : decP [1, 0, 0, 0, 1, 17] = ([], 71) := by decide +kernel
theorem may1 : mayP [] = false := by decide +kernel
theorem text1 : textP [] = [] := by decide +kernel
end Go.Proofs.YtcfdbciooimjmaaGreatDoor

