/- Layer 6, plain: the operations, by their numbers and names; which instructions may be. -/
import Derived.WalkKit
import Derived.ProofKit
import Derived.Lib.ItoaNum
import Derived.Lib.IndexMore
import Derived.Lib.Split
import Derived.Lib.AtoiAll
import Derived.Lib.AtoiAllCases
namespace Go.Proofs.YtagjddnpaahebaaGreatDoor
set_option linter.unusedVariables false
set_option linter.unusedSimpArgs false
open Go

/-- A row of the table: name, fields, pops, pushes, first and last of the first field, last of the second one. -/
structure Orow where
  nm : ByteArray
  f : Int
  p : Int
  q : Int
  lo : Int
  la : Int
  lb : Int
def opTab : List Orow := [
  ⟨⟨#[112, 117, 115, 104]⟩, 2, 0, 1, 0, 250, 250⟩,
  ⟨⟨#[108, 111, 97, 100]⟩, 1, 0, 1, 0, 15, 0⟩,
  ⟨⟨#[115, 116, 111, 114, 101]⟩, 1, 1, 0, 0, 15, 0⟩,
  ⟨⟨#[97, 100, 100]⟩, 0, 2, 1, 0, 0, 0⟩,
  ⟨⟨#[115, 117, 98]⟩, 0, 2, 1, 0, 0, 0⟩,
  ⟨⟨#[109, 117, 108]⟩, 0, 2, 1, 0, 0, 0⟩,
  ⟨⟨#[100, 105, 118]⟩, 0, 2, 1, 0, 0, 0⟩,
  ⟨⟨#[99, 111, 110, 106]⟩, 0, 1, 1, 0, 0, 0⟩,
  ⟨⟨#[100, 117, 112]⟩, 0, 1, 2, 0, 0, 0⟩,
  ⟨⟨#[100, 114, 111, 112]⟩, 0, 1, 0, 0, 0, 0⟩,
  ⟨⟨#[106, 117, 109, 112]⟩, 1, 0, 0, 0, 199, 0⟩,
  ⟨⟨#[122, 101, 114, 111]⟩, 1, 1, 0, 0, 199, 0⟩,
  ⟨⟨#[114, 97, 110, 100]⟩, 0, 0, 1, 0, 0, 0⟩,
  ⟨⟨#[115, 112, 97, 119, 110]⟩, 2, 0, 0, 0, 15, 7⟩,
  ⟨⟨#[106, 111, 105, 110]⟩, 1, 0, 1, 0, 7, 0⟩,
  ⟨⟨#[114, 101, 116]⟩, 0, 1, 0, 0, 0, 0⟩,
  ⟨⟨#[116, 114, 97, 112]⟩, 1, 0, 0, 16, 255, 0⟩]
def noOp : Orow := ⟨⟨#[]⟩, 0, 0, 0, 0, 0, 0⟩
/-- The operation of a number. -/
def orow (n : Nat) : Orow := opTab.getD n noOp
def okZ (n : Int) : Bool := decide (0 ≤ n) && decide (n ≤ 16)
def rz (n : Int) : Orow := if okZ n = true then orow n.toNat else noOp
theorem opTab_get {k : Nat} (hk : k < 17) : opTab[k]? = some (orow k) := by
  unfold orow
  rw [List.getD_eq_getElem?_getD]
  have : k < opTab.length := hk
  rw [List.getElem?_eq_getElem this]
  rfl
theorem rz_in {k : Nat} (h : k < 17) : rz k = orow k := by
  unfold rz
  rw [if_pos (by simp [okZ]; omega)]
  rfl
theorem rz_out {n : Int} (h : okZ n = false) : rz n = noOp := by unfold rz; rw [if_neg (by simp [h])]
theorem okZ_cases (n : Int) : (∃ k : Nat, k < 17 ∧ n = k) ∨ okZ n = false := by
  by_cases h : okZ n = true
  · simp only [okZ, Bool.and_eq_true, decide_eq_true_eq] at h
    exact .inl ⟨n.toNat, by omega, by omega⟩
  · exact .inr (by simpa using h)

/-- Whether two texts are the same. -/
def eqS (a b : ByteArray) : Bool := decide (a = b)
theorem eqS_toList (a b : ByteArray) : (a.toList == b.toList) = eqS a b := by
  unfold eqS
  by_cases h : a = b
  · simp [h]
  · rw [decide_eq_false h]
    refine beq_eq_false_iff_ne.2 fun he => h ?_
    rw [ByteArray.toList_eq, ByteArray.toList_eq] at he
    exact ByteArray.ext (Array.toList_inj.1 he)
theorem eqS_iff {a b : ByteArray} : eqS a b = true ↔ a = b := by simp [eqS]

/-- The number of the operation of a name; 17 if there is none. -/
def idxN (s : ByteArray) : Nat := opTab.findIdx fun r => eqS r.nm s
theorem idx_le (s : ByteArray) : idxN s ≤ 17 := List.findIdx_le_length
theorem orow_get {k : Nat} (h : k < opTab.length) : opTab[k] = orow k := Option.some.inj ((List.getElem?_eq_getElem h).symm.trans (opTab_get h))
theorem idx_hit {s : ByteArray} {k : Nat} (hk : k < 17) (h : eqS (orow k).nm s = true) (hn : ∀ j, j < k → eqS (orow j).nm s = false) : idxN s = k := by
  have hl : k < opTab.length := hk
  refine (List.findIdx_eq hl).2 ⟨?_, fun j hj => ?_⟩
  · rw [orow_get hl]; exact h
  · rw [orow_get (Nat.lt_trans hj hl)]; exact hn j hj
theorem idx_miss {s : ByteArray} (hn : ∀ j, j < 17 → eqS (orow j).nm s = false) : idxN s = 17 := by
  rcases Nat.lt_or_ge (idxN s) 17 with h | h
  · have hl : opTab.findIdx (fun r => eqS r.nm s) < opTab.length := h
    have := List.findIdx_getElem (w := hl)
    rw [orow_get hl] at this
    exact absurd (hn _ h) (by simpa [idxN] using this)
  · exact Nat.le_antisymm (idx_le s) h
/-- What finding a name tells. -/
def numF (s : ByteArray) : Int := ((if idxN s < 17 then idxN s else 0 : Nat) : Int)
def isF (s : ByteArray) : Bool := decide (idxN s < 17)
theorem fnd_hit {s : ByteArray} {k : Nat} (h : idxN s = k) (hk : k < 17) : numF s = k ∧ isF s = true := by
  unfold numF isF
  rw [h, if_pos hk]
  exact ⟨rfl, decide_eq_true hk⟩
theorem fnd_miss {s : ByteArray} (h : idxN s = 17) : numF s = 0 ∧ isF s = false := by
  unfold numF isF
  rw [h]
  exact ⟨rfl, rfl⟩
theorem idx_name {s : ByteArray} (h : idxN s < 17) : (orow (idxN s)).nm = s := by
  have hl : opTab.findIdx (fun r => eqS r.nm s) < opTab.length := h
  have := List.findIdx_getElem (w := hl)
  rw [orow_get hl] at this
  exact eqS_iff.1 this

/-- An instruction. -/
abbrev iv (o a b : Int) : Value := .agg #[.int .i64 o, .int .i64 a, .int .i64 b]
/-- Whether it may be. -/
def mayZ (o a b : Int) : Bool := okZ o && (decide ((rz o).lo ≤ a) && decide (a ≤ (rz o).la)) && (decide (0 ≤ b) && decide (b ≤ (rz o).lb))

theorem f_of : ∀ k, k < 17 → (orow k).f = (if k = 0 ∨ k = 13 then 2 else if k = 1 ∨ k = 2 ∨ k = 10 ∨ k = 11 ∨ k = 14 ∨ k = 16 then 1 else 0) := by decide
theorem p_of : ∀ k, k < 17 → (orow k).p = (if k = 3 ∨ k = 4 ∨ k = 5 ∨ k = 6 then 2 else if k = 2 ∨ k = 7 ∨ k = 8 ∨ k = 9 ∨ k = 11 ∨ k = 15 then 1 else 0) := by decide
theorem q_of : ∀ k, k < 17 → (orow k).q = (if k = 8 then 2 else if k = 0 ∨ k = 1 ∨ k = 3 ∨ k = 4 ∨ k = 5 ∨ k = 6 ∨ k = 7 ∨ k = 12 ∨ k = 14 then 1 else 0) := by decide
theorem l_of : ∀ k, k < 17 → (orow k).la = (if k = 0 then 250 else if k = 1 ∨ k = 2 ∨ k = 13 then 15 else if k = 10 ∨ k = 11 then 199 else if k = 14 then 7 else if k = 16 then 255 else 0) := by decide
theorem b_of : ∀ k, k < 17 → (orow k).lb = (if k = 0 then 250 else if k = 13 then 7 else 0) := by decide
theorem o_of : ∀ k, k < 17 → (orow k).lo = (if k = 16 then 16 else 0) := by decide
theorem okZ_no {n : Int} (h : okZ n = false) : n < 0 ∨ 16 < n := by
  simp only [okZ, Bool.and_eq_false_iff, decide_eq_false_iff_not] at h
  omega

/-- A field's greatest number, as the document has it. -/
def mostZ (o j : Int) : Int := if o = 0 then 250 else if o = 1 ∨ o = 2 then 15 else if o = 10 ∨ o = 11 then 199 else if o = 13 then (if j = 1 then 7 else 15) else if o = 14 then 7 else 255
/-- What the document finds. -/
def rfnd (s : ByteArray) : Int := if isF s = true then numF s else -1
theorem rfnd_hit {s : ByteArray} {k : Nat} (h : idxN s = k) (hk : k < 17) : rfnd s = k := by
  unfold rfnd
  rw [(fnd_hit h hk).2, (fnd_hit h hk).1]
  rfl
theorem rfnd_miss {s : ByteArray} (h : idxN s = 17) : rfnd s = -1 := by
  unfold rfnd
  rw [(fnd_miss h).2]
  rfl

theorem idx_own : ∀ k, k < 17 → idxN (orow k).nm = k := by decide +kernel
theorem nm_some : ∀ k, k < 17 → ((orow k).nm.toList == []) = false := by decide +kernel
theorem none_found : numF ⟨#[]⟩ = 0 ∧ isF ⟨#[]⟩ = false := ⟨by kernel_rfl, by kernel_rfl⟩
theorem row_ok : ∀ k, k < 17 → 0 ≤ (orow k).lo ∧ ((orow k).lo = 0 ∨ (k = 16 ∧ (orow k).lo = 16)) ∧ (orow k).la ≤ 255 ∧ (orow k).lb ≤ 255 ∧ (((orow k).f = 0 ∧ (orow k).la = 0 ∧ (orow k).lb = 0) ∨ ((orow k).f = 1 ∧ (orow k).lb = 0) ∨ (orow k).f = 2) := by decide
theorem may_iff {k : Nat} (hk : k < 17) (a b : Int) : mayZ k a b = true ↔ (orow k).lo ≤ a ∧ a ≤ (orow k).la ∧ 0 ≤ b ∧ b ≤ (orow k).lb := by
  unfold mayZ
  rw [rz_in hk, show okZ (k : Int) = true by simp [okZ]; omega]
  simp [and_assoc]
theorem size_ok : ∀ k, k < 17 → 2 ≤ (orow k).nm.size ∧ (orow k).nm.size ≤ 5 ∧ (orow k).nm.data.toList.all (fun c => decide (97 ≤ c.toNat) && decide (c.toNat ≤ 122)) = true := by decide +kernel
theorem apart : ∀ k, k < 17 → ∀ j, j < 17 → k ≠ j → (orow k).nm.size ≤ (orow j).nm.size → ((orow j).nm.extract 0 (orow k).nm.size).data.toList ≠ (orow k).nm.data.toList := by decide +kernel
theorem letter {k : Nat} (hk : k < 17) (i : Nat) (hi : i < (orow k).nm.size) : 97 ≤ ((orow k).nm[i]'hi).toNat ∧ ((orow k).nm[i]'hi).toNat ≤ 122 := by
  have h := List.all_eq_true.1 (size_ok k hk).2.2 ((orow k).nm[i]'hi) (by
    have : i < (orow k).nm.data.toList.length := by simpa using hi
    exact List.mem_iff_getElem.2 ⟨i, this, by simp; rfl⟩)
  simpa using h
end Go.Proofs.YtagjddnpaahebaaGreatDoor

/- Layer 7, plain: texts cut at a byte, and joined; numbers in digits. -/
namespace Go.Proofs.YtagjddnpaahebaaGreatDoor
set_option linter.unusedVariables false
set_option linter.unusedSimpArgs false
open Go

/-- A text cut at each byte c. -/
def splitL (c : UInt8) : List UInt8 → List (List UInt8)
  | [] => [[]]
  | x :: r => if x = c then [] :: splitL c r else match splitL c r with
    | w :: ws => (x :: w) :: ws
    | [] => [[x]]
def joinC (c : UInt8) : List (List UInt8) → List UInt8
  | [] => []
  | [w] => w
  | w :: v :: ws => w ++ c :: joinC c (v :: ws)
theorem splitL_ne (c : UInt8) (l : List UInt8) : splitL c l ≠ [] := by
  induction l with
  | nil => simp [splitL]
  | cons x r ih =>
    unfold splitL
    split
    · simp
    · cases h : splitL c r with
      | nil => exact absurd h ih
      | cons w ws => simp
theorem joinC_cons (c x : UInt8) (w : List UInt8) (ws : List (List UInt8)) : joinC c ((x :: w) :: ws) = x :: joinC c (w :: ws) := by
  cases ws <;> simp [joinC]
theorem joinC_nil_cons (c : UInt8) (ws : List (List UInt8)) (h : ws ≠ []) : joinC c ([] :: ws) = c :: joinC c ws := by
  cases ws with
  | nil => exact absurd rfl h
  | cons w ws => simp [joinC]
theorem join_split (c : UInt8) (l : List UInt8) : joinC c (splitL c l) = l := by
  induction l with
  | nil => simp [splitL, joinC]
  | cons x r ih =>
    unfold splitL
    split
    · rename_i h
      rw [joinC_nil_cons c _ (splitL_ne c r), ih, h]
    · cases h : splitL c r with
      | nil => exact absurd h (splitL_ne c r)
      | cons w ws =>
        simp only
        rw [joinC_cons, ← h, ih]
theorem split_free (c : UInt8) (l : List UInt8) : ∀ w ∈ splitL c l, c ∉ w := by
  induction l with
  | nil => simp [splitL]
  | cons x r ih =>
    unfold splitL
    split
    · intro w hw
      rcases List.mem_cons.1 hw with rfl | hw
      · simp
      · exact ih w hw
    · rename_i hx
      cases h : splitL c r with
      | nil => exact absurd h (splitL_ne c r)
      | cons v vs =>
        rw [h] at ih
        intro w hw
        rcases List.mem_cons.1 hw with rfl | hw
        · have := ih v (by simp)
          simp [this, Ne.symm hx]
        · exact ih w (by simp [hw])
theorem split_word (c : UInt8) (w : List UInt8) (h : c ∉ w) : splitL c w = [w] := by
  induction w with
  | nil => rfl
  | cons x r ih =>
    simp only [List.mem_cons, not_or] at h
    unfold splitL
    rw [if_neg (Ne.symm h.1), ih h.2]
theorem split_app (c : UInt8) (w r : List UInt8) (h : c ∉ w) : splitL c (w ++ c :: r) = w :: splitL c r := by
  induction w with
  | nil => simp [splitL]
  | cons x w ih =>
    simp only [List.mem_cons, not_or] at h
    rw [List.cons_append]
    conv => lhs; unfold splitL
    rw [if_neg (Ne.symm h.1), ih h.2]
theorem split_join (c : UInt8) : ∀ (ws : List (List UInt8)), ws ≠ [] → (∀ w ∈ ws, c ∉ w) → splitL c (joinC c ws) = ws
  | [], h, _ => absurd rfl h
  | [w], _, h => split_word c w (h w (by simp))
  | w :: v :: ws, _, h => by
    rw [joinC, split_app c w _ (h w (by simp)), split_join c (v :: ws) (by simp) (fun x hx => h x (by simp at hx ⊢; exact .inr hx))]
/-- Lines, each with a byte c behind it. -/
def flatC (c : UInt8) (ws : List (List UInt8)) : List UInt8 := (ws.map fun w => w ++ [c]).flatten
theorem flatC_nil (c : UInt8) : flatC c [] = [] := rfl
theorem flatC_cons (c : UInt8) (w : List UInt8) (ws : List (List UInt8)) : flatC c (w :: ws) = w ++ c :: flatC c ws := by simp [flatC]
theorem flatC_app (c : UInt8) (a b : List (List UInt8)) : flatC c (a ++ b) = flatC c a ++ flatC c b := by simp [flatC]
theorem split_flat (c : UInt8) (t : List UInt8) : ∀ (ws : List (List UInt8)), (∀ w ∈ ws, c ∉ w) → splitL c (flatC c ws ++ t) = ws ++ splitL c t
  | [], _ => by simp [flatC]
  | w :: ws, h => by
    rw [flatC_cons, List.append_assoc, List.cons_append, split_app c w _ (h w (by simp)), split_flat c t ws (fun x hx => h x (by simp [hx]))]
    rfl
theorem join_flat (c : UInt8) (t : List UInt8) : ∀ (ws : List (List UInt8)), joinC c (ws ++ [t]) = flatC c ws ++ t
  | [] => by simp [flatC, joinC]
  | w :: ws => by
    rw [flatC_cons, List.cons_append]
    cases h : ws ++ [t] with
    | nil => simp at h
    | cons v vs =>
      rw [joinC, ← h, join_flat c t ws]
      simp

/-- The number that digits are. -/
def valD (w : List UInt8) : Int := w.foldl (fun n c => 10 * n + c.toNat - 48) 0
theorem decd_lt {n : Nat} (h : n < 10) : Lib.decDigits n = [UInt8.ofNat (48 + n % 10)] := by rw [Lib.decDigits, dif_pos h, Nat.mod_eq_of_lt h]
theorem decd_ge {n : Nat} (h : ¬ n < 10) : Lib.decDigits n = Lib.decDigits (n / 10) ++ [UInt8.ofNat (48 + n % 10)] := by rw [Lib.decDigits, dif_neg h]
theorem digit_val (n : Nat) : (UInt8.ofNat (48 + n % 10)).toNat = 48 + n % 10 := by rw [UInt8.toNat_ofNat']; omega
theorem valD_dec (n : Nat) : valD (Lib.decDigits n) = n := by
  induction n using Nat.strongRecOn with
  | _ n ih =>
    by_cases h : n < 10
    · rw [decd_lt h]
      simp only [valD, List.foldl_cons, List.foldl_nil, digit_val]
      omega
    · have := ih (n / 10) (by omega)
      rw [decd_ge h]
      unfold valD at *
      rw [List.foldl_append, this]
      simp only [List.foldl_cons, List.foldl_nil, digit_val]
      omega
theorem dec_digits (n : Nat) : ∀ c ∈ Lib.decDigits n, 48 ≤ c.toNat ∧ c.toNat ≤ 57 := by
  induction n using Nat.strongRecOn with
  | _ n ih =>
    by_cases h : n < 10
    · rw [decd_lt h]
      intro c hc
      simp only [List.mem_singleton] at hc
      subst hc
      rw [digit_val]
      omega
    · rw [decd_ge h]
      intro c hc
      rcases List.mem_append.1 hc with hc | hc
      · exact ih (n / 10) (by omega) c hc
      · simp only [List.mem_singleton] at hc
        subst hc
        rw [digit_val]
        omega
theorem dec_pos (n : Nat) : 1 ≤ (Lib.decDigits n).length := by
  by_cases h : n < 10
  · rw [decd_lt h]; simp
  · rw [decd_ge h]; simp
theorem dec_len3 {n : Nat} (h : n < 1000) : (Lib.decDigits n).length ≤ 3 := by
  by_cases h1 : n < 10
  · rw [decd_lt h1]; simp
  · rw [decd_ge h1]
    by_cases h2 : n / 10 < 10
    · rw [decd_lt h2]; simp
    · rw [decd_ge h2, decd_lt (show n / 10 / 10 < 10 by omega)]; simp
theorem dec_inj {m n : Nat} (h : Lib.decDigits m = Lib.decDigits n) : m = n := by
  have h1 := valD_dec m
  rw [h, valD_dec n] at h1
  omega

/-- A number as its digits. -/
def dgI (n : Int) : List UInt8 := Lib.decDigits n.toNat
/-- The number that a word is; -1: none. -/
def numV (w : List UInt8) : Int := if w.length ≤ 3 ∧ 0 ≤ valD w ∧ dgI (valD w) = w then valD w else -1
theorem numV_dg {n : Int} (h0 : 0 ≤ n) (h1 : n < 1000) : numV (dgI n) = n := by
  have hv : valD (dgI n) = n := by unfold dgI; rw [valD_dec]; omega
  unfold numV
  rw [hv, if_pos ⟨dec_len3 (by omega), h0, rfl⟩]
theorem numV_of {w : List UInt8} (h : 0 ≤ numV w) : dgI (numV w) = w ∧ numV w = valD w ∧ w.length ≤ 3 := by
  unfold numV at *
  split at h
  · rename_i hc
    rw [if_pos hc]
    exact ⟨hc.2.2, rfl, hc.1⟩
  · omega
theorem dgI_inj {m n : Int} (hm : 0 ≤ m) (hn : 0 ≤ n) (h : dgI m = dgI n) : m = n := by
  have := dec_inj h
  omega
theorem dgI_free {c : UInt8} (hc : c.toNat < 48) (n : Int) : c ∉ dgI n := fun h => by
  have := (dec_digits _ c h).1
  omega
theorem strb_size (q : List UInt8) : (⟨q.toArray⟩ : ByteArray).size = q.length := by show q.toArray.size = _; simp
end Go.Proofs.YtagjddnpaahebaaGreatDoor

/- Layer 7, plain: programs, their lines, and their texts. -/
namespace Go.Proofs.YtagjddnpaahebaaGreatDoor
set_option linter.unusedVariables false
set_option linter.unusedSimpArgs false
open Go

/-- A function of a program: its head, and its instructions. -/
structure Fun where
  ar : Int
  lo : Int
  sl : Int
  code : List (Int × Int × Int)
/-- A line of a program's text. -/
inductive PLine where
  | head (a l s : Int)
  | ins (o a b : Int)
def headB (a l s : Int) : Bool := decide (0 ≤ a) && decide (a ≤ 16) && (decide (0 ≤ l) && decide (l ≤ 16)) && (decide (0 ≤ s) && decide (s ≤ 8))
theorem headB_iff (a l s : Int) : headB a l s = true ↔ (0 ≤ a ∧ a ≤ 16) ∧ (0 ≤ l ∧ l ≤ 16) ∧ 0 ≤ s ∧ s ≤ 8 := by
  simp [headB, and_assoc]
def okL : PLine → Bool
  | .head a l s => headB a l s
  | .ins o a b => mayZ o a b
/-- 'func'. -/
def funcW : List UInt8 := [102, 117, 110, 99]
def nmL (o : Int) : List UInt8 := (rz o).nm.data.toList
def wordsL : PLine → List (List UInt8)
  | .head a l s => [funcW, dgI a, dgI l, dgI s]
  | .ins o a b => nmL o :: (if (rz o).f < 1 then [] else if (rz o).f < 2 then [dgI a] else [dgI a, dgI b])
def lineT (x : PLine) : List UInt8 := joinC 32 (wordsL x)

theorem name_fix : ∀ k, k < 17 → (32 : UInt8) ∉ (orow k).nm.data.toList ∧ (10 : UInt8) ∉ (orow k).nm.data.toList ∧ (orow k).nm.data.toList ≠ funcW := by decide +kernel
theorem nmL_in {k : Nat} (hk : k < 17) : nmL k = (orow k).nm.data.toList := by unfold nmL; rw [rz_in hk]
theorem may_in {o a b : Int} (h : mayZ o a b = true) : ∃ k : Nat, k < 17 ∧ o = k := by
  rcases okZ_cases o with h1 | h1
  · exact h1
  · unfold mayZ at h
    rw [h1] at h
    cases h
theorem wordsL_free {x : PLine} (h : okL x = true) (c : UInt8) (hc : c = 32 ∨ c = 10) : ∀ w ∈ wordsL x, c ∉ w := by
  have hd : ∀ n, c ∉ dgI n := fun n => dgI_free (by rcases hc with rfl | rfl <;> decide) n
  cases x with
  | head a l s =>
    intro w hw
    simp only [wordsL, List.mem_cons, List.not_mem_nil, or_false] at hw
    rcases hw with rfl | rfl | rfl | rfl
    · rcases hc with rfl | rfl <;> decide
    · exact hd _
    · exact hd _
    · exact hd _
  | ins o a b =>
    obtain ⟨k, hk, rfl⟩ := may_in h
    intro w hw
    simp only [wordsL, List.mem_cons] at hw
    rcases hw with rfl | hw
    · rw [nmL_in hk]
      rcases hc with rfl | rfl
      · exact (name_fix k hk).1
      · exact (name_fix k hk).2.1
    · split at hw
      · simp at hw
      · split at hw
        · simp only [List.mem_cons, List.not_mem_nil, or_false] at hw
          subst hw
          exact hd _
        · simp only [List.mem_cons, List.not_mem_nil, or_false] at hw
          rcases hw with rfl | rfl
          · exact hd _
          · exact hd _
theorem wordsL_ne (x : PLine) : wordsL x ≠ [] := by cases x <;> simp [wordsL]
theorem split_line {x : PLine} (h : okL x = true) : splitL 32 (lineT x) = wordsL x := split_join 32 _ (wordsL_ne x) (wordsL_free h 32 (.inl rfl))
theorem joinC_free {c d : UInt8} (hcd : c ≠ d) : ∀ (ws : List (List UInt8)), (∀ w ∈ ws, d ∉ w) → d ∉ joinC c ws
  | [], _ => by simp [joinC]
  | [w], h => by simpa [joinC] using h w (by simp)
  | w :: v :: ws, h => by
    rw [joinC, List.mem_append, List.mem_cons]
    rintro (h1 | h1 | h1)
    · exact h w (by simp) h1
    · exact hcd h1.symm
    · exact joinC_free hcd (v :: ws) (fun x hx => h x (by simp at hx ⊢; exact .inr hx)) h1
theorem line_free {x : PLine} (h : okL x = true) : (10 : UInt8) ∉ lineT x := joinC_free (by decide) _ (wordsL_free h 10 (.inr rfl))

/-- The numbers of words; none: one is no number, or there are more than three. -/
def numsW (ws : List (List UInt8)) : Option (List Int) := if ws.length ≤ 3 ∧ ∀ w ∈ ws, 0 ≤ numV w then some (ws.map numV) else none
/-- The line that a text is. -/
def lineOf (l : List UInt8) : Option PLine :=
  match splitL 32 l with
  | [] => none
  | w :: ws => match numsW ws with
    | none => none
    | some ns =>
      if w = funcW then (if ns.length = 3 ∧ headB (ns.getD 0 0) (ns.getD 1 0) (ns.getD 2 0) = true then some (.head (ns.getD 0 0) (ns.getD 1 0) (ns.getD 2 0)) else none)
      else if mayZ (rfnd ⟨w.toArray⟩) (ns.getD 0 0) (ns.getD 1 0) = true ∧ (ns.length : Int) = (rz (rfnd ⟨w.toArray⟩)).f then some (.ins (rfnd ⟨w.toArray⟩) (ns.getD 0 0) (ns.getD 1 0)) else none

theorem bytes_eta (l : List UInt8) : (⟨l.toArray⟩ : ByteArray).data.toList = l := by simp
theorem bytes_ext {a b : ByteArray} (h : a.data.toList = b.data.toList) : a = b := ByteArray.ext (Array.toList_inj.1 h)
theorem rfnd_name {k : Nat} (hk : k < 17) : rfnd ⟨(nmL k).toArray⟩ = k := by
  have h : (⟨(nmL k).toArray⟩ : ByteArray) = (orow k).nm := bytes_ext (by rw [bytes_eta, nmL_in hk])
  rw [h]
  exact rfnd_hit (idx_own k hk) hk
theorem rfnd_of {s : ByteArray} (h : okZ (rfnd s) = true) : ∃ k : Nat, k < 17 ∧ rfnd s = k ∧ s.data.toList = nmL k := by
  by_cases hi : idxN s < 17
  · refine ⟨idxN s, hi, rfnd_hit rfl hi, ?_⟩
    rw [nmL_in hi, idx_name hi]
  · have he : idxN s = 17 := by have := idx_le s; omega
    rw [rfnd_miss he] at h
    exact absurd h (by decide)
theorem numsW_dg (ns : List Int) (hl : ns.length ≤ 3) (h : ∀ n ∈ ns, 0 ≤ n ∧ n < 1000) : numsW (ns.map dgI) = some ns := by
  have e : ∀ n ∈ ns, numV (dgI n) = n := fun n hn => numV_dg (h n hn).1 (h n hn).2
  unfold numsW
  rw [if_pos]
  · congr 1
    rw [List.map_map]
    conv => rhs; rw [← List.map_id ns]
    exact List.map_congr_left fun n hn => e n hn
  · refine ⟨by simpa using hl, fun w hw => ?_⟩
    obtain ⟨n, hn, rfl⟩ := List.mem_map.1 hw
    rw [e n hn]
    exact (h n hn).1
theorem numsW_of {ws : List (List UInt8)} {ns : List Int} (h : numsW ws = some ns) : ns.length ≤ 3 ∧ ws = ns.map dgI ∧ ∀ n ∈ ns, 0 ≤ n := by
  unfold numsW at h
  split at h
  · rename_i hc
    simp only [Option.some.injEq] at h
    subst h
    refine ⟨by simpa using hc.1, ?_, fun n hn => ?_⟩
    · rw [List.map_map]
      conv => lhs; rw [← List.map_id ws]
      exact List.map_congr_left fun w hw => (numV_of (hc.2 w hw)).1.symm
    · obtain ⟨w, hw, rfl⟩ := List.mem_map.1 hn
      exact hc.2 w hw
  · cases h

theorem row_bounds {o a b : Int} (h : mayZ o a b = true) : (0 ≤ a ∧ a < 1000) ∧ (0 ≤ b ∧ b < 1000) ∧ ((rz o).f < 1 → a = 0) ∧ ((rz o).f < 2 → b = 0) ∧ 0 ≤ (rz o).f ∧ (rz o).f ≤ 2 := by
  obtain ⟨k, hk, rfl⟩ := may_in h
  obtain ⟨h1, h2, h3, h4⟩ := (may_iff hk a b).1 h
  obtain ⟨r1, r2, r3, r4, r5⟩ := row_ok k hk
  rw [rz_in hk]
  refine ⟨by omega, by omega, fun hf => ?_, fun hf => ?_, by omega, by omega⟩
  · omega
  · omega

/-- A text is a line's just if it is that line's text. -/
theorem lineOf_line {x : PLine} (h : okL x = true) : lineOf (lineT x) = some x := by
  unfold lineOf
  rw [split_line h]
  cases x with
  | head a l s =>
    obtain ⟨⟨a0, a1⟩, ⟨l0, l1⟩, s0, s1⟩ := (headB_iff a l s).1 h
    have hn : numsW [dgI a, dgI l, dgI s] = some [a, l, s] := numsW_dg [a, l, s] (by simp) (by
      intro n hn
      simp only [List.mem_cons, List.not_mem_nil, or_false] at hn
      rcases hn with rfl | rfl | rfl <;> omega)
    simp only [wordsL, hn, if_true]
    rw [if_pos ⟨rfl, h⟩]
    rfl
  | ins o a b =>
    obtain ⟨⟨a0, a1⟩, ⟨b0, b1⟩, fa, fb, f0, f2⟩ := row_bounds h
    obtain ⟨k, hk, rfl⟩ := may_in h
    have hw : nmL k ≠ funcW := by rw [nmL_in hk]; exact (name_fix k hk).2.2
    by_cases hf1 : (rz (k : Int)).f < 1
    · obtain rfl := fa hf1
      obtain rfl := fb (by omega)
      have hn : numsW [] = some [] := numsW_dg [] (by simp) (by simp)
      simp only [wordsL, hf1, if_true, hn]
      rw [if_neg hw, rfnd_name hk, if_pos ⟨h, by simp; omega⟩]
      rfl
    · by_cases hf2 : (rz (k : Int)).f < 2
      · obtain rfl := fb hf2
        have hn : numsW [dgI a] = some [a] := numsW_dg [a] (by simp) (by simp; omega)
        simp only [wordsL, hf1, hf2, if_true, if_false, hn]
        rw [if_neg hw, rfnd_name hk, if_pos ⟨h, by simp; omega⟩]
        rfl
      · have hn : numsW [dgI a, dgI b] = some [a, b] := numsW_dg [a, b] (by simp) (by simp; omega)
        simp only [wordsL, hf1, hf2, if_false, hn]
        rw [if_neg hw, rfnd_name hk, if_pos ⟨h, by simp; omega⟩]
        rfl
theorem lineOf_of {l : List UInt8} {x : PLine} (h : lineOf l = some x) : okL x = true ∧ lineT x = l := by
  have hj := join_split 32 l
  unfold lineOf at h
  split at h
  · cases h
  · rename_i w ws hs
    rw [hs] at hj
    split at h
    · cases h
    · rename_i ns hn
      obtain ⟨hl, rfl, hp⟩ := numsW_of hn
      split at h
      · rename_i hw
        split at h
        · rename_i hc
          simp only [Option.some.injEq] at h
          subst h
          refine ⟨hc.2, ?_⟩
          match ns, hc with
          | [a, l, s], hc => subst hw; exact hj
        · cases h
      · rename_i hw
        split at h
        · rename_i hc
          simp only [Option.some.injEq] at h
          subst h
          refine ⟨hc.1, ?_⟩
          obtain ⟨k, hk, he⟩ := may_in hc.1
          obtain ⟨j, hj2, he2, hb⟩ := rfnd_of (s := ⟨w.toArray⟩) (by rw [he]; simp [okZ]; omega)
          rw [bytes_eta] at hb
          rw [he2] at hc ⊢
          rw [← hj, hb]
          unfold lineT
          congr 1
          match ns, hc with
          | [], hc => simp only [wordsL]; rw [if_pos (by have := hc.2; simp at this; omega)]; rfl
          | [a], hc => simp only [wordsL]; have := hc.2; simp at this; rw [if_neg (by omega), if_pos (by omega)]; rfl
          | [a, b], hc => simp only [wordsL]; have := hc.2; simp at this; rw [if_neg (by omega), if_neg (by omega)]; rfl
          | [a, b, c], hc =>
            have h1 := hc.2
            have := (row_bounds hc.1).2.2.2.2.2
            simp at h1
            omega
        · cases h
theorem lineOf_iff {l : List UInt8} {x : PLine} : lineOf l = some x ↔ okL x = true ∧ lineT x = l :=
  ⟨lineOf_of, fun ⟨h, e⟩ => by rw [← e]; exact lineOf_line h⟩
theorem lineT_inj {x y : PLine} (hx : okL x = true) (hy : okL y = true) (h : lineT x = lineT y) : x = y := by
  have h1 := lineOf_line hx
  rw [h, lineOf_line hy] at h1
  exact (Option.some.inj h1).symm
end Go.Proofs.YtagjddnpaahebaaGreatDoor

/- Layer 7, plain: programs read of their texts. -/
namespace Go.Proofs.YtagjddnpaahebaaGreatDoor
set_option linter.unusedVariables false
set_option linter.unusedSimpArgs false
open Go

def linesF (f : Fun) : List PLine := .head f.ar f.lo f.sl :: f.code.map fun x => .ins x.1 x.2.1 x.2.2
def linesP (p : List Fun) : List PLine := (p.map linesF).flatten
/-- May a function be? -/
def mayF (f : Fun) : Bool := headB f.ar f.lo f.sl && (decide (1 ≤ f.code.length) && decide (f.code.length ≤ 200)) && f.code.all fun x => mayZ x.1 x.2.1 x.2.2
def mayP (p : List Fun) : Bool := decide (1 ≤ p.length) && decide (p.length ≤ 16) && p.all mayF
def textP (p : List Fun) : List UInt8 := if mayP p = true then flatC 10 ((linesP p).map lineT) else []
/-- May a program's next function be laid? -/
def openR (p : List Fun) : Bool := match p.getLast? with
  | some f => !f.code.isEmpty
  | none => true
/-- A program, and a line more. -/
def layH (p : List Fun) (a l s : Int) : Option (List Fun) := if openR p = true ∧ p.length ≠ 16 then some (p ++ [⟨a, l, s, []⟩]) else none
def layI (p : List Fun) (o a b : Int) : Option (List Fun) := match p.getLast? with
  | none => none
  | some f => if f.code.length = 200 then none else some (p.dropLast ++ [⟨f.ar, f.lo, f.sl, f.code ++ [(o, a, b)]⟩])
def layL (p : List Fun) : PLine → Option (List Fun)
  | .head a l s => layH p a l s
  | .ins o a b => layI p o a b
/-- Lines, one behind the other: what was laid, how many were, whether all were. -/
def runL : List Fun → List (List UInt8) → List Fun × Nat × Bool
  | p, [] => (p, 0, true)
  | p, l :: ls => match (lineOf l).bind (layL p) with
    | none => (p, 0, false)
    | some q => ((runL q ls).1, (runL q ls).2.1 + 1, (runL q ls).2.2)
def parseP (s : List UInt8) : List Fun × Nat × Int :=
  let L := splitL 10 s
  let r := runL [] L.dropLast
  if r.2.2 = true ∧ L.getLast? = some [] ∧ mayP r.1 = true then (r.1, r.2.1, 0) else ([], r.2.1, 70)

theorem linesP_nil : linesP [] = [] := rfl
theorem linesP_cons (f : Fun) (p : List Fun) : linesP (f :: p) = linesF f ++ linesP p := by simp [linesP]
theorem linesP_app (p q : List Fun) : linesP (p ++ q) = linesP p ++ linesP q := by simp [linesP]
theorem linesP_len (p : List Fun) : (linesP p).length = p.length + (p.map fun f => f.code.length).sum := by
  induction p with
  | nil => rfl
  | cons f p ih => rw [linesP_cons, List.length_append, ih]; simp [linesF]; omega
theorem mayF_iff (f : Fun) : mayF f = true ↔ headB f.ar f.lo f.sl = true ∧ 1 ≤ f.code.length ∧ f.code.length ≤ 200 ∧ ∀ x ∈ f.code, mayZ x.1 x.2.1 x.2.2 = true := by
  simp [mayF, and_assoc]
theorem mayP_iff (p : List Fun) : mayP p = true ↔ 1 ≤ p.length ∧ p.length ≤ 16 ∧ ∀ f ∈ p, mayF f = true := by
  simp [mayP, and_assoc]
theorem linesF_ok {f : Fun} (h : mayF f = true) : ∀ x ∈ linesF f, okL x = true := by
  obtain ⟨h1, _, _, h4⟩ := (mayF_iff f).1 h
  intro x hx
  rcases List.mem_cons.1 hx with rfl | hx
  · exact h1
  · obtain ⟨y, hy, rfl⟩ := List.mem_map.1 hx
    exact h4 y hy
theorem linesP_ok {p : List Fun} (h : ∀ f ∈ p, mayF f = true) : ∀ x ∈ linesP p, okL x = true := by
  intro x hx
  obtain ⟨l, hl, hx⟩ := List.mem_flatten.1 hx
  obtain ⟨f, hf, rfl⟩ := List.mem_map.1 hl
  exact linesF_ok (h f hf) x hx
theorem texts_free {xs : List PLine} (h : ∀ x ∈ xs, okL x = true) : ∀ w ∈ xs.map lineT, (10 : UInt8) ∉ w := by
  intro w hw
  obtain ⟨x, hx, rfl⟩ := List.mem_map.1 hw
  exact line_free (h x hx)

theorem runL_nil (p : List Fun) : runL p [] = (p, 0, true) := rfl
theorem runL_some {p q : List Fun} {l : List UInt8} (ls : List (List UInt8)) (h : (lineOf l).bind (layL p) = some q) : runL p (l :: ls) = ((runL q ls).1, (runL q ls).2.1 + 1, (runL q ls).2.2) := by
  rw [runL, h]
theorem runL_none {p : List Fun} {l : List UInt8} (ls : List (List UInt8)) (h : (lineOf l).bind (layL p) = none) : runL p (l :: ls) = (p, 0, false) := by
  rw [runL, h]
theorem runL_app : ∀ (a b : List (List UInt8)) (p : List Fun), (runL p a).2.2 = true → runL p (a ++ b) = ((runL (runL p a).1 b).1, (runL p a).2.1 + (runL (runL p a).1 b).2.1, (runL (runL p a).1 b).2.2)
  | [], b, p, _ => by simp [runL_nil]
  | l :: a, b, p, h => by
    cases hq : (lineOf l).bind (layL p) with
    | none => rw [runL_none a hq] at h; cases h
    | some q =>
      rw [runL_some a hq] at h
      rw [List.cons_append, runL_some _ hq, runL_some _ hq, runL_app a b q h]
      simp only
      congr 2
      omega
theorem runL_bad : ∀ (a b : List (List UInt8)) (p : List Fun), (runL p a).2.2 = false → runL p (a ++ b) = runL p a
  | [], b, p, h => by simp [runL_nil] at h
  | l :: a, b, p, h => by
    cases hq : (lineOf l).bind (layL p) with
    | none => rw [List.cons_append, runL_none _ hq, runL_none _ hq]
    | some q =>
      rw [runL_some a hq] at h
      rw [List.cons_append, runL_some _ hq, runL_some _ hq, runL_bad a b q h]
theorem runL_count : ∀ (a : List (List UInt8)) (p : List Fun), (runL p a).2.2 = true → (runL p a).2.1 = a.length
  | [], p, _ => rfl
  | l :: a, p, h => by
    cases hq : (lineOf l).bind (layL p) with
    | none => rw [runL_none a hq] at h; cases h
    | some q =>
      rw [runL_some a hq] at h ⊢
      simp only [runL_count a q h, List.length_cons]
theorem getLast_split {α : Type} {p : List α} {f : α} (h : p.getLast? = some f) : p = p.dropLast ++ [f] := by
  have hne : p ≠ [] := by intro e; rw [e] at h; simp at h
  rw [List.getLast?_eq_some_getLast hne] at h
  simp only [Option.some.injEq] at h
  rw [← h]
  exact (List.dropLast_concat_getLast hne).symm
/-- What is laid has just these lines. -/
theorem lay_lines {p q : List Fun} {x : PLine} (h : layL p x = some q) : linesP q = linesP p ++ [x] := by
  cases x with
  | head a l s =>
    have h' : layH p a l s = some q := h
    unfold layH at h'
    split at h'
    · simp only [Option.some.injEq] at h'
      subst h'
      rw [linesP_app]
      rfl
    · cases h'
  | ins o a b =>
    have h' : layI p o a b = some q := h
    unfold layI at h'
    split at h'
    · cases h'
    · rename_i f hf
      split at h'
      · cases h'
      · simp only [Option.some.injEq] at h'
        subst h'
        have hs := getLast_split hf
        conv => rhs; rw [hs]
        rw [linesP_app, linesP_app]
        simp [linesP, linesF]
theorem run_lines : ∀ (ls : List (List UInt8)) (p : List Fun), (runL p ls).2.2 = true → (linesP (runL p ls).1).map lineT = (linesP p).map lineT ++ ls
  | [], p, _ => by simp [runL_nil]
  | l :: ls, p, h => by
    cases hq : (lineOf l).bind (layL p) with
    | none => rw [runL_none ls hq] at h; cases h
    | some q =>
      rw [runL_some ls hq] at h ⊢
      simp only
      rw [run_lines ls q h]
      cases hl : lineOf l with
      | none => rw [hl] at hq; cases hq
      | some x =>
        rw [hl] at hq
        rw [lay_lines (show layL p x = some q from hq)]
        rw [List.map_append, List.append_assoc]
        congr 1
        simp [(lineOf_of hl).2]

theorem text_eq {p : List Fun} (h : mayP p = true) : textP p = flatC 10 ((linesP p).map lineT) := by unfold textP; rw [if_pos h]
/-- A text that is read is the program's own. -/
theorem text_parse {s : List UInt8} (h : (parseP s).2.2 = 0) : mayP (parseP s).1 = true ∧ textP (parseP s).1 = s := by
  have hj := join_split 10 s
  unfold parseP at *
  simp only at *
  split at h
  · rename_i hc
    rw [if_pos hc]
    refine ⟨hc.2.2, ?_⟩
    rw [text_eq hc.2.2, run_lines _ _ hc.1]
    have hs := getLast_split hc.2.1
    rw [hs, join_flat] at hj
    simpa [linesP_nil] using hj
  · simp at h
theorem parse_none {s : List UInt8} (h : (parseP s).2.2 ≠ 0) : (parseP s).1 = [] ∧ (parseP s).2.2 = 70 := by
  unfold parseP at *
  simp only at *
  split at h
  · simp at h
  · rename_i hc
    rw [if_neg hc]
    exact ⟨rfl, rfl⟩
theorem parse_err (s : List UInt8) : (parseP s).2.2 = 0 ∨ (parseP s).2.2 = 70 := by
  by_cases h : (parseP s).2.2 = 0
  · exact .inl h
  · exact .inr (parse_none h).2

theorem lay_head {r : List Fun} (hr : openR r = true) (hl : r.length < 16) (a l s : Int) : layL r (.head a l s) = some (r ++ [⟨a, l, s, []⟩]) := by
  show layH r a l s = _
  unfold layH
  rw [if_pos ⟨hr, by omega⟩]
theorem lay_full {r : List Fun} (hl : r.length = 16) (a l s : Int) : layL r (.head a l s) = none := by
  show layH r a l s = _
  unfold layH
  rw [if_neg (fun h => h.2 hl)]
theorem lay_ins (r : List Fun) (f : Fun) (hc : f.code.length < 200) (o a b : Int) : layL (r ++ [f]) (.ins o a b) = some (r ++ [⟨f.ar, f.lo, f.sl, f.code ++ [(o, a, b)]⟩]) := by
  show layI (r ++ [f]) o a b = _
  unfold layI
  simp only [List.getLast?_append, List.getLast?_singleton, Option.some_or, List.dropLast_concat]
  rw [if_neg (by omega)]
theorem run_code (r : List Fun) : ∀ (xs : List (Int × Int × Int)) (a l s : Int) (c : List (Int × Int × Int)), (∀ x ∈ xs, mayZ x.1 x.2.1 x.2.2 = true) → c.length + xs.length ≤ 200 →
    runL (r ++ [⟨a, l, s, c⟩]) (xs.map fun x => lineT (.ins x.1 x.2.1 x.2.2)) = (r ++ [⟨a, l, s, c ++ xs⟩], xs.length, true)
  | [], a, l, s, c, _, _ => by simp [runL_nil]
  | x :: xs, a, l, s, c, h, hl => by
    have hx := h x (by simp)
    have h1 : (lineOf (lineT (.ins x.1 x.2.1 x.2.2))).bind (layL (r ++ [⟨a, l, s, c⟩])) = some (r ++ [⟨a, l, s, c ++ [x]⟩]) := by
      rw [lineOf_line (x := .ins x.1 x.2.1 x.2.2) hx]
      exact lay_ins r _ (by simp at hl ⊢; omega) _ _ _
    rw [List.map_cons, runL_some _ h1, run_code r xs a l s (c ++ [x]) (fun y hy => h y (by simp [hy])) (by simp at hl ⊢; omega)]
    simp
theorem run_fun {r : List Fun} (hr : openR r = true) (hl : r.length < 16) {f : Fun} (hf : mayF f = true) : runL r ((linesF f).map lineT) = (r ++ [f], (linesF f).length, true) := by
  obtain ⟨h1, h2, h3, h4⟩ := (mayF_iff f).1 hf
  have hh : (lineOf (lineT (.head f.ar f.lo f.sl))).bind (layL r) = some (r ++ [⟨f.ar, f.lo, f.sl, []⟩]) := by
    rw [lineOf_line (x := .head f.ar f.lo f.sl) h1]
    exact lay_head hr hl _ _ _
  unfold linesF
  rw [List.map_cons, runL_some _ hh, List.map_map]
  have := run_code r f.code f.ar f.lo f.sl [] h4 (by simpa using h3)
  simp only [Function.comp_def]
  rw [this]
  simp
theorem openB_snoc (r : List Fun) {f : Fun} (h : mayF f = true) : openR (r ++ [f]) = true := by
  have := ((mayF_iff f).1 h).2.1
  unfold openR
  simp only [List.getLast?_append, List.getLast?_singleton, Option.some_or]
  cases hc : f.code with
  | nil => rw [hc] at this; simp at this
  | cons x xs => rfl
theorem run_prog : ∀ (p r : List Fun), openR r = true → r.length + p.length ≤ 16 → (∀ f ∈ p, mayF f = true) → runL r ((linesP p).map lineT) = (r ++ p, (linesP p).length, true)
  | [], r, _, _, _ => by simp [linesP_nil, runL_nil]
  | f :: p, r, hr, hl, h => by
    have hf := h f (by simp)
    have h1 := run_fun hr (by simp at hl; omega) hf
    rw [linesP_cons, List.map_append, runL_app _ _ _ (by rw [h1]), h1]
    simp only
    rw [run_prog p (r ++ [f]) (openB_snoc r hf) (by simp at hl ⊢; omega) (fun g hg => h g (by simp [hg]))]
    simp
/-- A function that is one too many. -/
theorem run_over : ∀ (p r : List Fun), openR r = true → r.length ≤ 16 → 16 < r.length + p.length → (∀ f ∈ p, mayF f = true) → (runL r ((linesP p).map lineT)).2.2 = false
  | [], r, _, h1, h2, _ => by simp at h2; omega
  | f :: p, r, hr, hl, ho, h => by
    have hf := h f (by simp)
    by_cases hl2 : r.length < 16
    · have h1 := run_fun hr hl2 hf
      rw [linesP_cons, List.map_append, runL_app _ _ _ (by rw [h1]), h1]
      exact run_over p (r ++ [f]) (openB_snoc r hf) (by simp; omega) (by simp at ho ⊢; omega) (fun g hg => h g (by simp [hg]))
    · have h1 : (lineOf (lineT (.head f.ar f.lo f.sl))).bind (layL r) = none := by
        rw [lineOf_line (x := .head f.ar f.lo f.sl) ((mayF_iff f).1 hf).1]
        exact lay_full (by omega) _ _ _
      rw [linesP_cons]
      unfold linesF
      rw [List.cons_append, List.map_cons, runL_none _ h1]
theorem openB_nil : openR [] = true := rfl
theorem split_texts {xs : List PLine} (h : ∀ x ∈ xs, okL x = true) : splitL 10 (flatC 10 (xs.map lineT)) = xs.map lineT ++ [[]] := by
  have := split_flat 10 [] (xs.map lineT) (texts_free h)
  rw [List.append_nil] at this
  rw [this]
  rfl
theorem parse_lines {p : List Fun} (h : mayP p = true) : parseP (flatC 10 ((linesP p).map lineT)) = (p, (linesP p).length, 0) := by
  obtain ⟨h1, h2, h3⟩ := (mayP_iff p).1 h
  unfold parseP
  simp only
  rw [split_texts (linesP_ok h3), List.dropLast_concat, run_prog p [] openB_nil (by simpa using h2) h3]
  rw [if_pos ⟨rfl, by simp, by simpa using h⟩]
  simp
/-- A program that may be is read of its text as it was. -/
theorem parse_text {p : List Fun} (h : mayP p = true) : parseP (textP p) = (p, (linesP p).length, 0) := by
  rw [text_eq h]
  exact parse_lines h
theorem textP_inj {p q : List Fun} (hp : mayP p = true) (hq : mayP q = true) (h : textP p = textP q) : p = q := by
  have h1 := parse_text hp
  rw [h, parse_text hq] at h1
  exact (Prod.mk.inj h1).1.symm
/-- The lines of two programs. -/
theorem parse_both {p q : List Fun} (hp : mayP p = true) (hq : mayP q = true) (hl : p.length + q.length ≤ 16) : parseP (textP p ++ textP q) = (p ++ q, (linesP (p ++ q)).length, 0) := by
  obtain ⟨h1, _, h3⟩ := (mayP_iff p).1 hp
  obtain ⟨g1, _, g3⟩ := (mayP_iff q).1 hq
  have hb : mayP (p ++ q) = true := (mayP_iff _).2 ⟨by simp; omega, by simpa using hl, fun f hf => (List.mem_append.1 hf).elim (h3 f) (g3 f)⟩
  rw [text_eq hp, text_eq hq, ← flatC_app, ← List.map_append, ← linesP_app]
  exact parse_lines hb
theorem parse_over {p q : List Fun} (hp : mayP p = true) (hq : mayP q = true) (hl : 16 < p.length + q.length) : (parseP (textP p ++ textP q)).1 = [] ∧ (parseP (textP p ++ textP q)).2.2 = 70 := by
  obtain ⟨h1, h2, h3⟩ := (mayP_iff p).1 hp
  obtain ⟨g1, g2, g3⟩ := (mayP_iff q).1 hq
  have hok : ∀ x ∈ linesP (p ++ q), okL x = true := linesP_ok fun f hf => (List.mem_append.1 hf).elim (h3 f) (g3 f)
  have hf := run_over (p ++ q) [] openB_nil (by simp) (by simpa using hl) (fun f hf => (List.mem_append.1 hf).elim (h3 f) (g3 f))
  rw [text_eq hp, text_eq hq, ← flatC_app, ← List.map_append, ← linesP_app]
  unfold parseP
  simp only
  rw [split_texts hok, List.dropLast_concat, hf, if_neg (by simp)]
  exact ⟨rfl, rfl⟩
end Go.Proofs.YtagjddnpaahebaaGreatDoor

/- Layer 7, plain: lines cut as the program cuts them, and numbers as it reads them. -/
namespace Go.Proofs.YtagjddnpaahebaaGreatDoor
set_option linter.unusedVariables false
set_option linter.unusedSimpArgs false
open Go

theorem idx_free {c : UInt8} : ∀ {l : List UInt8}, c ∉ l → Lib.index l [c] = -1
  | [], _ => rfl
  | x :: r, h => by
    simp only [List.mem_cons, not_or] at h
    unfold Lib.index
    rw [idx_free h.2]
    simp [h.1]
theorem idx_app {c : UInt8} : ∀ {a : List UInt8} (b : List UInt8), c ∉ a → Lib.index (a ++ c :: b) [c] = a.length
  | [], b, _ => by simp [Lib.index]
  | x :: a, b, h => by
    simp only [List.mem_cons, not_or] at h
    have ih := idx_app b h.2
    rw [List.cons_append]
    unfold Lib.index
    rw [ih]
    have : ¬ ((a.length : Int) = -1) := by omega
    simp [h.1, this]
theorem cut_free {c : UInt8} {l : List UInt8} (h : c ∉ l) : Lib.cut l [c] = (l, [], false) := by
  unfold Lib.cut
  rw [idx_free h]
  simp
theorem cut_app {c : UInt8} {a : List UInt8} (b : List UInt8) (h : c ∉ a) : Lib.cut (a ++ c :: b) [c] = (a, b, true) := by
  unfold Lib.cut
  rw [idx_app b h, if_pos (by omega), Int.toNat_natCast]
  simp
theorem splitK_free {c : UInt8} {l : List UInt8} (h : c ∉ l) (k : Nat) : Lib.splitK [c] 0 k l = [l] := by
  cases k with
  | zero => rfl
  | succ k => unfold Lib.splitK; rw [idx_free h]; simp
theorem splitK_app {c : UInt8} {a : List UInt8} (b : List UInt8) (h : c ∉ a) (k : Nat) : Lib.splitK [c] 0 (k + 1) (a ++ c :: b) = a :: Lib.splitK [c] 0 k b := by
  rw [Lib.splitK, idx_app b h]
  have : ¬ ((a.length : Int) = -1) := by omega
  simp [this]
theorem mem_cut {c : UInt8} (l : List UInt8) : c ∉ l ∨ ∃ a b, l = a ++ c :: b ∧ c ∉ a := by
  by_cases h : c ∈ l
  · obtain ⟨a, b, e, hn⟩ := List.eq_append_cons_of_mem h
    exact .inr ⟨a, b, e, hn⟩
  · exact .inl h
theorem splitK_ne (c : UInt8) (k : Nat) (l : List UInt8) : Lib.splitK [c] 0 k l ≠ [] := by
  cases k with
  | zero => simp [Lib.splitK]
  | succ k => unfold Lib.splitK; split <;> simp
theorem join_splitK (c : UInt8) : ∀ (k : Nat) (l : List UInt8), joinC c (Lib.splitK [c] 0 k l) = l
  | 0, l => rfl
  | k + 1, l => by
    rcases mem_cut (c := c) l with h | ⟨a, b, rfl, h⟩
    · rw [splitK_free h]
      rfl
    · rw [splitK_app b h]
      have ih := join_splitK c k b
      cases hs : Lib.splitK [c] 0 k b with
      | nil => exact absurd hs (splitK_ne c k b)
      | cons v vs =>
        rw [hs] at ih
        rw [joinC, ih]
theorem splitK_join (c : UInt8) : ∀ (ws : List (List UInt8)) (k : Nat), ws ≠ [] → (∀ w ∈ ws, c ∉ w) → ws.length ≤ k + 1 → Lib.splitK [c] 0 k (joinC c ws) = ws
  | [], _, h, _, _ => absurd rfl h
  | [w], k, _, h, _ => splitK_free (h w (by simp)) k
  | w :: v :: ws, k, _, h, hl => by
    obtain ⟨j, rfl⟩ : ∃ j, k = j + 1 := ⟨k - 1, by simp at hl; omega⟩
    rw [joinC, splitK_app _ (h w (by simp)), splitK_join c (v :: ws) j (by simp) (fun x hx => h x (by simp at hx ⊢; exact .inr hx)) (by simp at hl ⊢; omega)]
theorem joinC_len (c : UInt8) : ∀ (ws : List (List UInt8)), ws.length ≤ (joinC c ws).length + 1
  | [] => by simp
  | [w] => by simp
  | w :: v :: ws => by
    have := joinC_len c (v :: ws)
    rw [joinC, List.length_append, List.length_cons, List.length_cons, List.length_cons]
    rw [List.length_cons] at this
    omega

/-- A number as the program reads it: what is written as it would write it. -/
def numC (w : List UInt8) : Option Int := match Lib.atoiAll w with
  | .ok v => if Lib.itoa v = w then some v else none
  | _ => none
theorem numC_fix : ∀ n, n < 1000 → Lib.atoiAll (Lib.decDigits n) = .ok (n : Int) := by decide +kernel
theorem itoa_dg {n : Int} (h0 : 0 ≤ n) : Lib.itoa n = dgI n := by unfold Lib.itoa; rw [if_neg (by omega)]; rfl
theorem numC_dg {n : Int} (h0 : 0 ≤ n) (h1 : n < 1000) : numC (dgI n) = some n := by
  unfold numC
  have := numC_fix n.toNat (by omega)
  rw [Int.toNat_of_nonneg h0] at this
  rw [show dgI n = Lib.decDigits n.toNat from rfl, this]
  simp only
  exact if_pos (itoa_dg h0)
theorem numC_of {w : List UInt8} {n : Int} (h : numC w = some n) : Lib.itoa n = w := by
  unfold numC at h
  split at h
  · split at h
    · rename_i he
      cases h
      exact he
    · cases h
  · cases h
def numsC : List (List UInt8) → Option (List Int)
  | [] => some []
  | w :: ws => match numC w with
    | none => none
    | some n => (numsC ws).map (n :: ·)
theorem numsC_of : ∀ {ws : List (List UInt8)} {ns : List Int}, numsC ws = some ns → ws = ns.map Lib.itoa
  | [], ns, h => by
    cases h
    rfl
  | w :: ws, ns, h => by
    unfold numsC at h
    split at h
    · cases h
    · rename_i n hn
      rw [Option.map_eq_some_iff] at h
      obtain ⟨m, hm, rfl⟩ := h
      rw [List.map_cons, numC_of hn, ← numsC_of hm]
theorem numsC_dg : ∀ (ns : List Int), (∀ n ∈ ns, 0 ≤ n ∧ n < 1000) → numsC (ns.map dgI) = some ns
  | [], _ => rfl
  | n :: ns, h => by
    have h1 := h n (by simp)
    rw [List.map_cons, numsC, numC_dg h1.1 h1.2, numsC_dg ns (fun m hm => h m (by simp [hm]))]
    rfl
def partsC (l : List UInt8) : List (List UInt8) := Lib.splitK [32] 0 (min 4 (l.length + 1) - 1) l
/-- A line's first word, and the numbers behind it. -/
def wordsC (l : List UInt8) : Option (List UInt8 × List Int) := match partsC l with
  | [] => none
  | w :: ws => (numsC ws).map fun ns => (w, ns)
def lineC (x : List UInt8 × List Int) : Option PLine :=
  if x.1 = funcW then (if x.2.length = 3 ∧ headB (x.2.getD 0 0) (x.2.getD 1 0) (x.2.getD 2 0) = true then some (.head (x.2.getD 0 0) (x.2.getD 1 0) (x.2.getD 2 0)) else none)
  else if mayZ (rfnd ⟨x.1.toArray⟩) (x.2.getD 0 0) (x.2.getD 1 0) = true ∧ (x.2.length : Int) = (rz (rfnd ⟨x.1.toArray⟩)).f then some (.ins (rfnd ⟨x.1.toArray⟩) (x.2.getD 0 0) (x.2.getD 1 0)) else none
theorem wordsL_len (x : PLine) : (wordsL x).length ≤ 4 := by
  cases x with
  | head a l s => simp [wordsL]
  | ins o a b =>
    simp only [wordsL, List.length_cons]
    split
    · simp
    · split <;> simp
theorem parts_line {x : PLine} (h : okL x = true) : partsC (lineT x) = wordsL x := by
  have h1 := wordsL_len x
  have h2 := joinC_len 32 (wordsL x)
  exact splitK_join 32 (wordsL x) _ (wordsL_ne x) (wordsL_free h 32 (.inl rfl)) (by unfold lineT; omega)
theorem line_fwd {x : PLine} (h : okL x = true) : (wordsC (lineT x)).bind lineC = some x := by
  unfold wordsC
  rw [parts_line h]
  cases x with
  | head a l s =>
    obtain ⟨⟨a0, a1⟩, ⟨l0, l1⟩, s0, s1⟩ := (headB_iff a l s).1 h
    have hn : numsC [dgI a, dgI l, dgI s] = some [a, l, s] := numsC_dg [a, l, s] (by
      intro n hn
      simp only [List.mem_cons, List.not_mem_nil, or_false] at hn
      rcases hn with rfl | rfl | rfl <;> omega)
    simp only [wordsL, hn, Option.map_some, Option.bind_some]
    unfold lineC
    rw [if_pos rfl, if_pos ⟨rfl, h⟩]
    rfl
  | ins o a b =>
    obtain ⟨⟨a0, a1⟩, ⟨b0, b1⟩, fa, fb, f0, f2⟩ := row_bounds h
    obtain ⟨k, hk, rfl⟩ := may_in h
    have hw : nmL k ≠ funcW := by rw [nmL_in hk]; exact (name_fix k hk).2.2
    by_cases hf1 : (rz (k : Int)).f < 1
    · obtain rfl := fa hf1
      obtain rfl := fb (by omega)
      simp only [wordsL, hf1, if_true, show numsC [] = some [] from rfl, Option.map_some, Option.bind_some]
      unfold lineC
      simp only
      rw [if_neg hw, rfnd_name hk, if_pos ⟨h, by simp; omega⟩]
      rfl
    · by_cases hf2 : (rz (k : Int)).f < 2
      · obtain rfl := fb hf2
        have hn : numsC [dgI a] = some [a] := numsC_dg [a] (by simp; omega)
        simp only [wordsL, hf1, hf2, if_true, if_false, hn, Option.map_some, Option.bind_some]
        unfold lineC
        simp only
        rw [if_neg hw, rfnd_name hk, if_pos ⟨h, by simp; omega⟩]
        rfl
      · have hn : numsC [dgI a, dgI b] = some [a, b] := numsC_dg [a, b] (by simp; omega)
        simp only [wordsL, hf1, hf2, if_false, hn, Option.map_some, Option.bind_some]
        unfold lineC
        simp only
        rw [if_neg hw, rfnd_name hk, if_pos ⟨h, by simp; omega⟩]
        rfl
theorem line_bwd {l : List UInt8} {x : PLine} (h : (wordsC l).bind lineC = some x) : okL x = true ∧ lineT x = l := by
  have hj := join_splitK 32 (min 4 (l.length + 1) - 1) l
  unfold wordsC partsC at h
  cases hp : Lib.splitK [32] 0 (min 4 (l.length + 1) - 1) l with
  | nil => rw [hp] at h; cases h
  | cons w ws =>
    rw [hp] at h hj
    simp only at h
    cases hn : numsC ws with
    | none => rw [hn] at h; cases h
    | some ns =>
      rw [hn] at h
      simp only [Option.map_some, Option.bind_some] at h
      obtain rfl := numsC_of hn
      unfold lineC at h
      simp only at h
      split at h
      · rename_i hw
        split at h
        · rename_i hc
          simp only [Option.some.injEq] at h
          subst h
          refine ⟨hc.2, ?_⟩
          match ns, hc with
          | [a, l, s], hc =>
            obtain ⟨⟨a0, a1⟩, ⟨l0, l1⟩, s0, s1⟩ := (headB_iff a l s).1 hc.2
            subst hw
            rw [← hj]
            simp only [lineT, wordsL, List.map_cons, List.map_nil]
            rw [itoa_dg a0, itoa_dg l0, itoa_dg s0]
            rfl
        · cases h
      · rename_i hw
        split at h
        · rename_i hc
          simp only [Option.some.injEq] at h
          subst h
          refine ⟨hc.1, ?_⟩
          have ho : okZ (rfnd ⟨w.toArray⟩) = true := by
            have := hc.1
            unfold mayZ at this
            simp only [Bool.and_eq_true] at this
            exact this.1.1
          obtain ⟨k, hk, he, hb⟩ := rfnd_of ho
          rw [bytes_eta] at hb
          rw [he] at hc ⊢
          obtain ⟨⟨a0, a1⟩, ⟨b0, b1⟩, _, _, f0, f2⟩ := row_bounds hc.1
          rw [← hj, hb]
          unfold lineT
          congr 1
          match ns, hc, a0, b0 with
          | [], hc, _, _ => simp only [wordsL]; rw [if_pos (by have := hc.2; simp at this; omega)]; rfl
          | [a], hc, a0, _ =>
            simp only [wordsL]
            have := hc.2
            simp at this a0
            rw [if_neg (by omega), if_pos (by omega), List.map_cons, itoa_dg a0]
            rfl
          | [a, b], hc, a0, b0 =>
            simp only [wordsL]
            have := hc.2
            simp at this a0 b0
            rw [if_neg (by omega), if_neg (by omega), List.map_cons, List.map_cons, itoa_dg a0, itoa_dg b0]
            rfl
          | a :: b :: c :: r, hc, _, _ =>
            have h1 := hc.2
            simp at h1
            omega
        · cases h
/-- The line that a text is, out of the words that the program cuts it into. -/
theorem line_words (l : List UInt8) : lineOf l = (wordsC l).bind lineC := by
  cases h : (wordsC l).bind lineC with
  | some x =>
    obtain ⟨h1, h2⟩ := line_bwd h
    rw [← h2]
    exact lineOf_line h1
  | none =>
    cases h2 : lineOf l with
    | none => rfl
    | some x =>
      obtain ⟨h3, h4⟩ := lineOf_of h2
      rw [← h4, line_fwd h3] at h
      cases h

/-- What comes of the rest of a text, when a program lies, and lines were read. -/
def finP (p : List Fun) (n : Nat) (s : List UInt8) : List Fun × Nat × Int :=
  if (runL p (splitL 10 s).dropLast).2.2 = true ∧ (splitL 10 s).getLast? = some [] ∧ mayP (runL p (splitL 10 s).dropLast).1 = true then ((runL p (splitL 10 s).dropLast).1, n + (runL p (splitL 10 s).dropLast).2.1, 0) else ([], n + (runL p (splitL 10 s).dropLast).2.1, 70)
theorem parse_fin (s : List UInt8) : parseP s = finP [] 0 s := by
  unfold parseP finP
  simp
theorem fin_step {p q : List Fun} (n : Nat) {a : List UInt8} (b : List UInt8) (ha : (10 : UInt8) ∉ a) (h : (lineOf a).bind (layL p) = some q) : finP p n (a ++ 10 :: b) = finP q (n + 1) b := by
  unfold finP
  rw [split_app 10 a b ha, List.dropLast_cons_of_ne_nil (splitL_ne 10 b), runL_some _ h]
  rw [show (a :: splitL 10 b).getLast? = (splitL 10 b).getLast? from List.getLast?_cons_of_ne_nil (splitL_ne 10 b)]
  simp only
  rw [show n + ((runL q (splitL 10 b).dropLast).2.1 + 1) = n + 1 + (runL q (splitL 10 b).dropLast).2.1 by omega]
theorem fin_bad {p : List Fun} (n : Nat) {a : List UInt8} (b : List UInt8) (ha : (10 : UInt8) ∉ a) (h : (lineOf a).bind (layL p) = none) : finP p n (a ++ 10 :: b) = ([], n, 70) := by
  unfold finP
  rw [split_app 10 a b ha, List.dropLast_cons_of_ne_nil (splitL_ne 10 b), runL_none _ h]
  simp
theorem fin_end (p : List Fun) (n : Nat) {a : List UInt8} (ha : (10 : UInt8) ∉ a) : finP p n a = if a = [] ∧ mayP p = true then (p, n, 0) else ([], n, 70) := by
  unfold finP
  rw [split_word 10 a ha]
  simp [runL_nil]
end Go.Proofs.YtagjddnpaahebaaGreatDoor

