/- Layer 6, plain: the operations, by their numbers and names; which instructions may be. -/
import Derived.WalkKit
import Derived.ProofKit
namespace Go.Proofs.YtjibkgildfjjoaaGreatDoor
set_option linter.unusedVariables false
set_option linter.unusedSimpArgs false
open Go

/-- A row of the table: name, fields, pops, pushes, first and last of the first field, last of the second one. -/
structure Orow where
  nm : ByteArray
  f : Int
  p : Int
  q : Int
  lo : Int
  la : Int
  lb : Int
def opTab : List Orow := [
  ⟨⟨#[112, 117, 115, 104]⟩, 2, 0, 1, 0, 250, 250⟩,
  ⟨⟨#[108, 111, 97, 100]⟩, 1, 0, 1, 0, 15, 0⟩,
  ⟨⟨#[115, 116, 111, 114, 101]⟩, 1, 1, 0, 0, 15, 0⟩,
  ⟨⟨#[97, 100, 100]⟩, 0, 2, 1, 0, 0, 0⟩,
  ⟨⟨#[115, 117, 98]⟩, 0, 2, 1, 0, 0, 0⟩,
  ⟨⟨#[109, 117, 108]⟩, 0, 2, 1, 0, 0, 0⟩,
  ⟨⟨#[100, 105, 118]⟩, 0, 2, 1, 0, 0, 0⟩,
  ⟨⟨#[99, 111, 110, 106]⟩, 0, 1, 1, 0, 0, 0⟩,
  ⟨⟨#[100, 117, 112]⟩, 0, 1, 2, 0, 0, 0⟩,
  ⟨⟨#[100, 114, 111, 112]⟩, 0, 1, 0, 0, 0, 0⟩,
  ⟨⟨#[106, 117, 109, 112]⟩, 1, 0, 0, 0, 199, 0⟩,
  ⟨⟨#[122, 101, 114, 111]⟩, 1, 1, 0, 0, 199, 0⟩,
  ⟨⟨#[114, 97, 110, 100]⟩, 0, 0, 1, 0, 0, 0⟩,
  ⟨⟨#[115, 112, 97, 119, 110]⟩, 2, 0, 0, 0, 15, 7⟩,
  ⟨⟨#[106, 111, 105, 110]⟩, 1, 0, 1, 0, 7, 0⟩,
  ⟨⟨#[114, 101, 116]⟩, 0, 1, 0, 0, 0, 0⟩,
  ⟨⟨#[116, 114, 97, 112]⟩, 1, 0, 0, 16, 255, 0⟩]
def noOp : Orow := ⟨⟨#[]⟩, 0, 0, 0, 0, 0, 0⟩
/-- The operation of a number. -/
def orow (n : Nat) : Orow := opTab.getD n noOp
def okO (n : Int) : Bool := decide (0 ≤ n) && decide (n ≤ 16)
def rz (n : Int) : Orow := if okO n = true then orow n.toNat else noOp
theorem opTab_get {k : Nat} (hk : k < 17) : opTab[k]? = some (orow k) := by
  unfold orow
  rw [List.getD_eq_getElem?_getD]
  have : k < opTab.length := hk
  rw [List.getElem?_eq_getElem this]
  rfl
theorem rz_in {k : Nat} (h : k < 17) : rz k = orow k := by
  unfold rz
  rw [if_pos (by simp [okO]; omega)]
  rfl
theorem rz_out {n : Int} (h : okO n = false) : rz n = noOp := by unfold rz; rw [if_neg (by simp [h])]
theorem okZ_cases (n : Int) : (∃ k : Nat, k < 17 ∧ n = k) ∨ okO n = false := by
  by_cases h : okO n = true
  · simp only [okO, Bool.and_eq_true, decide_eq_true_eq] at h
    exact .inl ⟨n.toNat, by omega, by omega⟩
  · exact .inr (by simpa using h)

/-- Whether two texts are the same. -/
def eqS (a b : ByteArray) : Bool := decide (a = b)
theorem eqS_toList (a b : ByteArray) : (a.toList == b.toList) = eqS a b := by
  unfold eqS
  by_cases h : a = b
  · simp [h]
  · rw [decide_eq_false h]
    refine beq_eq_false_iff_ne.2 fun he => h ?_
    rw [ByteArray.toList_eq, ByteArray.toList_eq] at he
    exact ByteArray.ext (Array.toList_inj.1 he)
theorem eqS_iff {a b : ByteArray} : eqS a b = true ↔ a = b := by simp [eqS]

/-- The number of the operation of a name; 17 if there is none. -/
def idxN (s : ByteArray) : Nat := opTab.findIdx fun r => eqS r.nm s
theorem idx_le (s : ByteArray) : idxN s ≤ 17 := List.findIdx_le_length
theorem orow_get {k : Nat} (h : k < opTab.length) : opTab[k] = orow k := Option.some.inj ((List.getElem?_eq_getElem h).symm.trans (opTab_get h))
theorem idx_hit {s : ByteArray} {k : Nat} (hk : k < 17) (h : eqS (orow k).nm s = true) (hn : ∀ j, j < k → eqS (orow j).nm s = false) : idxN s = k := by
  have hl : k < opTab.length := hk
  refine (List.findIdx_eq hl).2 ⟨?_, fun j hj => ?_⟩
  · rw [orow_get hl]; exact h
  · rw [orow_get (Nat.lt_trans hj hl)]; exact hn j hj
theorem idx_miss {s : ByteArray} (hn : ∀ j, j < 17 → eqS (orow j).nm s = false) : idxN s = 17 := by
  rcases Nat.lt_or_ge (idxN s) 17 with h | h
  · have hl : opTab.findIdx (fun r => eqS r.nm s) < opTab.length := h
    have := List.findIdx_getElem (w := hl)
    rw [orow_get hl] at this
    exact absurd (hn _ h) (by simpa [idxN] using this)
  · exact Nat.le_antisymm (idx_le s) h
/-- What finding a name tells. -/
def numF (s : ByteArray) : Int := ((if idxN s < 17 then idxN s else 0 : Nat) : Int)
def isF (s : ByteArray) : Bool := decide (idxN s < 17)
theorem fnd_hit {s : ByteArray} {k : Nat} (h : idxN s = k) (hk : k < 17) : numF s = k ∧ isF s = true := by
  unfold numF isF
  rw [h, if_pos hk]
  exact ⟨rfl, decide_eq_true hk⟩
theorem fnd_miss {s : ByteArray} (h : idxN s = 17) : numF s = 0 ∧ isF s = false := by
  unfold numF isF
  rw [h]
  exact ⟨rfl, rfl⟩
theorem idx_name {s : ByteArray} (h : idxN s < 17) : (orow (idxN s)).nm = s := by
  have hl : opTab.findIdx (fun r => eqS r.nm s) < opTab.length := h
  have := List.findIdx_getElem (w := hl)
  rw [orow_get hl] at this
  exact eqS_iff.1 this

/-- An instruction. -/
abbrev iv (o a b : Int) : Value := .agg #[.int .i64 o, .int .i64 a, .int .i64 b]
/-- Whether it may be. -/
def mayZ (o a b : Int) : Bool := okO o && (decide ((rz o).lo ≤ a) && decide (a ≤ (rz o).la)) && (decide (0 ≤ b) && decide (b ≤ (rz o).lb))

theorem f_of : ∀ k, k < 17 → (orow k).f = (if k = 0 ∨ k = 13 then 2 else if k = 1 ∨ k = 2 ∨ k = 10 ∨ k = 11 ∨ k = 14 ∨ k = 16 then 1 else 0) := by decide
theorem p_of : ∀ k, k < 17 → (orow k).p = (if k = 3 ∨ k = 4 ∨ k = 5 ∨ k = 6 then 2 else if k = 2 ∨ k = 7 ∨ k = 8 ∨ k = 9 ∨ k = 11 ∨ k = 15 then 1 else 0) := by decide
theorem q_of : ∀ k, k < 17 → (orow k).q = (if k = 8 then 2 else if k = 0 ∨ k = 1 ∨ k = 3 ∨ k = 4 ∨ k = 5 ∨ k = 6 ∨ k = 7 ∨ k = 12 ∨ k = 14 then 1 else 0) := by decide
theorem okO_no {n : Int} (h : okO n = false) : n < 0 ∨ 16 < n := by
  simp only [okO, Bool.and_eq_false_iff, decide_eq_false_iff_not] at h
  omega

/-- A field's greatest number, as the document has it. -/
def mostZ (o j : Int) : Int := if o = 0 then 250 else if o = 1 ∨ o = 2 then 15 else if o = 10 ∨ o = 11 then 199 else if o = 13 then (if j = 1 then 7 else 15) else if o = 14 then 7 else 255
/-- What the document finds. -/
def rfnd (s : ByteArray) : Int := if isF s = true then numF s else -1
theorem rfnd_hit {s : ByteArray} {k : Nat} (h : idxN s = k) (hk : k < 17) : rfnd s = k := by
  unfold rfnd
  rw [(fnd_hit h hk).2, (fnd_hit h hk).1]
  rfl
theorem rfnd_miss {s : ByteArray} (h : idxN s = 17) : rfnd s = -1 := by
  unfold rfnd
  rw [(fnd_miss h).2]
  rfl

theorem row_ok : ∀ k, k < 17 → 0 ≤ (orow k).lo ∧ ((orow k).lo = 0 ∨ (k = 16 ∧ (orow k).lo = 16)) ∧ (orow k).la ≤ 255 ∧ (orow k).lb ≤ 255 ∧ (((orow k).f = 0 ∧ (orow k).la = 0 ∧ (orow k).lb = 0) ∨ ((orow k).f = 1 ∧ (orow k).lb = 0) ∨ (orow k).f = 2) := by decide
theorem may_iff {k : Nat} (hk : k < 17) (a b : Int) : mayZ k a b = true ↔ (orow k).lo ≤ a ∧ a ≤ (orow k).la ∧ 0 ≤ b ∧ b ≤ (orow k).lb := by
  unfold mayZ
  rw [rz_in hk, show okO (k : Int) = true by simp [okO]; omega]
  simp [and_assoc]
theorem apart : ∀ k, k < 17 → ∀ j, j < 17 → k ≠ j → (orow k).nm.size ≤ (orow j).nm.size → ((orow j).nm.extract 0 (orow k).nm.size).data.toList ≠ (orow k).nm.data.toList := by decide +kernel
end Go.Proofs.YtjibkgildfjjoaaGreatDoor

