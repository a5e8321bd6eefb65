/- Layer 8's code: the checker's check; Check, Depths. -/
import Derived.Test.YtjnbockdfjhfgaaDoorzGr
import Derived.Test.YtjnbockdfjhfgaaDoorzKm
namespace Go.Proofs.YtjnbockdfjhfgaaDoor
set_option linter.unusedVariables false
set_option linter.unusedSimpArgs false
open Go.RowKit Go.ChangeShapes Go.WideShapes Go.ChangeAt Go.Sort

theorem firstI_cons (p : List Fun) (f : Fun) (x : Int × Int × Int) (l : List (Int × Int × Int)) (k : Int) : firstI p f (x :: l) k = if fieldI p f x = 0 then firstI p f l (k + 1) else (k, fieldI p f x) := rfl
theorem first_all {p : List Fun} {f : Fun} : ∀ (l : List (Int × Int × Int)) (k : Int), (∀ x ∈ l, fieldI p f x = 0) → firstI p f l k = (0, 0)
  | [], _, _ => rfl
  | x :: l, k, h => by
    unfold firstI
    rw [if_pos (h x (by simp))]
    exact first_all l _ fun y hy => h y (by simp [hy])
theorem first_zero {p : List Fun} {f : Fun} : ∀ (l : List (Int × Int × Int)) (k : Int), (firstI p f l k).2 = 0 → ∀ x ∈ l, fieldI p f x = 0
  | [], _, _, x, hx => by simp at hx
  | y :: l, k, h, x, hx => by
    unfold firstI at h
    split at h
    · rcases List.mem_cons.1 hx with rfl | hx
      · assumption
      · exact first_zero l _ h x hx
    · contradiction
end Go.Proofs.YtjnbockdfjhfgaaDoor

/- Layer 8's code: Check. -/
namespace Go.Proofs.YtjnbockdfjhfgaaDoor
set_option linter.unusedVariables false
set_option linter.unusedSimpArgs false
open Go.RowKit Go.ChangeShapes Go.WideShapes Go.ChangeAt Go.Sort

theorem firstF_cons (p : List Fun) (f : Fun) (l : List Fun) (k : Int) : firstF p (f :: l) k = if (funE p f).2 = 0 then firstF p l (k + 1) else (k, funE p f) := rfl
theorem fill_len (n : Nat) : (fillD n n).length = n := fillD_len (Nat.le_refl _)
end Go.Proofs.YtjnbockdfjhfgaaDoor

/- Layer 8's code: Depths. -/
namespace Go.Proofs.YtjnbockdfjhfgaaDoor
set_option linter.unusedVariables false
set_option linter.unusedSimpArgs false
open Go.RowKit Go.ChangeShapes Go.WideShapes Go.ChangeAt Go.Sort

theorem fun_facts {p : List Fun} {f : Fun} (h : (funE p f).2 = 0) : f.ar ≤ f.lo ∧ (∀ x ∈ f.code, fieldI p f x = 0) ∧ (flowF p f.code).2.2 = 0 := by
  unfold funE at h
  split at h
  · cases h
  · rename_i h1
    split at h
    · rename_i h2
      exact ⟨by omega, first_zero _ _ h2, h⟩
    · rename_i h2
      exact absurd h h2
theorem firstF_zero {p : List Fun} : ∀ (l : List Fun) (k : Int), (firstF p l k).2.2 = 0 → ∀ f ∈ l, (funE p f).2 = 0
  | [], _, _, x, hx => by simp at hx
  | y :: l, k, h, x, hx => by
    rw [firstF_cons] at h
    split at h
    · rcases List.mem_cons.1 hx with rfl | hx
      · assumption
      · exact firstF_zero l _ h x hx
    · contradiction
theorem firstF_all {p : List Fun} : ∀ (l : List Fun) (k : Int), (∀ f ∈ l, (funE p f).2 = 0) → firstF p l k = (0, 0, 0)
  | [], _, _ => rfl
  | y :: l, k, h => by
    rw [firstF_cons, if_pos (h y (by simp))]
    exact firstF_all l _ fun x hx => h x (by simp [hx])
theorem check_facts {p : List Fun} (h : (checkP p).2.2 = 0) : mayP p = true ∧ ∀ f ∈ p, (funE p f).2 = 0 := by
  unfold checkP at h
  split at h
  · rename_i hm
    exact ⟨hm, firstF_zero p 0 h⟩
  · cases h
theorem check_all {p : List Fun} (hm : mayP p = true) (h : ∀ f ∈ p, (funE p f).2 = 0) : checkP p = (0, 0, 0) := by
  unfold checkP
  rw [if_pos hm]
  exact firstF_all p 0 h
theorem check_ok {p : List Fun} (h : (checkP p).2.2 = 0) {f : Fun} (hf : f ∈ p) : FunOk p f := by
  obtain ⟨hm, h2⟩ := check_facts h
  obtain ⟨_, _, h3⟩ := (mayP_iff p).1 hm
  exact fun_ok h3 (h3 f hf) (fun_facts (h2 f hf)).2.1
theorem depths_at {p : List Fun} (h : (checkP p).2.2 = 0) {k : Nat} (hk : k < p.length) : depthsP p k = (flowF p p[k].code).1 := by
  unfold depthsP
  rw [if_pos ⟨h, by omega⟩, Int.toNat_natCast, List.getElem?_eq_getElem hk]
theorem depths_bad {p : List Fun} {n : Int} (h : (checkP p).2.2 ≠ 0 ∨ n < 0 ∨ (p.length : Int) ≤ n) : depthsP p n = [] := by
  unfold depthsP
  split
  · rename_i h1
    rw [List.getElem?_eq_none (by omega)]
  · rfl
end Go.Proofs.YtjnbockdfjhfgaaDoor

