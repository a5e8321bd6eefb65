/- Layer 7: what a law may know of code's functions: each as its answer at every input. -/
import Derived.Test.YtcfdbciooimjmaaGreatDoorzPr1
import Derived.Test.YtcfdbciooimjmaaGreatDoorzGb
import Derived.ChangeMaps5
namespace Go.Proofs.YtcfdbciooimjmaaGreatDoor
set_option linter.unusedVariables false
set_option linter.unusedSimpArgs false
open Go.RowKit Go.ChangeShapes Go.WideShapes Go.ChangeAt Go.Sort

/-- The calls of package code, where T holds (tables are laid); D: a digest of bytes. -/
structure CodeB (T : World → Prop) (D : List UInt8 → Int) : Prop where
  keep : ∀ {w w' : World}, T w → Below w.heap.size w w' → T w'
  may : ∀ {B : Nat} {A : Option Addr} {p : List Fun} (c : Nat) (w : World), T w → ProgAt w B A p → SizedP p → B ≤ w.heap.size →
    Calls Tryz.prog 15 #[.slice A p.length c] w fun e w' => e = .returned (.bool (mayP p)) ∧ Below w.heap.size w w'
  text : ∀ {B : Nat} {A : Option Addr} {p : List Fun} (c : Nat) (w : World), T w → ProgAt w B A p → SizedP p → B ≤ w.heap.size →
    Calls Tryz.prog 17 #[.slice A p.length c] w fun e w' => e = .returned (.string ⟨(textP p).toArray⟩) ∧ Below w.heap.size w w'
  enc : ∀ {B : Nat} {A : Option Addr} {p : List Fun} (c : Nat) (w : World), T w → ProgAt w B A p → SizedP p → B ≤ w.heap.size →
    Calls Tryz.prog 19 #[.slice A p.length c] w fun e w' => e = .returned (.string ⟨(encP p).toArray⟩) ∧ Below w.heap.size w w'
  dig : ∀ {B : Nat} {A : Option Addr} {p : List Fun} (c : Nat) (w : World), T w → ProgAt w B A p → SizedP p → B ≤ w.heap.size →
    Calls Tryz.prog 21 #[.slice A p.length c] w fun e w' => e = .returned (.int .i64 (D (encP p))) ∧ Below w.heap.size w w'
  same : ∀ {B : Nat} {A A' : Option Addr} {p q : List Fun} (c c' : Nat) (w : World), T w → ProgAt w B A p → SizedP p → ProgAt w B A' q → SizedP q → B ≤ w.heap.size →
    Calls Tryz.prog 24 #[.slice A p.length c, .slice A' q.length c'] w fun e w' => e = .returned (.bool (sameP p q)) ∧ Below w.heap.size w w'
  parse : ∀ (l : List UInt8) (w : World), T w → l.length ≤ 1000000 →
    Calls Tryz.prog 11 #[.string ⟨l.toArray⟩] w fun e w' => ∃ A c, e = .returned (.tuple #[.slice A (parseP l).1.length c, .int .i64 (parseP l).2.1, .int .i64 (parseP l).2.2]) ∧ ProgAt w' w'.heap.size A (parseP l).1 ∧ Below w.heap.size w w'
  dec : ∀ (l : List UInt8) (w : World), T w → l.length ≤ 1000000 →
    Calls Tryz.prog 13 #[.string ⟨l.toArray⟩] w fun e w' => ∃ A c, e = .returned (.tuple #[.slice A (decP l).1.length c, .int .i64 (decP l).2]) ∧ ProgAt w' w'.heap.size A (decP l).1 ∧ Below w.heap.size w w'
  parseW : ∀ (l : List UInt8) (w : World), T w → l.length ≤ 1000000 →
    Calls Tryz.prog 11 #[.string ⟨l.toArray⟩] w fun e w' => ∃ A c, e = .returned (.tuple #[.slice A (parseP l).1.length c, .int .i64 (parseP l).2.1, .int .i64 (parseP l).2.2]) ∧ (parseP l).1.length ≤ c ∧ ProgAt w' w'.heap.size A (parseP l).1 ∧ Below w.heap.size w w'
/-- And the calls whose answers the document fixes. -/
structure CodeC (T : World → Prop) (D : List UInt8 → Int) : Prop extends CodeB T D where
  fx : ∀ w, T w → Calls Tryz.prog 10 #[] w fun e w' => e = .returned (.bool true) ∧ Below w.heap.size w w'
end Go.Proofs.YtcfdbciooimjmaaGreatDoor

/- Layer 7: what a law may know of the document's Digest, Parse, Decode; sizes of what is read. -/
namespace Go.Proofs.YtcfdbciooimjmaaGreatDoor
set_option linter.unusedVariables false
set_option linter.unusedSimpArgs false
open Go.RowKit Go.ChangeShapes Go.WideShapes Go.ChangeAt Go.Sort

/-- The document's digest. -/
structure RefD (T : World → Prop) (D : List UInt8 → Int) : Prop where
  dig : ∀ {B : Nat} {A : Option Addr} {p : List Fun} (c : Nat) (w : World), T w → ProgAt w B A p → SizedP p → B ≤ w.heap.size →
    Calls Tryz.prog 22 #[.slice A p.length c] w fun e w' => e = .returned (.int .i64 (D (encP p))) ∧ Below w.heap.size w w'
/-- The document's calls that read, and its digest. -/
structure RefC (T : World → Prop) (D : List UInt8 → Int) : Prop extends RefD T D where
  parse : ∀ (l : List UInt8) (w : World), T w → l.length ≤ 1000000 →
    Calls Tryz.prog 12 #[.string ⟨l.toArray⟩] w fun e w' => ∃ A c, e = .returned (.tuple #[.slice A (parseP l).1.length c, .int .i64 (parseP l).2.1, .int .i64 (parseP l).2.2]) ∧ ProgAt w' w'.heap.size A (parseP l).1 ∧ Below w.heap.size w w'
  dec : ∀ (l : List UInt8) (w : World), T w → l.length ≤ 1000000 →
    Calls Tryz.prog 14 #[.string ⟨l.toArray⟩] w fun e w' => ∃ A c, e = .returned (.tuple #[.slice A (decP l).1.length c, .int .i64 (decP l).2]) ∧ ProgAt w' w'.heap.size A (decP l).1 ∧ Below w.heap.size w w'
theorem may_sized {p : List Fun} (h : mayP p = true) : SizedP p := by
  obtain ⟨_, h2, h3⟩ := (mayP_iff p).1 h
  refine ⟨by unfold maxLen; omega, fun f hf => ?_⟩
  have := h3 f hf
  unfold mayF at this
  simp only [Bool.and_eq_true, decide_eq_true_eq] at this
  unfold maxLen
  omega
theorem nil_sized : SizedP [] := ⟨by simp, fun f hf => by simp at hf⟩
theorem parse_sized (l : List UInt8) : SizedP (parseP l).1 := by
  by_cases h : (parseP l).2.2 = 0
  · exact may_sized (text_parse h).1
  · rw [(parse_none h).1]
    exact nil_sized
theorem dec_sized (l : List UInt8) : SizedP (decP l).1 := by
  by_cases h : (decP l).2 = 0
  · exact may_sized (dec_of h).1
  · unfold decP at *
    split
    · exact nil_sized
    · rename_i p r hp
      split
      · rename_i hr
        rw [hp] at h
        simp only at h
        rw [if_pos hr] at h
        exact absurd rfl h
      · exact nil_sized
end Go.Proofs.YtcfdbciooimjmaaGreatDoor

