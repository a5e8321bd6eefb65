/- Layer 7, plain: texts cut at a byte, and joined; numbers in digits. -/
import Derived.Test.YtjibkgildfjjoaaDoorzQt
import Derived.Lib.ItoaNum
import Derived.Test.YtjibkgildfjjoaaDoorRows
import Derived.Test.YtjibkgildfjjoaaDoorzHd
import Derived.Deep.SlicePairs
import Derived.Lib.SmallJoins
import Derived.Laws.Rows
import Derived.OwnWalk
import Derived.Below
import Derived.Deep.WholeRow
import Derived.Laws.IdiomStrings
import Derived.OpenShut
import Derived.Lib.Hide
import Derived.WalkMore
import Derived.Handy
import Derived.BigQuiet
import Derived.Deep.QuietTactic
import Derived.RegionTactic
import Derived.Deep.DeepCutAuto
import Derived.Deep.CutBlock
import Derived.Deep.RegionHeld3
import Derived.Deep.AppendLies
import Derived.Laws.OwnMore
import Derived.Lib.Strings
import Derived.Lib.IndexMore
import Derived.Lib.Split
import Derived.Lib.AtoiAll
import Derived.Lib.AtoiAllCases
import Derived.Lib.LaidTab
namespace Go.Proofs.YtjibkgildfjjoaaDoor
set_option linter.unusedVariables false
set_option linter.unusedSimpArgs false
open Go

/-- A text cut at each byte c. -/
def splitL (c : UInt8) : List UInt8 → List (List UInt8)
  | [] => [[]]
  | x :: r => if x = c then [] :: splitL c r else match splitL c r with
    | w :: ws => (x :: w) :: ws
    | [] => [[x]]
def joinC (c : UInt8) : List (List UInt8) → List UInt8
  | [] => []
  | [w] => w
  | w :: v :: ws => w ++ c :: joinC c (v :: ws)
theorem splitL_ne (c : UInt8) (l : List UInt8) : splitL c l ≠ [] := by
  induction l with
  | nil => simp [splitL]
  | cons x r ih =>
    unfold splitL
    split
    · simp
    · cases h : splitL c r with
      | nil => exact absurd h ih
      | cons w ws => simp
theorem joinC_cons (c x : UInt8) (w : List UInt8) (ws : List (List UInt8)) : joinC c ((x :: w) :: ws) = x :: joinC c (w :: ws) := by
  cases ws <;> simp [joinC]
theorem joinC_nil_cons (c : UInt8) (ws : List (List UInt8)) (h : ws ≠ []) : joinC c ([] :: ws) = c :: joinC c ws := by
  cases ws with
  | nil => exact absurd rfl h
  | cons w ws => simp [joinC]
theorem join_split (c : UInt8) (l : List UInt8) : joinC c (splitL c l) = l := by
  induction l with
  | nil => simp [splitL, joinC]
  | cons x r ih =>
    unfold splitL
    split
    · rename_i h
      rw [joinC_nil_cons c _ (splitL_ne c r), ih, h]
    · cases h : splitL c r with
      | nil => exact absurd h (splitL_ne c r)
      | cons w ws =>
        simp only
        rw [joinC_cons, ← h, ih]
theorem split_word (c : UInt8) (w : List UInt8) (h : c ∉ w) : splitL c w = [w] := by
  induction w with
  | nil => rfl
  | cons x r ih =>
    simp only [List.mem_cons, not_or] at h
    unfold splitL
    rw [if_neg (Ne.symm h.1), ih h.2]
theorem split_app (c : UInt8) (w r : List UInt8) (h : c ∉ w) : splitL c (w ++ c :: r) = w :: splitL c r := by
  induction w with
  | nil => simp [splitL]
  | cons x w ih =>
    simp only [List.mem_cons, not_or] at h
    rw [List.cons_append]
    conv => lhs; unfold splitL
    rw [if_neg (Ne.symm h.1), ih h.2]
/-- Lines, each with a byte c behind it. -/
def flatC (c : UInt8) (ws : List (List UInt8)) : List UInt8 := (ws.map fun w => w ++ [c]).flatten
theorem flatC_cons (c : UInt8) (w : List UInt8) (ws : List (List UInt8)) : flatC c (w :: ws) = w ++ c :: flatC c ws := by simp [flatC]
theorem join_flat (c : UInt8) (t : List UInt8) : ∀ (ws : List (List UInt8)), joinC c (ws ++ [t]) = flatC c ws ++ t
  | [] => by simp [flatC, joinC]
  | w :: ws => by
    rw [flatC_cons, List.cons_append]
    cases h : ws ++ [t] with
    | nil => simp at h
    | cons v vs =>
      rw [joinC, ← h, join_flat c t ws]
      simp

/-- The number that digits are. -/
def valD (w : List UInt8) : Int := w.foldl (fun n c => 10 * n + c.toNat - 48) 0
theorem decd_lt {n : Nat} (h : n < 10) : Lib.decDigits n = [UInt8.ofNat (48 + n % 10)] := by rw [Lib.decDigits, dif_pos h, Nat.mod_eq_of_lt h]
theorem decd_ge {n : Nat} (h : ¬ n < 10) : Lib.decDigits n = Lib.decDigits (n / 10) ++ [UInt8.ofNat (48 + n % 10)] := by rw [Lib.decDigits, dif_neg h]
/-- A number as its digits. -/
def dgI (n : Int) : List UInt8 := Lib.decDigits n.toNat
/-- The number that a word is; -1: none. -/
def numV (w : List UInt8) : Int := if w.length ≤ 3 ∧ 0 ≤ valD w ∧ dgI (valD w) = w then valD w else -1
theorem numV_of {w : List UInt8} (h : 0 ≤ numV w) : dgI (numV w) = w ∧ numV w = valD w ∧ w.length ≤ 3 := by
  unfold numV at *
  split at h
  · rename_i hc
    rw [if_pos hc]
    exact ⟨hc.2.2, rfl, hc.1⟩
  · omega
theorem strb_size (q : List UInt8) : (⟨q.toArray⟩ : ByteArray).size = q.length := by show q.toArray.size = _; simp
end Go.Proofs.YtjibkgildfjjoaaDoor

/- Layer 7, plain: programs, their lines, and their texts. -/
namespace Go.Proofs.YtjibkgildfjjoaaDoor
set_option linter.unusedVariables false
set_option linter.unusedSimpArgs false
open Go

/-- A function of a program: its head, and its instructions. -/
structure Fun where
  ar : Int
  lo : Int
  sl : Int
  code : List (Int × Int × Int)
/-- A line of a program's text. -/
inductive PLine where
  | head (a l s : Int)
  | ins (o a b : Int)
def headB (a l s : Int) : Bool := decide (0 ≤ a) && decide (a ≤ 16) && (decide (0 ≤ l) && decide (l ≤ 16)) && (decide (0 ≤ s) && decide (s ≤ 8))
theorem headB_iff (a l s : Int) : headB a l s = true ↔ (0 ≤ a ∧ a ≤ 16) ∧ (0 ≤ l ∧ l ≤ 16) ∧ 0 ≤ s ∧ s ≤ 8 := by
  simp [headB, and_assoc]
def okL : PLine → Bool
  | .head a l s => headB a l s
  | .ins o a b => mayZ o a b
/-- 'func'. -/
def funcW : List UInt8 := [102, 117, 110, 99]
def nmL (o : Int) : List UInt8 := (rz o).nm.data.toList
def wordsL : PLine → List (List UInt8)
  | .head a l s => [funcW, dgI a, dgI l, dgI s]
  | .ins o a b => nmL o :: (if (rz o).f < 1 then [] else if (rz o).f < 2 then [dgI a] else [dgI a, dgI b])
def lineT (x : PLine) : List UInt8 := joinC 32 (wordsL x)

theorem nmL_in {k : Nat} (hk : k < 17) : nmL k = (orow k).nm.data.toList := by unfold nmL; rw [rz_in hk]
theorem may_in {o a b : Int} (h : mayZ o a b = true) : ∃ k : Nat, k < 17 ∧ o = k := by
  rcases okZ_cases o with h1 | h1
  · exact h1
  · unfold mayZ at h
    rw [h1] at h
    cases h
/-- The numbers of words; none: one is no number, or there are more than three. -/
def numsW (ws : List (List UInt8)) : Option (List Int) := if ws.length ≤ 3 ∧ ∀ w ∈ ws, 0 ≤ numV w then some (ws.map numV) else none
/-- The line that a text is. -/
def lineOf (l : List UInt8) : Option PLine :=
  match splitL 32 l with
  | [] => none
  | w :: ws => match numsW ws with
    | none => none
    | some ns =>
      if w = funcW then (if ns.length = 3 ∧ headB (ns.getD 0 0) (ns.getD 1 0) (ns.getD 2 0) = true then some (.head (ns.getD 0 0) (ns.getD 1 0) (ns.getD 2 0)) else none)
      else if mayZ (rfnd ⟨w.toArray⟩) (ns.getD 0 0) (ns.getD 1 0) = true ∧ (ns.length : Int) = (rz (rfnd ⟨w.toArray⟩)).f then some (.ins (rfnd ⟨w.toArray⟩) (ns.getD 0 0) (ns.getD 1 0)) else none

theorem bytes_eta (l : List UInt8) : (⟨l.toArray⟩ : ByteArray).data.toList = l := by simp
theorem rfnd_of {s : ByteArray} (h : okO (rfnd s) = true) : ∃ k : Nat, k < 17 ∧ rfnd s = k ∧ s.data.toList = nmL k := by
  by_cases hi : idxN s < 17
  · refine ⟨idxN s, hi, rfnd_hit rfl hi, ?_⟩
    rw [nmL_in hi, idx_name hi]
  · have he : idxN s = 17 := by have := idx_le s; omega
    rw [rfnd_miss he] at h
    exact absurd h (by decide)
theorem numsW_of {ws : List (List UInt8)} {ns : List Int} (h : numsW ws = some ns) : ns.length ≤ 3 ∧ ws = ns.map dgI ∧ ∀ n ∈ ns, 0 ≤ n := by
  unfold numsW at h
  split at h
  · rename_i hc
    simp only [Option.some.injEq] at h
    subst h
    refine ⟨by simpa using hc.1, ?_, fun n hn => ?_⟩
    · rw [List.map_map]
      conv => lhs; rw [← List.map_id ws]
      exact List.map_congr_left fun w hw => (numV_of (hc.2 w hw)).1.symm
    · obtain ⟨w, hw, rfl⟩ := List.mem_map.1 hn
      exact hc.2 w hw
  · cases h

theorem row_bounds {o a b : Int} (h : mayZ o a b = true) : (0 ≤ a ∧ a < 1000) ∧ (0 ≤ b ∧ b < 1000) ∧ ((rz o).f < 1 → a = 0) ∧ ((rz o).f < 2 → b = 0) ∧ 0 ≤ (rz o).f ∧ (rz o).f ≤ 2 := by
  obtain ⟨k, hk, rfl⟩ := may_in h
  obtain ⟨h1, h2, h3, h4⟩ := (may_iff hk a b).1 h
  obtain ⟨r1, r2, r3, r4, r5⟩ := row_ok k hk
  rw [rz_in hk]
  refine ⟨by omega, by omega, fun hf => ?_, fun hf => ?_, by omega, by omega⟩
  · omega
  · omega

theorem lineOf_of {l : List UInt8} {x : PLine} (h : lineOf l = some x) : okL x = true ∧ lineT x = l := by
  have hj := join_split 32 l
  unfold lineOf at h
  split at h
  · cases h
  · rename_i w ws hs
    rw [hs] at hj
    split at h
    · cases h
    · rename_i ns hn
      obtain ⟨hl, rfl, hp⟩ := numsW_of hn
      split at h
      · rename_i hw
        split at h
        · rename_i hc
          simp only [Option.some.injEq] at h
          subst h
          refine ⟨hc.2, ?_⟩
          match ns, hc with
          | [a, l, s], hc => subst hw; exact hj
        · cases h
      · rename_i hw
        split at h
        · rename_i hc
          simp only [Option.some.injEq] at h
          subst h
          refine ⟨hc.1, ?_⟩
          obtain ⟨k, hk, he⟩ := may_in hc.1
          obtain ⟨j, hj2, he2, hb⟩ := rfnd_of (s := ⟨w.toArray⟩) (by rw [he]; simp [okO]; omega)
          rw [bytes_eta] at hb
          rw [he2] at hc ⊢
          rw [← hj, hb]
          unfold lineT
          congr 1
          match ns, hc with
          | [], hc => simp only [wordsL]; rw [if_pos (by have := hc.2; simp at this; omega)]; rfl
          | [a], hc => simp only [wordsL]; have := hc.2; simp at this; rw [if_neg (by omega), if_pos (by omega)]; rfl
          | [a, b], hc => simp only [wordsL]; have := hc.2; simp at this; rw [if_neg (by omega), if_neg (by omega)]; rfl
          | [a, b, c], hc =>
            have h1 := hc.2
            have := (row_bounds hc.1).2.2.2.2.2
            simp at h1
            omega
        · cases h
end Go.Proofs.YtjibkgildfjjoaaDoor

/- Layer 7, plain: programs read of their texts. -/
namespace Go.Proofs.YtjibkgildfjjoaaDoor
set_option linter.unusedVariables false
set_option linter.unusedSimpArgs false
open Go

def linesF (f : Fun) : List PLine := .head f.ar f.lo f.sl :: f.code.map fun x => .ins x.1 x.2.1 x.2.2
def linesP (p : List Fun) : List PLine := (p.map linesF).flatten
/-- May a function be? -/
def mayF (f : Fun) : Bool := headB f.ar f.lo f.sl && (decide (1 ≤ f.code.length) && decide (f.code.length ≤ 200)) && f.code.all fun x => mayZ x.1 x.2.1 x.2.2
def mayP (p : List Fun) : Bool := decide (1 ≤ p.length) && decide (p.length ≤ 16) && p.all mayF
def textP (p : List Fun) : List UInt8 := if mayP p = true then flatC 10 ((linesP p).map lineT) else []
/-- May a program's next function be laid? -/
def openR (p : List Fun) : Bool := match p.getLast? with
  | some f => !f.code.isEmpty
  | none => true
/-- A program, and a line more. -/
def layH (p : List Fun) (a l s : Int) : Option (List Fun) := if openR p = true ∧ p.length ≠ 16 then some (p ++ [⟨a, l, s, []⟩]) else none
def layI (p : List Fun) (o a b : Int) : Option (List Fun) := match p.getLast? with
  | none => none
  | some f => if f.code.length = 200 then none else some (p.dropLast ++ [⟨f.ar, f.lo, f.sl, f.code ++ [(o, a, b)]⟩])
def layL (p : List Fun) : PLine → Option (List Fun)
  | .head a l s => layH p a l s
  | .ins o a b => layI p o a b
/-- Lines, one behind the other: what was laid, how many were, whether all were. -/
def runL : List Fun → List (List UInt8) → List Fun × Nat × Bool
  | p, [] => (p, 0, true)
  | p, l :: ls => match (lineOf l).bind (layL p) with
    | none => (p, 0, false)
    | some q => ((runL q ls).1, (runL q ls).2.1 + 1, (runL q ls).2.2)
def parseP (s : List UInt8) : List Fun × Nat × Int :=
  let L := splitL 10 s
  let r := runL [] L.dropLast
  if r.2.2 = true ∧ L.getLast? = some [] ∧ mayP r.1 = true then (r.1, r.2.1, 0) else ([], r.2.1, 70)

theorem linesP_nil : linesP [] = [] := rfl
theorem linesP_app (p q : List Fun) : linesP (p ++ q) = linesP p ++ linesP q := by simp [linesP]
theorem mayF_iff (f : Fun) : mayF f = true ↔ headB f.ar f.lo f.sl = true ∧ 1 ≤ f.code.length ∧ f.code.length ≤ 200 ∧ ∀ x ∈ f.code, mayZ x.1 x.2.1 x.2.2 = true := by
  simp [mayF, and_assoc]
theorem mayP_iff (p : List Fun) : mayP p = true ↔ 1 ≤ p.length ∧ p.length ≤ 16 ∧ ∀ f ∈ p, mayF f = true := by
  simp [mayP, and_assoc]
theorem runL_nil (p : List Fun) : runL p [] = (p, 0, true) := rfl
theorem runL_some {p q : List Fun} {l : List UInt8} (ls : List (List UInt8)) (h : (lineOf l).bind (layL p) = some q) : runL p (l :: ls) = ((runL q ls).1, (runL q ls).2.1 + 1, (runL q ls).2.2) := by
  rw [runL, h]
theorem runL_none {p : List Fun} {l : List UInt8} (ls : List (List UInt8)) (h : (lineOf l).bind (layL p) = none) : runL p (l :: ls) = (p, 0, false) := by
  rw [runL, h]
theorem getLast_split {α : Type} {p : List α} {f : α} (h : p.getLast? = some f) : p = p.dropLast ++ [f] := by
  have hne : p ≠ [] := by intro e; rw [e] at h; simp at h
  rw [List.getLast?_eq_some_getLast hne] at h
  simp only [Option.some.injEq] at h
  rw [← h]
  exact (List.dropLast_concat_getLast hne).symm
/-- What is laid has just these lines. -/
theorem lay_lines {p q : List Fun} {x : PLine} (h : layL p x = some q) : linesP q = linesP p ++ [x] := by
  cases x with
  | head a l s =>
    have h' : layH p a l s = some q := h
    unfold layH at h'
    split at h'
    · simp only [Option.some.injEq] at h'
      subst h'
      rw [linesP_app]
      rfl
    · cases h'
  | ins o a b =>
    have h' : layI p o a b = some q := h
    unfold layI at h'
    split at h'
    · cases h'
    · rename_i f hf
      split at h'
      · cases h'
      · simp only [Option.some.injEq] at h'
        subst h'
        have hs := getLast_split hf
        conv => rhs; rw [hs]
        rw [linesP_app, linesP_app]
        simp [linesP, linesF]
theorem run_lines : ∀ (ls : List (List UInt8)) (p : List Fun), (runL p ls).2.2 = true → (linesP (runL p ls).1).map lineT = (linesP p).map lineT ++ ls
  | [], p, _ => by simp [runL_nil]
  | l :: ls, p, h => by
    cases hq : (lineOf l).bind (layL p) with
    | none => rw [runL_none ls hq] at h; cases h
    | some q =>
      rw [runL_some ls hq] at h ⊢
      simp only
      rw [run_lines ls q h]
      cases hl : lineOf l with
      | none => rw [hl] at hq; cases hq
      | some x =>
        rw [hl] at hq
        rw [lay_lines (show layL p x = some q from hq)]
        rw [List.map_append, List.append_assoc]
        congr 1
        simp [(lineOf_of hl).2]

theorem text_eq {p : List Fun} (h : mayP p = true) : textP p = flatC 10 ((linesP p).map lineT) := by unfold textP; rw [if_pos h]
/-- A text that is read is the program's own. -/
theorem text_parse {s : List UInt8} (h : (parseP s).2.2 = 0) : mayP (parseP s).1 = true ∧ textP (parseP s).1 = s := by
  have hj := join_split 10 s
  unfold parseP at *
  simp only at *
  split at h
  · rename_i hc
    rw [if_pos hc]
    refine ⟨hc.2.2, ?_⟩
    rw [text_eq hc.2.2, run_lines _ _ hc.1]
    have hs := getLast_split hc.2.1
    rw [hs, join_flat] at hj
    simpa [linesP_nil] using hj
  · simp at h
theorem parse_none {s : List UInt8} (h : (parseP s).2.2 ≠ 0) : (parseP s).1 = [] ∧ (parseP s).2.2 = 70 := by
  unfold parseP at *
  simp only at *
  split at h
  · simp at h
  · rename_i hc
    rw [if_neg hc]
    exact ⟨rfl, rfl⟩
end Go.Proofs.YtjibkgildfjjoaaDoor

/- Layer 8, plain: depths of places, by going through them, the least first. -/
namespace Go.Proofs.YtjibkgildfjjoaaDoor
set_option linter.unusedVariables false
set_option linter.unusedSimpArgs false
open Go

/-- What a function takes. -/
def arP (p : List Fun) (i : Int) : Int := match p[i.toNat]? with
  | some f => f.ar
  | none => 0
def offI (p : List Fun) (x : Int × Int × Int) : Int := if x.1 = 13 then arP p x.2.1 else (rz x.1).p
def nextI (x : Int × Int × Int) (i : Int) : List Int := if x.1 = 10 then [x.2.1] else if x.1 = 15 ∨ x.1 = 16 then [] else if x.1 = 11 then [i + 1, x.2.1] else [i + 1]
def nodeI (p : List Fun) (x : Int × Int × Int) (i : Int) : Int × Int × List Int := (offI p x, (rz x.1).q, nextI x i)
/-- What is wrong with an instruction's fields. -/
def fieldI (p : List Fun) (f : Fun) (x : Int × Int × Int) : Int :=
  if ((x.1 = 1 ∨ x.1 = 2) ∧ f.lo ≤ x.2.1) ∨ (x.1 = 14 ∧ f.sl ≤ x.2.1) ∨ (x.1 = 13 ∧ (f.sl ≤ x.2.2 ∨ (p.length : Int) ≤ x.2.1)) then 82
  else if (x.1 = 10 ∨ x.1 = 11) ∧ (f.code.length : Int) ≤ x.2.1 then 83 else 0
def grF (p : List Fun) (c : List (Int × Int × Int)) (i : Nat) : Int × Int × List Int := match c[i]? with
  | some x => nodeI p x i
  | none => (0, 0, [])
/-- Places that follow are reached, one behind the other: depths, who waits, what is wrong. -/
def nextsS (b : Int) : List Int → List Int → List Bool → List Int × List Bool × Int
  | [], D, W => (D, W, 0)
  | t :: ts, D, W =>
    if (D.length : Int) ≤ t then (D, W, 81)
    else if D.getD t.toNat 0 = -1 then nextsS b ts (D.set t.toNat b) (W.set t.toNat true)
    else if D.getD t.toNat 0 = b then nextsS b ts D W else (D, W, 84)
/-- A place is gone through. -/
def procS (g : Int × Int × List Int) (d : Int) (D : List Int) (W : List Bool) : List Int × List Bool × Int :=
  if d < g.1 ∨ 16 < d - g.1 + g.2.1 then (D, W, 84) else nextsS (d - g.1 + g.2.1) g.2.2 D W
/-- The least place that waits. -/
def openS (W : List Bool) : Option Nat := W.findIdx? (· == true)
def flowS (G : Nat → Int × Int × List Int) : Nat → List Int → List Bool → List Int × Int × Int
  | 0, D, _ => (D, 0, 0)
  | k + 1, D, W => match openS W with
    | none => (D, 0, 0)
    | some i => if (procS (G i) (D.getD i 0) D (W.set i false)).2.2 = 0 then flowS G k (procS (G i) (D.getD i 0) D (W.set i false)).1 (procS (G i) (D.getD i 0) D (W.set i false)).2.1
      else (D, i, (procS (G i) (D.getD i 0) D (W.set i false)).2.2)
def initD (n : Nat) : List Int := 0 :: List.replicate (n - 1) (-1)
def initW (n : Nat) : List Bool := true :: List.replicate (n - 1) false
def flowF (p : List Fun) (c : List (Int × Int × Int)) : List Int × Int × Int := flowS (grF p c) 201 (initD c.length) (initW c.length)
/-- The first one that is wrong. -/
def firstI (p : List Fun) (f : Fun) : List (Int × Int × Int) → Int → Int × Int
  | [], _ => (0, 0)
  | x :: xs, k => if fieldI p f x = 0 then firstI p f xs (k + 1) else (k, fieldI p f x)
def funE (p : List Fun) (f : Fun) : Int × Int :=
  if f.lo < f.ar then (0, 80) else if (firstI p f f.code 0).2 = 0 then (flowF p f.code).2 else firstI p f f.code 0
def firstF (p : List Fun) : List Fun → Int → Int × Int × Int
  | [], _ => (0, 0, 0)
  | f :: fs, k => if (funE p f).2 = 0 then firstF p fs (k + 1) else (k, funE p f)
def checkP (p : List Fun) : Int × Int × Int := if mayP p = true then firstF p p 0 else (0, 0, 1)
def depthsP (p : List Fun) (n : Int) : List Int := if (checkP p).2.2 = 0 ∧ 0 ≤ n then (match p[n.toNat]? with
  | some f => (flowF p f.code).1
  | none => []) else []

theorem openS_some {W : List Bool} {i : Nat} (h : openS W = some i) : ∃ hi : i < W.length, W[i] = true ∧ ∀ j (hj : j < i), W[j] = false := by
  unfold openS at h
  obtain ⟨hi, h1, h2⟩ := List.findIdx?_eq_some_iff_getElem.1 h
  refine ⟨hi, by simpa using h1, fun j hj => ?_⟩
  have := h2 j hj
  simpa using this
theorem openS_at {W : List Bool} {i : Nat} (hi : i < W.length) (h : W[i] = true) (hj : ∀ j (hj : j < i), W[j] = false) : openS W = some i := by
  unfold openS
  exact List.findIdx?_eq_some_iff_getElem.2 ⟨hi, by simpa using h, fun j h2 => by have := hj j h2; simpa using this⟩
theorem openS_no {W : List Bool} (h : ∀ x ∈ W, x = false) : openS W = none := by
  unfold openS
  exact List.findIdx?_eq_none_iff.2 fun x hx => by have := h x hx; simpa using this
theorem nexts_len {b : Int} : ∀ {ts : List Int} {D : List Int} {W : List Bool}, (nextsS b ts D W).1.length = D.length ∧ (nextsS b ts D W).2.1.length = W.length
  | [], D, W => ⟨rfl, rfl⟩
  | t :: ts, D, W => by
    unfold nextsS
    split
    · exact ⟨rfl, rfl⟩
    · split
      · have := @nexts_len b ts (D.set t.toNat b) (W.set t.toNat true)
        simpa using this
      · split
        · exact nexts_len
        · exact ⟨rfl, rfl⟩
/-- What changes: places that were not reached, and wait now. -/
def Grew (b : Int) (ts : List Int) (D D' : List Int) (W W' : List Bool) : Prop :=
  ∀ i, (D'[i]? = D[i]? ∧ W'[i]? = W[i]?) ∨ (D[i]? = some (-1) ∧ D'[i]? = some b ∧ W'[i]? = some true ∧ ∃ t ∈ ts, t.toNat = i)
theorem nexts_grew {b : Int} : ∀ {ts : List Int} {D : List Int} {W : List Bool}, W.length = D.length → (∀ t ∈ ts, 0 ≤ t) → Grew b ts D (nextsS b ts D W).1 W (nextsS b ts D W).2.1
  | [], D, W, _, _ => fun i => .inl ⟨rfl, rfl⟩
  | t :: ts, D, W, hl, h0 => by
    unfold nextsS
    have ht := h0 t (by simp)
    have hts : ∀ t ∈ ts, 0 ≤ t := fun u hu => h0 u (by simp [hu])
    split
    · exact fun i => .inl ⟨rfl, rfl⟩
    · rename_i hlt
      have hlt2 : t.toNat < D.length := by omega
      split
      · rename_i hm
        have ih := @nexts_grew b ts (D.set t.toNat b) (W.set t.toNat true) (by simp [hl]) hts
        intro i
        by_cases hi : t.toNat = i
        · subst hi
          rcases ih t.toNat with ⟨h1, h2⟩ | ⟨h1, h2, h3, h4⟩
          · refine .inr ⟨?_, ?_, ?_, t, by simp, rfl⟩
            · rw [List.getD_eq_getElem?_getD, List.getElem?_eq_getElem hlt2] at hm
              rw [List.getElem?_eq_getElem hlt2]
              simpa using hm
            · rw [h1]; simp [hlt2]
            · rw [h2]; simp [hl, hlt2]
          · refine .inr ⟨?_, h2, h3, t, by simp, rfl⟩
            rw [List.getD_eq_getElem?_getD, List.getElem?_eq_getElem hlt2] at hm
            rw [List.getElem?_eq_getElem hlt2]
            simpa using hm
        · rcases ih i with ⟨h1, h2⟩ | ⟨h1, h2, h3, u, h4, h5⟩
          · exact .inl ⟨by rw [h1, List.getElem?_set_ne hi], by rw [h2, List.getElem?_set_ne hi]⟩
          · exact .inr ⟨by rw [List.getElem?_set_ne hi] at h1; exact h1, h2, h3, u, by simp [h4], h5⟩
      · split
        · intro i
          rcases @nexts_grew b ts D W hl hts i with h | ⟨h1, h2, h3, u, h4, h5⟩
          · exact .inl h
          · exact .inr ⟨h1, h2, h3, u, by simp [h4], h5⟩
        · exact fun i => .inl ⟨rfl, rfl⟩
theorem grew_keeps {b : Int} {ts : List Int} {D D' : List Int} {W W' : List Bool} (h : Grew b ts D D' W W') {i : Nat} {d : Int} (hd : D[i]? = some d) (hn : d ≠ -1) : D'[i]? = some d ∧ W'[i]? = W[i]? := by
  rcases h i with ⟨h1, h2⟩ | ⟨h1, _⟩
  · exact ⟨h1.trans hd, h2⟩
  · rw [hd] at h1
    exact absurd (Option.some.inj h1) hn
theorem nexts_ok {b : Int} (hb : b ≠ -1) : ∀ {ts : List Int} {D : List Int} {W : List Bool}, W.length = D.length → (∀ t ∈ ts, 0 ≤ t) → (nextsS b ts D W).2.2 = 0 → ∀ t ∈ ts, t < D.length ∧ (nextsS b ts D W).1[t.toNat]? = some b
  | [], D, W, _, _, _, t, h => by simp at h
  | t :: ts, D, W, hl, h0, he, u, hu => by
    have ht := h0 t (by simp)
    have hts : ∀ t ∈ ts, 0 ≤ t := fun u hu => h0 u (by simp [hu])
    unfold nextsS at he ⊢
    split
    · rename_i hc
      rw [if_pos hc] at he
      cases he
    · rename_i hc
      rw [if_neg hc] at he
      have hlt2 : t.toNat < D.length := by omega
      split
      · rename_i hm
        rw [if_pos hm] at he
        have ih := @nexts_ok b hb ts (D.set t.toNat b) (W.set t.toNat true) (by simp [hl]) hts he
        rcases List.mem_cons.1 hu with rfl | hu
        · refine ⟨by omega, ?_⟩
          exact (grew_keeps (nexts_grew (b := b) (ts := ts) (by simp [hl]) hts) (by simp [hlt2]) hb).1
        · have := ih u hu
          simpa using this
      · rename_i hm
        rw [if_neg hm] at he
        split
        · rename_i hm2
          rw [if_pos hm2] at he
          have ih := @nexts_ok b hb ts D W hl hts he
          rcases List.mem_cons.1 hu with rfl | hu
          · refine ⟨by omega, ?_⟩
            refine (grew_keeps (nexts_grew (b := b) (ts := ts) hl hts) ?_ hb).1
            rw [List.getD_eq_getElem?_getD, List.getElem?_eq_getElem hlt2] at hm2
            rw [List.getElem?_eq_getElem hlt2]
            simpa using hm2
          · exact ih u hu
        · rename_i hm2
          rw [if_neg hm2] at he
          cases he

/-- How many places are still to be gone through. -/
def todoB (D : List Int) (W : List Bool) (i : Nat) : Bool := D[i]? == some (-1) || W[i]? == some true
def muS (n : Nat) (D : List Int) (W : List Bool) : Nat := (List.range n).countP (todoB D W)
theorem countP_lt {α : Type} {p q : α → Bool} : ∀ {l : List α}, (∀ x ∈ l, q x = true → p x = true) → (∃ a ∈ l, p a = true ∧ q a = false) → l.countP q < l.countP p
  | [], _, h => by obtain ⟨a, h, _⟩ := h; simp at h
  | x :: l, h1, ⟨a, ha, hp, hq⟩ => by
    have hx := h1 x (by simp)
    have hl : ∀ y ∈ l, q y = true → p y = true := fun y hy => h1 y (by simp [hy])
    have hle : l.countP q ≤ l.countP p := List.countP_mono_left hl
    rw [List.countP_cons, List.countP_cons]
    rcases List.mem_cons.1 ha with rfl | ha
    · rw [hp, hq]
      simp
      omega
    · have := countP_lt hl ⟨a, ha, hp, hq⟩
      cases hqx : q x
      · simp
        split <;> omega
      · rw [hx hqx]
        simp
        omega
theorem mu_pos {n : Nat} {D : List Int} {W : List Bool} {i : Nat} (hi : i < n) (h : W[i]? = some true) : 0 < muS n D W := by
  unfold muS
  rw [List.countP_pos_iff]
  exact ⟨i, by simpa using hi, by simp [todoB, h]⟩
/-- What is known of depths and of who waits, all the way. -/
structure Gone (G : Nat → Int × Int × List Int) (n : Nat) (D : List Int) (W : List Bool) : Prop where
  dl : D.length = n
  wl : W.length = n
  zero : D[0]? = some 0
  range : ∀ (i : Nat) (d : Int), D[i]? = some d → -1 ≤ d ∧ d ≤ 16
  wait : ∀ i : Nat, W[i]? = some true → D[i]? ≠ some (-1)
  done : ∀ (i : Nat) (d : Int), D[i]? = some d → d ≠ -1 → W[i]? = some false → (G i).1 ≤ d ∧ d - (G i).1 + (G i).2.1 ≤ 16 ∧ ∀ t ∈ (G i).2.2, t < n ∧ D[t.toNat]? = some (d - (G i).1 + (G i).2.1)
  from_ : ∀ (i : Nat) (d : Int), 0 < i → D[i]? = some d → d ≠ -1 → ∃ (j : Nat) (e : Int), D[j]? = some e ∧ e ≠ -1 ∧ W[j]? = some false ∧ ∃ t ∈ (G j).2.2, t.toNat = i
/-- Places that follow are told by numbers, and more is laid than nothing. -/
def Fine (G : Nat → Int × Int × List Int) (n : Nat) : Prop := ∀ i, i < n → 0 ≤ (G i).2.1 ∧ ∀ t ∈ (G i).2.2, 0 ≤ t
theorem good_step {G : Nat → Int × Int × List Int} {n : Nat} {D : List Int} {W : List Bool} (hF : Fine G n) (h : Gone G n D W) {i : Nat} (ho : openS W = some i)
    (he : (procS (G i) (D.getD i 0) D (W.set i false)).2.2 = 0) :
    Gone G n (procS (G i) (D.getD i 0) D (W.set i false)).1 (procS (G i) (D.getD i 0) D (W.set i false)).2.1 ∧
    muS n (procS (G i) (D.getD i 0) D (W.set i false)).1 (procS (G i) (D.getD i 0) D (W.set i false)).2.1 < muS n D W := by
  obtain ⟨hi, hwi, _⟩ := openS_some ho
  have hdl := h.dl
  have hwl := h.wl
  have hin : i < n := by omega
  have hid : i < D.length := by omega
  obtain ⟨hq, hts⟩ := hF i hin
  have hd0 : D[i]? = some D[i] := List.getElem?_eq_getElem hid
  have hg : D.getD i 0 = D[i] := by rw [List.getD_eq_getElem?_getD, hd0]; rfl
  have hwait := h.wait i (by rw [List.getElem?_eq_getElem hi, hwi])
  rw [hd0] at hwait
  have hdn : D[i] ≠ -1 := fun e => hwait (by rw [e])
  have hr := h.range i _ hd0
  rw [hg] at he ⊢
  generalize D[i] = d at *
  unfold procS at he ⊢
  split
  · rename_i hc
    rw [if_pos hc] at he
    cases he
  rename_i hc
  rw [if_neg hc] at he
  have hb : d - (G i).1 + (G i).2.1 ≠ -1 := by omega
  have hlen := @nexts_len (d - (G i).1 + (G i).2.1) (G i).2.2 D (W.set i false)
  have hgr := @nexts_grew (d - (G i).1 + (G i).2.1) (G i).2.2 D (W.set i false) (by simp; omega) hts
  have hok := @nexts_ok (d - (G i).1 + (G i).2.1) hb (G i).2.2 D (W.set i false) (by simp; omega) hts he
  have hWi : (W.set i false)[i]? = some false := by simp [hi]
  have hWj : ∀ j, i ≠ j → (W.set i false)[j]? = W[j]? := fun j hj => List.getElem?_set_ne hj
  generalize nextsS (d - (G i).1 + (G i).2.1) (G i).2.2 D (W.set i false) = R at *
  obtain ⟨D', W', e'⟩ := R
  simp only at *
  have hki := grew_keeps hgr hd0 hdn
  have hW'i : W'[i]? = some false := by rw [hki.2, hWi]
  constructor
  · refine ⟨by omega, by simp at hlen; omega, ?_, ?_, ?_, ?_, ?_⟩
    · exact (grew_keeps hgr h.zero (by omega)).1
    · intro j e hj
      rcases hgr j with ⟨h1, h2⟩ | ⟨h1, h2, _⟩
      · exact h.range j e (h1.symm.trans hj)
      · rw [hj] at h2
        have := Option.some.inj h2
        omega
    · intro j hj e
      rcases hgr j with ⟨h1, h2⟩ | ⟨h1, h2, _⟩
      · by_cases hij : i = j
        · subst hij
          rw [hW'i] at hj
          cases hj
        · exact h.wait j (by rw [← hWj j hij, ← h2, hj]) (h1.symm.trans e)
      · rw [e] at h2
        exact hb (Option.some.inj h2).symm
    · intro j e hj hne hw
      by_cases hij : i = j
      · subst hij
        rw [hki.1] at hj
        obtain rfl := Option.some.inj hj
        exact ⟨by omega, by omega, fun t ht => ⟨by have := (hok t ht).1; omega, (hok t ht).2⟩⟩
      · rcases hgr j with ⟨h1, h2⟩ | ⟨h1, h2, h3, _⟩
        · have hWW : W[j]? = some false := by rw [← hWj j hij, ← h2, hw]
          have hDD : D[j]? = some e := h1.symm.trans hj
          obtain ⟨g1, g2, g3⟩ := h.done j e hDD hne hWW
          have hjl : j < n := by
            obtain ⟨_, _⟩ := List.getElem?_eq_some_iff.1 hDD
            omega
          refine ⟨g1, g2, fun t ht => ⟨(g3 t ht).1, ?_⟩⟩
          refine (grew_keeps hgr (g3 t ht).2 ?_).1
          have := (hF j hjl).1
          have := h.range j e hDD
          omega
        · rw [hw] at h3
          cases h3
    · intro j e hj0 hj hne
      rcases hgr j with ⟨h1, h2⟩ | ⟨h1, h2, h3, t, ht, htj⟩
      · obtain ⟨k, ek, g1, g2, g3, g4⟩ := h.from_ j e hj0 (h1.symm.trans hj) hne
        have hik : i ≠ k := fun e => by
          subst e
          rw [List.getElem?_eq_getElem hi, hwi] at g3
          cases g3
        have hk := grew_keeps hgr g1 g2
        exact ⟨k, ek, hk.1, g2, by rw [hk.2, hWj k hik, g3], g4⟩
      · exact ⟨i, d, hki.1, hdn, hW'i, t, ht, htj⟩
  · unfold muS
    refine countP_lt (fun j _ hj => ?_) ⟨i, by simpa using hin, by simp [todoB, List.getElem?_eq_getElem hi, hwi], ?_⟩
    · simp only [todoB, Bool.or_eq_true, beq_iff_eq] at hj ⊢
      rcases hgr j with ⟨h1, h2⟩ | ⟨h1, h2, h3, _⟩
      · by_cases hij : i = j
        · subst hij
          rw [hki.1, hW'i] at hj
          rcases hj with hj | hj
          · exact absurd (Option.some.inj hj) hdn
          · cases hj
        · rw [h1, h2, hWj j hij] at hj
          exact hj
      · exact .inl h1
    · rw [todoB, hki.1, hW'i]
      simpa using hdn
theorem init_good (G : Nat → Int × Int × List Int) {n : Nat} (hn : 0 < n) : Gone G n (initD n) (initW n) := by
  have hD : ∀ i d, (initD n)[i]? = some d → (i = 0 ∧ d = 0) ∨ (0 < i ∧ d = -1) := by
    intro i d h
    cases i with
    | zero => exact .inl ⟨rfl, by simpa [initD] using h.symm⟩
    | succ i =>
      simp only [initD, List.getElem?_cons_succ, List.getElem?_replicate] at h
      split at h
      · exact .inr ⟨by omega, (Option.some.inj h).symm⟩
      · cases h
  have hW : ∀ i b, (initW n)[i]? = some b → (i = 0 ∧ b = true) ∨ (0 < i ∧ b = false) := by
    intro i d h
    cases i with
    | zero => exact .inl ⟨rfl, by simpa [initW] using h.symm⟩
    | succ i =>
      simp only [initW, List.getElem?_cons_succ, List.getElem?_replicate] at h
      split at h
      · exact .inr ⟨by omega, (Option.some.inj h).symm⟩
      · cases h
  refine ⟨by simp [initD]; omega, by simp [initW]; omega, rfl, ?_, ?_, ?_, ?_⟩
  · intro i d h
    rcases hD i d h with ⟨_, h⟩ | ⟨_, h⟩ <;> omega
  · intro i h e
    rcases hW i _ h with ⟨rfl, _⟩ | ⟨_, h⟩
    · simp [initD] at e
    · cases h
  · intro i d h hd hw
    rcases hD i d h with ⟨rfl, _⟩ | ⟨_, h⟩
    · rcases hW 0 _ hw with ⟨_, h⟩ | ⟨h, _⟩
      · cases h
      · omega
    · exact absurd h hd
  · intro i d h0 h hd
    rcases hD i d h with ⟨rfl, _⟩ | ⟨_, h⟩
    · omega
    · exact absurd h hd
theorem mu_le (n : Nat) (D : List Int) (W : List Bool) : muS n D W ≤ n := by
  unfold muS
  have := List.countP_le_length (l := List.range n) (p := todoB D W)
  simpa using this
theorem nexts_nil (b : Int) (D : List Int) (W : List Bool) : nextsS b [] D W = (D, W, 0) := rfl
theorem nexts_eq (b t : Int) (ts : List Int) (D : List Int) (W : List Bool) : nextsS b (t :: ts) D W = if (D.length : Int) ≤ t then (D, W, 81)
    else if D.getD t.toNat 0 = -1 then nextsS b ts (D.set t.toNat b) (W.set t.toNat true)
    else if D.getD t.toNat 0 = b then nextsS b ts D W else (D, W, 84) := rfl
theorem nexts_cons (b t : Int) (ts : List Int) (D : List Int) (V : List Bool) : nextsS b (t :: ts) D V = if (nextsS b [t] D V).2.2 = 0 then nextsS b ts (nextsS b [t] D V).1 (nextsS b [t] D V).2.1 else nextsS b [t] D V := by
  rw [nexts_eq, nexts_eq b t [], nexts_nil, nexts_nil]
  by_cases h1 : (D.length : Int) ≤ t
  · simp only [if_pos h1]; rfl
  · by_cases h2 : D.getD t.toNat 0 = -1
    · simp only [if_neg h1, if_pos h2]; rfl
    · by_cases h3 : D.getD t.toNat 0 = b
      · simp only [if_neg h1, if_neg h2, if_pos h3]; rfl
      · simp only [if_neg h1, if_neg h2, if_neg h3]; rfl
/-- What a walk may know of a function's instructions, one by one. -/
structure FunOk (p : List Fun) (f : Fun) : Prop where
  n1 : 0 < f.code.length
  n2 : f.code.length ≤ 200
  off : ∀ x ∈ f.code, 0 ≤ offI p x ∧ offI p x ≤ 16
  on : ∀ x ∈ f.code, 0 ≤ (rz x.1).q ∧ (rz x.1).q ≤ 2
  spawn : ∀ x ∈ f.code, x.1 = 13 → 0 ≤ x.2.1 ∧ x.2.1 < p.length
  next : ∀ (i : Nat) (hi : i < f.code.length), ∀ t ∈ nextI f.code[i] i, 0 ≤ t ∧ t ≤ f.code.length
theorem onq_bd : ∀ k, k < 17 → 0 ≤ (orow k).q ∧ (orow k).q ≤ 2 ∧ 0 ≤ (orow k).p ∧ (orow k).p ≤ 2 ∧ 0 ≤ (orow k).lo := by decide
theorem may_node {x : Int × Int × Int} (h : mayZ x.1 x.2.1 x.2.2 = true) : (0 ≤ (rz x.1).q ∧ (rz x.1).q ≤ 2) ∧ (0 ≤ (rz x.1).p ∧ (rz x.1).p ≤ 2) ∧ 0 ≤ x.2.1 := by
  obtain ⟨k, hk, he⟩ := may_in h
  have hb := onq_bd k hk
  have hr := rz_in hk
  rw [← he] at hr
  rw [hr]
  simp only [mayZ, Bool.and_eq_true, decide_eq_true_eq, hr] at h
  omega
theorem ar_ok {p : List Fun} (hm : ∀ f ∈ p, mayF f = true) (i : Int) : 0 ≤ arP p i ∧ arP p i ≤ 16 := by
  unfold arP
  split
  · rename_i f hf
    have := (headB_iff _ _ _).1 ((mayF_iff f).1 (hm f (List.mem_of_getElem? hf))).1
    omega
  · omega
theorem fields_ok {p : List Fun} {f : Fun} {x : Int × Int × Int} (h : fieldI p f x = 0) : ((x.1 = 1 ∨ x.1 = 2) → x.2.1 < f.lo) ∧ (x.1 = 14 → x.2.1 < f.sl) ∧ (x.1 = 13 → x.2.2 < f.sl ∧ x.2.1 < p.length) ∧ ((x.1 = 10 ∨ x.1 = 11) → x.2.1 < f.code.length) := by
  unfold fieldI at h
  split at h
  · cases h
  · split at h
    · cases h
    · omega
theorem fun_ok {p : List Fun} (hm : ∀ f ∈ p, mayF f = true) {f : Fun} (hf : mayF f = true) (he : ∀ x ∈ f.code, fieldI p f x = 0) : FunOk p f := by
  obtain ⟨h1, h2, h3, h4⟩ := (mayF_iff f).1 hf
  refine ⟨by omega, h3, fun x hx => ?_, fun x hx => (may_node (h4 x hx)).1, fun x hx ho => ?_, fun i hi t ht => ?_⟩
  · unfold offI
    split
    · exact ar_ok hm _
    · have := (may_node (h4 x hx)).2.1
      omega
  · exact ⟨(may_node (h4 x hx)).2.2, ((fields_ok (he x hx)).2.2.1 ho).2⟩
  · have hx : f.code[i] ∈ f.code := List.getElem_mem hi
    have hn := (may_node (h4 _ hx)).2.2
    have hj := (fields_ok (he _ hx)).2.2.2
    generalize f.code[i] = x at *
    unfold nextI at ht
    split at ht
    · simp only [List.mem_singleton] at ht
      subst ht
      have := hj (.inl (by assumption))
      omega
    · split at ht
      · simp at ht
      · split at ht
        · simp only [List.mem_cons, List.not_mem_nil, or_false] at ht
          have := hj (.inr (by assumption))
          omega
        · simp only [List.mem_singleton] at ht
          omega
theorem grF_at {p : List Fun} {c : List (Int × Int × Int)} {i : Nat} (hi : i < c.length) : grF p c i = nodeI p c[i] i := by
  unfold grF
  rw [List.getElem?_eq_getElem hi]
theorem FunOk.fine {p : List Fun} {f : Fun} (h : FunOk p f) : Fine (grF p f.code) f.code.length := fun i hi => by
  rw [grF_at hi]
  exact ⟨(h.on _ (List.getElem_mem hi)).1, fun t ht => (h.next i hi t ht).1⟩
end Go.Proofs.YtjibkgildfjjoaaDoor

/- Layer 7: programs in memory; arguments that are programs, opened. -/
namespace Go.Proofs.YtjibkgildfjjoaaDoor
set_option linter.unusedVariables false
set_option linter.unusedSimpArgs false
open Go.RowKit Go.ChangeShapes Go.WideShapes Go.ChangeAt Go.Deep Go.Joins

abbrev Ins := Int × Int × Int
/-- The slice at A holds these instructions, below block B. -/
def CodeAt (w : World) (B : Nat) (A : Option Addr) (l : List Ins) : Prop :=
  0 < l.length → ∃ b off, A = some ⟨b, off, none⟩ ∧ b < B ∧ ∀ j (h : j < l.length), w.cell? ⟨b, off + j * 3, none⟩ = some (.int .i64 l[j].1) ∧ w.cell? ⟨b, off + j * 3 + 1, none⟩ = some (.int .i64 l[j].2.1) ∧ w.cell? ⟨b, off + j * 3 + 2, none⟩ = some (.int .i64 l[j].2.2)
/-- A function at a place. -/
def FunAt (w : World) (B b off : Nat) (f : Fun) : Prop :=
  w.cell? ⟨b, off, none⟩ = some (.int .i64 f.ar) ∧ w.cell? ⟨b, off + 1, none⟩ = some (.int .i64 f.lo) ∧ w.cell? ⟨b, off + 2, none⟩ = some (.int .i64 f.sl) ∧
  ∃ A c, w.cell? ⟨b, off + 3, none⟩ = some (.slice A f.code.length c) ∧ CodeAt w B A f.code
/-- The slice at A holds this program, below block B. -/
def ProgAt (w : World) (B : Nat) (A : Option Addr) (p : List Fun) : Prop :=
  0 < p.length → ∃ b off, A = some ⟨b, off, none⟩ ∧ b < B ∧ ∀ j (h : j < p.length), FunAt w B b (off + j * 4) p[j]
theorem CodeAt.below {w w' : World} {B : Nat} {A : Option Addr} {l : List Ins} (h : CodeAt w B A l) {C : Nat} (hb : Below C w w') (hC : B ≤ C) : CodeAt w' B A l := fun h0 => by
  obtain ⟨b, off, e, hlt, hc⟩ := h h0
  refine ⟨b, off, e, hlt, fun j hj => ⟨?_, ?_, ?_⟩⟩
  · exact (hb.cell (p := ⟨b, off + j * 3, none⟩) (by show b < C; omega)).trans (hc j hj).1
  · exact (hb.cell (p := ⟨b, off + j * 3 + 1, none⟩) (by show b < C; omega)).trans (hc j hj).2.1
  · exact (hb.cell (p := ⟨b, off + j * 3 + 2, none⟩) (by show b < C; omega)).trans (hc j hj).2.2
theorem FunAt.below {w w' : World} {B b off : Nat} {f : Fun} (h : FunAt w B b off f) {C : Nat} (hb : Below C w w') (hC : B ≤ C) (hlt : b < C) : FunAt w' B b off f := by
  obtain ⟨h0, h1, h2, A, c, h3, h4⟩ := h
  refine ⟨?_, ?_, ?_, A, c, ?_, h4.below hb hC⟩
  · exact (hb.cell (p := ⟨b, off, none⟩) hlt).trans h0
  · exact (hb.cell (p := ⟨b, off + 1, none⟩) hlt).trans h1
  · exact (hb.cell (p := ⟨b, off + 2, none⟩) hlt).trans h2
  · exact (hb.cell (p := ⟨b, off + 3, none⟩) hlt).trans h3
theorem ProgAt.below {w w' : World} {B : Nat} {A : Option Addr} {p : List Fun} (h : ProgAt w B A p) {C : Nat} (hb : Below C w w') (hC : B ≤ C) : ProgAt w' B A p := fun h0 => by
  obtain ⟨b, off, e, hlt, hc⟩ := h h0
  exact ⟨b, off, e, hlt, fun j hj => (hc j hj).below hb hC (by omega)⟩
theorem CodeAt.more {w : World} {B C : Nat} {A : Option Addr} {l : List Ins} (h : CodeAt w B A l) (hC : B ≤ C) : CodeAt w C A l := fun h0 => by
  obtain ⟨b, off, e, hlt, hc⟩ := h h0
  exact ⟨b, off, e, by omega, hc⟩
theorem FunAt.more {w : World} {B C b off : Nat} {f : Fun} (h : FunAt w B b off f) (hC : B ≤ C) : FunAt w C b off f := by
  obtain ⟨h0, h1, h2, A, c, h3, h4⟩ := h
  exact ⟨h0, h1, h2, A, c, h3, h4.more hC⟩
theorem ProgAt.more {w : World} {B C : Nat} {A : Option Addr} {p : List Fun} (h : ProgAt w B A p) (hC : B ≤ C) : ProgAt w C A p := fun h0 => by
  obtain ⟨b, off, e, hlt, hc⟩ := h h0
  exact ⟨b, off, e, by omega, fun j hj => (hc j hj).more hC⟩
theorem ProgAt.nil (w : World) (B : Nat) (A : Option Addr) : ProgAt w B A [] := fun h => absurd h (by simp)
theorem CodeAt.nil (w : World) (B : Nat) (A : Option Addr) : CodeAt w B A [] := fun h => absurd h (by simp)
/-- What a walk may know of a program's sizes. -/
def SizedP (p : List Fun) : Prop := p.length ≤ maxLen ∧ ∀ f ∈ p, f.code.length ≤ maxLen

/-- Are programs the same? -/
noncomputable def sameP (p q : List Fun) : Bool := @decide (p = q) (Classical.propDecidable _)
theorem sameP_iff (p q : List Fun) : sameP p q = true ↔ p = q := by unfold sameP; exact @decide_eq_true_iff _ (Classical.propDecidable _)
theorem sameP_no {p q : List Fun} (h : p ≠ q) : sameP p q = false := by
  rw [← Bool.not_eq_true, sameP_iff]
  exact h
theorem sameP_at {p q : List Fun} {k : Nat} (h1 : k < p.length) (h2 : k < q.length) (h : p[k] ≠ q[k]) : sameP p q = false := sameP_no fun e => by
  subst e
  exact h rfl
theorem addr_add (b off n : Nat) : (⟨b, off, none⟩ : Addr).add n = ⟨b, off + n, none⟩ := by unfold Addr.add; split <;> simp [*]

set_option maxRecDepth 100000 in
theorem open_code {H : Type} {enc : TypeId × Value → H} {W : World} {base : Nat} {sp : Nat → Bool} {hd : Bool} {fuel : Nat} {cs : List Value} {x : DataW H × List MemPlace}
    (h : DataW.trod enc Tryd.prog W base sp hd fuel 87 cs = some x) : ∃ A c l, cs = [.slice A l.length c] ∧ CodeAt W W.heap.size A l ∧ l.length ≤ maxLen := by
  rcases open_slice Tryd.underlying87 h with ⟨rfl, _⟩ | ⟨a, len, cap, m, n, D, Pl, rfl, _, hl, hm, hmm, rfl, hx⟩
  · exact ⟨none, 0, [], rfl, CodeAt.nil _ _ _, by simp⟩
  · have hlm : len ≤ m := by rw [hmm]; split <;> omega
    have ce : Tryd.prog.cellsOf 116 = 3 := by kernel_rfl
    have each : ∀ i, i < len → ∃ q : Ins, W.cell? (a.add (i * 3)) = some (.int .i64 q.1) ∧ W.cell? (a.add (i * 3 + 1)) = some (.int .i64 q.2.1) ∧ W.cell? (a.add (i * 3 + 2)) = some (.int .i64 q.2.2) := by
      intro i hi
      obtain ⟨cs', h1, h2⟩ := hx i (by omega)
      rw [ce] at h1
      obtain ⟨_, hlen, hcell⟩ := World.cells?_some h1
      obtain ⟨y0, y1, y2, k, _, _, g0, g1, g2⟩ := trod_struct3 Tryd.underlying116 h2
      match cs', hlen with
      | [v0, v1, v2], _ =>
        have ci : Tryd.prog.cellsOf 3 = 1 := by kernel_rfl
        simp [ci] at g0 g1 g2
        obtain ⟨n0, e0, _, _⟩ := DataW.trod_int Tryd.underlying3 g0
        obtain ⟨n1, e1, _, _⟩ := DataW.trod_int Tryd.underlying3 g1
        obtain ⟨n2, e2, _, _⟩ := DataW.trod_int Tryd.underlying3 g2
        simp at e0 e1 e2
        subst e0 e1 e2
        have c0 := hcell 0 (by omega)
        have c1 := hcell 1 (by omega)
        have c2 := hcell 2 (by omega)
        rw [add_add] at c0 c1 c2
        exact ⟨(n0, n1, n2), by simpa using c0, by simpa using c1, by simpa using c2⟩
    obtain ⟨q, hq⟩ := choose_lt each
    refine ⟨some a, cap, (List.range len).map q, by simp, fun h0 => ?_, by simp; omega⟩
    have hlen : 0 < len := by simpa using h0
    obtain ⟨b, off, spot⟩ := a
    have hspot : spot = none := by simpa [Addr.add] using World.cell?_spot (hq 0 hlen).1
    subst hspot
    refine ⟨b, off, rfl, block_lt_of_cell (a := Addr.add ⟨b, off, none⟩ (0 * 3)) (hq 0 hlen).1, fun j hj => ?_⟩
    have hj' : j < len := by simpa using hj
    obtain ⟨c0, c1, c2⟩ := hq j hj'
    rw [addr_add] at c0 c1 c2
    simp only [List.getElem_map, List.getElem_range]
    exact ⟨c0, c1, c2⟩

instance : Inhabited Fun := ⟨⟨0, 0, 0, []⟩⟩
end Go.Proofs.YtjibkgildfjjoaaDoor

/- A call's own list of elements of one cell each. -/
namespace Go.Proofs.YtjibkgildfjjoaaDoor
set_option linter.unusedVariables false
set_option linter.unusedSimpArgs false
open Go.RowKit Go.ChangeShapes Go.WideShapes Go.ChangeAt

/-- The call's own slice v holds the values xs, in a block from B on. -/
def OwnV (w : World) (B : Nat) (e : TypeId) (v : Value) (xs : List Value) : Prop := w.ownsRow B e 1 v xs.length xs
theorem OwnV.nil (w : World) (B : Nat) (e : TypeId) : OwnV w B e (.slice none 0 0) [] := ⟨by simp, .inl ⟨rfl, rfl⟩⟩
theorem OwnV.made (w : World) (e : TypeId) : OwnV (w.alloc (.cells #[] e)) w.heap.size e (.slice (some ⟨w.heap.size, 0, none⟩) 0 0) [] :=
  World.ownsRow_made w #[] 0 (Nat.le_refl _) (by decide) rfl
theorem OwnV.below {w w' : World} {B : Nat} {e : TypeId} {v : Value} {xs : List Value} (h : OwnV w B e v xs) (hb : Below w.heap.size w w') : OwnV w' B e v xs := by
  unfold OwnV at h ⊢
  refine h.kept (row := none) ⟨hb.os, hb.tape, hb.output, hb.size, fun k hk _ => hb.block k hk⟩ ?_
  cases hv : v.ownBlock with
  | none => exact .inl rfl
  | some k => exact .inr (by simp)
theorem OwnV.form {w : World} {B : Nat} {e : TypeId} {v : Value} {xs : List Value} (h : OwnV w B e v xs) :
    ∃ A c, v = .slice A xs.length c ∧ (0 < xs.length → ∃ g, A = some ⟨g, 0, none⟩ ∧ B ≤ g ∧ g < w.heap.size ∧ ∀ j (hj : j < xs.length), w.cell? ⟨g, j, none⟩ = some xs[j]) := by
  unfold OwnV at h
  have hc := fun g hg => h.cells (g := g) hg
  have hlt := h.lt
  rcases h.2 with ⟨rfl, h0⟩ | ⟨g, cap, cur, rfl, _⟩
  · exact ⟨none, 0, by rw [h0], fun h1 => by omega⟩
  · refine ⟨_, _, rfl, fun _ => ⟨g, rfl, (hlt g rfl).1, (hlt g rfl).2, fun j hj => ?_⟩⟩
    have k1 := hc g rfl j _ (List.getElem?_eq_getElem hj)
    have a1 : (⟨g, 0, none⟩ : Addr).add j = ⟨g, j, none⟩ := by unfold Addr.add; split <;> simp [*]
    rwa [a1] at k1

/-- Some elements more, out of a block that was just laid. -/
theorem wpList_append_vals {P : Program} {w : World} {ops : Array Oper} {rest : List Oper} {o : Oper} {a : Act} {Q : Exit → Act → World → Prop}
    (hg : o.guard = none) (s x : Operand) (t : TypeId) (hop : o.op = Op.call { callee := Callee.builtin Builtin.append, args := #[s, x], argTypes := #[t, t] })
    (e : TypeId) (z : Value) (bytes : Nat) (ht : P.underlying t = some (.slice e)) (hi : (P.info? e).map (fun i => (i.zero, i.size, i.bytes)) = some (some z, 1, bytes)) (hz : z.cells.size = 1)
    (B : Nat) (w0 : World) (v : Value) (xs : List Value) (news : Array Value) (n : Nat) (hn : news.size = n) (hw : w = w0.alloc (.cells news e)) (hs : a.eval s = v) (own : OwnV w0 B e v xs)
    (hx : a.eval x = .slice (some ⟨w0.heap.size, 0, none⟩) n n) (h1 : ∀ u ∈ news.toList, u.oneCell' = true) (hlen : xs.length + n ≤ maxLen) (hbytes : (xs.length + n) * bytes ≤ 140737488355328) (hB : B ≤ w0.heap.size)
    (h : ∀ v' w', OwnV w' B e v' (xs ++ news.toList) → Below B w0 w' → wpList P ops Q rest (a.put o.dst v') w') : wpList P ops Q (o :: rest) a w := by
  subst hw
  unfold OwnV at own
  obtain ⟨i, hi, hz0, hz1, hz2⟩ := info_parts hi
  have own' : (w0.alloc (.cells news e)).ownsRow B e 1 v xs.length xs := own.alloc _
  refine wpList_append_own _ hg s x t hop B e i z 1 bytes ht hi hz0 hz1 hz2 hz (by decide) v xs.length xs hs own' ⟨w0.heap.size, 0, none⟩ n n news.toList hx (by simp [hn]) ?_ h1 hlen hbytes (by simp; omega) ?_
  · intro j u hu
    have e1 : (⟨w0.heap.size, 0, none⟩ : Addr).add j = ⟨w0.heap.size, j, none⟩ := by unfold Addr.add; split <;> simp [*]
    rw [e1, cell_at (heap_alloc_last w0 _) j]
    simpa using hu
  · intro v' w' h1 h2 _
    refine h v' w' ?_ (((Below.refl B w0).alloc hB _).grown h2 (by simp; omega) ?_)
    · unfold OwnV; simpa [hn] using h1
    · intro k hk
      rcases own.2 with ⟨rfl, _⟩ | ⟨g, cap, cur, rfl, hgb, _⟩
      · simp [Value.ownBlock] at hk
      · simp [Value.ownBlock] at hk; omega
end Go.Proofs.YtjibkgildfjjoaaDoor

/- Layer 7: the document's Same. -/
namespace Go.Proofs.YtjibkgildfjjoaaDoor
set_option linter.unusedVariables false
set_option linter.unusedSimpArgs false
open Go.RowKit Go.ChangeShapes Go.WideShapes Go.ChangeAt Go.Sort

theorem neqi_run (a b c d e f : Int) (W : World) : (binOp .neq 116 (iv a b c) (iv d e f)).run Tryd.prog W = .ok (.bool (decide ((a, b, c) ≠ (d, e, f)))) W := by
  by_cases h1 : a = d <;> by_cases h2 : b = e <;> by_cases h3 : c = f <;> simp [go_sem, h1, h2, h3]
end Go.Proofs.YtjibkgildfjjoaaDoor

/- Layer 7: a call's own programs in memory. -/
namespace Go.Proofs.YtjibkgildfjjoaaDoor
set_option linter.unusedVariables false
set_option linter.unusedSimpArgs false
open Go.RowKit Go.ChangeShapes Go.WideShapes Go.ChangeAt Go.Sort

def flatI (l : List Ins) : List Value := l.flatMap fun x => [.int .i64 x.1, .int .i64 x.2.1, .int .i64 x.2.2]
theorem flatI_len : ∀ l, (flatI l).length = l.length * 3
  | [] => rfl
  | x :: l => by
    have := flatI_len l
    unfold flatI at *
    simp only [List.flatMap_cons, List.length_append, List.length_cons, List.length_nil]
    omega
theorem flatI_snoc (l : List Ins) (x : Ins) : flatI (l ++ [x]) = flatI l ++ [.int .i64 x.1, .int .i64 x.2.1, .int .i64 x.2.2] := by simp [flatI]
theorem flatI_at : ∀ (l : List Ins) (j : Nat) (h : j < l.length), (flatI l)[j * 3]? = some (.int .i64 l[j].1) ∧ (flatI l)[j * 3 + 1]? = some (.int .i64 l[j].2.1) ∧ (flatI l)[j * 3 + 2]? = some (.int .i64 l[j].2.2)
  | x :: l, 0, _ => by simp [flatI]
  | x :: l, j + 1, h => by
    have ih := flatI_at l j (by simpa using h)
    have e : flatI (x :: l) = [.int .i64 x.1, .int .i64 x.2.1, .int .i64 x.2.2] ++ flatI l := by simp [flatI]
    have sh : ∀ k, (flatI (x :: l))[k + 3]? = (flatI l)[k]? := fun k => by rw [e, List.getElem?_append_right (by simp)]; simp
    rw [show (j + 1) * 3 = j * 3 + 3 by omega, show j * 3 + 3 + 1 = (j * 3 + 1) + 3 by omega, show j * 3 + 3 + 2 = (j * 3 + 2) + 3 by omega, sh, sh, sh]
    exact ih
/-- The call's own instructions. -/
def OwnC (w : World) (B : Nat) (v : Value) (l : List Ins) : Prop := w.ownsRow B 116 3 v l.length (flatI l)
theorem OwnC.nil (w : World) (B : Nat) : OwnC w B (.slice none 0 0) [] := World.ownsRow_nil _ _ _ _
theorem OwnC.code {w : World} {B : Nat} {v : Value} {l : List Ins} (h : OwnC w B v l) : ∃ A c, v = .slice A l.length c ∧ CodeAt w w.heap.size A l := by
  unfold OwnC at h
  have hc := fun g hg => h.cells (g := g) hg
  have hlt := h.lt
  rcases h.2 with ⟨rfl, h0⟩ | ⟨g, cap, cur, rfl, _⟩
  · have e : l = [] := List.eq_nil_of_length_eq_zero h0
    subst e
    exact ⟨none, 0, rfl, CodeAt.nil _ _ _⟩
  · refine ⟨_, _, rfl, fun _ => ⟨g, 0, rfl, (hlt g rfl).2, fun j hj => ?_⟩⟩
    obtain ⟨e0, e1, e2⟩ := flatI_at l j hj
    have k0 := hc g rfl _ _ e0
    have k1 := hc g rfl _ _ e1
    have k2 := hc g rfl _ _ e2
    rw [addr_add] at k0 k1 k2
    exact ⟨k0, k1, k2⟩
theorem OwnC.mono {w : World} {B C : Nat} {v : Value} {l : List Ins} (h : OwnC w B v l) (hC : C ≤ B) : OwnC w C v l := by
  unfold OwnC at *
  exact ⟨h.1, h.2.imp id fun ⟨g, cap, cur, e, hb, r⟩ => ⟨g, cap, cur, e, Nat.le_trans hC hb, r⟩⟩
/-- Where no block is turned but that of a row that lies elsewhere. -/
theorem OwnC.grown {w w' : World} {B : Nat} {v : Value} {l : List Ins} {row : Option Nat} (h : OwnC w B v l) (hg : w.grownBy w' row) (hne : ∀ b, v.ownBlock = some b → row ≠ some b) : OwnC w' B v l := by
  unfold OwnC at *
  refine h.kept hg ?_
  cases hv : v.ownBlock with
  | none => exact .inl rfl
  | some b => exact .inr (Ne.symm (hne b hv))
theorem OwnC.below {w w' : World} {B : Nat} {v : Value} {l : List Ins} (h : OwnC w B v l) (hb : Below w.heap.size w w') : OwnC w' B v l :=
  h.grown (row := none) ⟨hb.os, hb.tape, hb.output, hb.size, fun k hk _ => hb.block k hk⟩ (fun _ _ => by simp)
theorem infoIn : (Tryd.prog.info? 116).map (fun i => (i.zero, i.size, i.bytes)) = some (some (.agg #[.int .i64 0, .int .i64 0, .int .i64 0]), 3, 24) := by kernel_rfl

/-- One instruction more. -/
theorem wpList_append_ins {w : World} {ops : Array Oper} {rest : List Oper} {o : Oper} {a : Act} {Q : Exit → Act → World → Prop}
    (hg : o.guard = none) (s x : Operand) (hop : o.op = Op.call { callee := Callee.builtin Builtin.append, args := #[s, x], argTypes := #[87, 87] })
    (B : Nat) (w0 : World) (v : Value) (l : List Ins) (i : Ins) (hw : w = w0.alloc (.cells #[.int .i64 i.1, .int .i64 i.2.1, .int .i64 i.2.2] 116)) (hs : a.eval s = v) (own : OwnC w0 B v l)
    (hx : a.eval x = .slice (some ⟨w0.heap.size, 0, none⟩) 1 1) (hlen : l.length ≤ 1000000) (hB : B ≤ w0.heap.size)
    (h : ∀ v' w', OwnC w' B v' (l ++ [i]) → w0.grownBy w' v.ownBlock → (∀ b, v'.ownBlock = some b → v.ownBlock = some b ∨ w0.heap.size ≤ b) → wpList Tryd.prog ops Q rest (a.put o.dst v') w') : wpList Tryd.prog ops Q (o :: rest) a w := by
  subst hw
  obtain ⟨q, hi, hz0, hz1, hz2⟩ := info_parts infoIn
  have own' : (w0.alloc (.cells #[.int .i64 i.1, .int .i64 i.2.1, .int .i64 i.2.2] 116)).ownsRow B 116 3 v l.length (flatI l) := own.alloc _
  refine wpList_append_lies _ hg s x 87 hop B 116 q (.agg #[.int .i64 0, .int .i64 0, .int .i64 0]) 3 24 Tryd.underlying87 hi hz0 hz1 hz2 rfl (by decide) v l.length (flatI l) hs own' ⟨w0.heap.size, 0, none⟩ 1 1
    [.int .i64 i.1, .int .i64 i.2.1, .int .i64 i.2.2] hx rfl (World.news_of_block (heap_alloc_last w0 _)) ?_ (by decide) (by unfold maxLen; omega) (by omega) (by simp; omega) _ rfl ?_
  · intro u hu
    simp at hu
    rcases hu with rfl | rfl | rfl <;> rfl
  · intro g cap w' h1 h2 h3 h4
    refine h _ w' ?_ ?_ ?_
    · unfold OwnC
      rw [flatI_snoc, List.length_append]
      exact h1
    · exact ⟨h2.os, h2.tape, h2.output, Nat.le_trans (by simp) h2.size, fun k hk hne => (h2.block k (by simp; omega) hne).trans (Below.heap_alloc w0 _ k hk)⟩
    · intro b hb
      simp only [Value.ownBlock, Option.some.injEq] at hb
      subst hb
      rcases h3 with h3 | h3
      · exact .inl h3
      · exact .inr (by rw [h3]; simp)

def flatF (l : List (Fun × Value)) : List Value := l.flatMap fun x => [.int .i64 x.1.ar, .int .i64 x.1.lo, .int .i64 x.1.sl, x.2]
theorem flatF_snoc (l : List (Fun × Value)) (x : Fun × Value) : flatF (l ++ [x]) = flatF l ++ [.int .i64 x.1.ar, .int .i64 x.1.lo, .int .i64 x.1.sl, x.2] := by simp [flatF]
theorem flatF_len : ∀ l, (flatF l).length = l.length * 4
  | [] => rfl
  | x :: l => by
    have := flatF_len l
    unfold flatF at *
    simp only [List.flatMap_cons, List.length_append, List.length_cons, List.length_nil]
    omega
theorem flatF_at : ∀ (l : List (Fun × Value)) (j : Nat) (h : j < l.length), (flatF l)[j * 4]? = some (.int .i64 l[j].1.ar) ∧ (flatF l)[j * 4 + 1]? = some (.int .i64 l[j].1.lo) ∧ (flatF l)[j * 4 + 2]? = some (.int .i64 l[j].1.sl) ∧ (flatF l)[j * 4 + 3]? = some l[j].2
  | x :: l, 0, _ => by simp [flatF]
  | x :: l, j + 1, h => by
    have ih := flatF_at l j (by simpa using h)
    have e : flatF (x :: l) = [.int .i64 x.1.ar, .int .i64 x.1.lo, .int .i64 x.1.sl, x.2] ++ flatF l := by simp [flatF]
    have sh : ∀ k, (flatF (x :: l))[k + 4]? = (flatF l)[k]? := fun k => by rw [e, List.getElem?_append_right (by simp)]; simp
    rw [show (j + 1) * 4 = j * 4 + 4 by omega, show j * 4 + 4 + 1 = (j * 4 + 1) + 4 by omega, show j * 4 + 4 + 2 = (j * 4 + 2) + 4 by omega, show j * 4 + 4 + 3 = (j * 4 + 3) + 4 by omega, sh, sh, sh, sh]
    exact ih
/-- Codes of one's own, each in a block that is no other one's. -/
def Codes (w : World) (B : Nat) (l : List (Fun × Value)) : Prop := (∀ x ∈ l, OwnC w B x.2 x.1.code) ∧ l.Pairwise fun x y => ∀ b, x.2.ownBlock = some b → y.2.ownBlock ≠ some b
/-- The call's own program: l: its functions, each with the value of its code. -/
def OwnL (w : World) (B : Nat) (v : Value) (l : List (Fun × Value)) : Prop := w.ownsRow B 89 4 v l.length (flatF l) ∧ Codes w B l
def OwnP (w : World) (B : Nat) (v : Value) (p : List Fun) : Prop := ∃ l, l.map (·.1) = p ∧ OwnL w B v l
theorem OwnL.nil (w : World) (B : Nat) : OwnL w B (.slice none 0 0) [] := ⟨World.ownsRow_nil _ _ _ _, by simp, List.Pairwise.nil⟩
theorem OwnP.nil (w : World) (B : Nat) : OwnP w B (.slice none 0 0) [] := ⟨[], rfl, OwnL.nil w B⟩
theorem OwnP.made (w : World) : OwnP (w.alloc (.cells #[] 89)) w.heap.size (.slice (some ⟨w.heap.size, 0, none⟩) 0 0) [] :=
  ⟨[], rfl, World.ownsRow_made w #[] 0 (Nat.le_refl _) (by decide) rfl, by simp, List.Pairwise.nil⟩
theorem OwnL.prog {w : World} {B : Nat} {v : Value} {l : List (Fun × Value)} (h : OwnL w B v l) : ∃ A c, v = .slice A l.length c ∧ ProgAt w w.heap.size A (l.map (·.1)) := by
  obtain ⟨h, hcd, _⟩ := h
  have hc := fun g hg => h.cells (g := g) hg
  have hlt := h.lt
  rcases h.2 with ⟨rfl, h0⟩ | ⟨g, cap, cur, rfl, _⟩
  · have e : l = [] := List.eq_nil_of_length_eq_zero h0
    subst e
    exact ⟨none, 0, rfl, ProgAt.nil _ _ _⟩
  · refine ⟨_, _, rfl, fun _ => ⟨g, 0, rfl, (hlt g rfl).2, fun j hj => ?_⟩⟩
    have hj' : j < l.length := by simpa using hj
    obtain ⟨e0, e1, e2, e3⟩ := flatF_at l j hj'
    have k0 := hc g rfl _ _ e0
    have k1 := hc g rfl _ _ e1
    have k2 := hc g rfl _ _ e2
    have k3 := hc g rfl _ _ e3
    rw [addr_add] at k0 k1 k2 k3
    obtain ⟨A, c, e4, hcode⟩ := (hcd _ (List.getElem_mem hj')).code
    rw [e4] at k3
    simp only [List.getElem_map]
    exact ⟨k0, k1, k2, A, c, k3, hcode⟩
theorem OwnP.prog {w : World} {B : Nat} {v : Value} {p : List Fun} (h : OwnP w B v p) : ∃ A c, v = .slice A p.length c ∧ ProgAt w w.heap.size A p := by
  obtain ⟨l, rfl, h⟩ := h
  obtain ⟨A, c, e, h⟩ := h.prog
  exact ⟨A, c, by rw [e, List.length_map], h⟩
theorem Codes.below {w w' : World} {B : Nat} {l : List (Fun × Value)} (h : Codes w B l) (hb : Below w.heap.size w w') : Codes w' B l := ⟨fun x hx => (h.1 x hx).below hb, h.2⟩
theorem OwnL.below {w w' : World} {B : Nat} {v : Value} {l : List (Fun × Value)} (h : OwnL w B v l) (hb : Below w.heap.size w w') : OwnL w' B v l := by
  refine ⟨h.1.kept (row := none) ⟨hb.os, hb.tape, hb.output, hb.size, fun k hk _ => hb.block k hk⟩ ?_, h.2.below hb⟩
  cases hv : v.ownBlock with
  | none => exact .inl rfl
  | some k => exact .inr (by simp)
theorem OwnP.below {w w' : World} {B : Nat} {v : Value} {p : List Fun} (h : OwnP w B v p) (hb : Below w.heap.size w w') : OwnP w' B v p := by
  obtain ⟨l, e, h⟩ := h
  exact ⟨l, e, h.below hb⟩
end Go.Proofs.YtjibkgildfjjoaaDoor

/- Layer 7: a call's own program, a function more, and its last function another one. -/
namespace Go.Proofs.YtjibkgildfjjoaaDoor
set_option linter.unusedVariables false
set_option linter.unusedSimpArgs false
open Go.RowKit Go.ChangeShapes Go.WideShapes Go.ChangeAt Go.Sort

theorem infoFn : (Tryd.prog.info? 89).map (fun i => (i.zero, i.size, i.bytes)) = some (some (.agg #[.int .i64 0, .int .i64 0, .int .i64 0, .slice none 0 0]), 4, 48) := by kernel_rfl
/-- A row of functions is no row of instructions. -/
theorem own_ne {w : World} {B C : Nat} {c v : Value} {l : List Ins} {n : Nat} {xs : List Value} (hc : OwnC w C c l) (h : w.ownsRow B 89 4 v n xs) : ∀ b, c.ownBlock = some b → v.ownBlock ≠ some b := by
  intro b hb hv
  unfold OwnC at hc
  rcases hc.2 with ⟨rfl, _⟩ | ⟨g, cap, cur, rfl, _, h1, _⟩
  · simp [Value.ownBlock] at hb
  · rcases h.2 with ⟨rfl, _⟩ | ⟨g', cap', cur', rfl, _, h2, _⟩
    · simp [Value.ownBlock] at hv
    · simp only [Value.ownBlock, Option.some.injEq] at hb hv
      subst hb
      rw [hv] at h2
      rw [h1] at h2
      simp at h2
theorem Codes.grown {w w' : World} {B : Nat} {l : List (Fun × Value)} {row : Option Nat} (h : Codes w B l) (hg : w.grownBy w' row) (hne : ∀ x ∈ l, ∀ b, x.2.ownBlock = some b → row ≠ some b) : Codes w' B l :=
  ⟨fun x hx => (h.1 x hx).grown hg (hne x hx), h.2⟩
theorem Codes.snoc {w : World} {B : Nat} {l : List (Fun × Value)} (h : Codes w B l) {f : Fun} {c : Value} (hc : OwnC w B c f.code) (hd : ∀ x ∈ l, ∀ b, x.2.ownBlock = some b → c.ownBlock ≠ some b) : Codes w B (l ++ [(f, c)]) := by
  refine ⟨fun x hx => ?_, ?_⟩
  · rcases List.mem_append.1 hx with hx | hx
    · exact h.1 x hx
    · simp only [List.mem_singleton] at hx
      subst hx
      exact hc
  · rw [List.pairwise_append]
    refine ⟨h.2, List.pairwise_singleton _ _, fun x hx y hy => ?_⟩
    simp only [List.mem_singleton] at hy
    subst hy
    exact hd x hx
theorem Codes.init {w : World} {B : Nat} {l : List (Fun × Value)} {x : Fun × Value} (h : Codes w B (l ++ [x])) : Codes w B l ∧ OwnC w B x.2 x.1.code ∧ ∀ y ∈ l, ∀ b, y.2.ownBlock = some b → x.2.ownBlock ≠ some b := by
  obtain ⟨h1, h2⟩ := h
  rw [List.pairwise_append] at h2
  exact ⟨⟨fun y hy => h1 y (by simp [hy]), h2.1⟩, h1 x (by simp), fun y hy => h2.2.2 y hy x (by simp)⟩

theorem set_four (xs : List Value) (a b c d a' b' c' d' : Value) : ((((xs ++ [a, b, c, d]).set xs.length a').set (xs.length + 1) b').set (xs.length + 2) c').set (xs.length + 3) d' = xs ++ [a', b', c', d'] := by
  induction xs with
  | nil => rfl
  | cons x xs ih =>
    simp only [List.cons_append, List.length_cons, List.set_cons_succ, show xs.length + 1 + 1 = (xs.length + 1) + 1 from rfl, show xs.length + 1 + 2 = (xs.length + 2) + 1 from rfl, show xs.length + 1 + 3 = (xs.length + 3) + 1 from rfl]
    rw [ih]
/-- The last function, another one. -/
theorem OwnL.set {w : World} {B g cap : Nat} {l : List (Fun × Value)} {f f' : Fun} {c c' : Value}
    (h : w.ownsRow B 89 4 (.slice (some ⟨g, 0, none⟩) (l.length + 1) cap) (l.length + 1) (flatF (l ++ [(f, c)]))) (hl : Codes w B l) (hc : OwnC w B c' f'.code) (hd : ∀ x ∈ l, ∀ b, x.2.ownBlock = some b → c'.ownBlock ≠ some b) :
    OwnL ((((w.setCell ⟨g, l.length * 4, none⟩ (.int .i64 f'.ar)).setCell ⟨g, l.length * 4 + 1, none⟩ (.int .i64 f'.lo)).setCell ⟨g, l.length * 4 + 2, none⟩ (.int .i64 f'.sl)).setCell ⟨g, l.length * 4 + 3, none⟩ c') B (.slice (some ⟨g, 0, none⟩) (l.length + 1) cap) (l ++ [(f', c')]) := by
  have hcd := hl.snoc hc hd
  have h1 := h.stored (l.length * 4) (.int .i64 f'.ar)
  have h2 := h1.1.stored (l.length * 4 + 1) (.int .i64 f'.lo)
  have h3 := h2.1.stored (l.length * 4 + 2) (.int .i64 f'.sl)
  have h4 := h3.1.stored (l.length * 4 + 3) c'
  refine ⟨?_, ?_⟩
  · have e := h4.1
    rw [flatF_snoc, ← flatF_len l, set_four] at e
    rw [flatF_snoc, List.length_append]
    rw [← flatF_len l]
    exact e
  · have n0 : ∀ x ∈ l ++ [(f', c')], ∀ b, x.2.ownBlock = some b → (some g : Option Nat) ≠ some b := fun x hx b hb => own_ne (hcd.1 x hx) h b hb
    exact (((hcd.grown h1.2 n0).grown h2.2 n0).grown h3.2 n0).grown h4.2 n0
end Go.Proofs.YtjibkgildfjjoaaDoor

/- Layer 7's code: May. -/
namespace Go.Proofs.YtjibkgildfjjoaaDoor
set_option linter.unusedVariables false
set_option linter.unusedSimpArgs false
open Go.RowKit Go.ChangeShapes Go.WideShapes Go.ChangeAt Go.Sort

set_option maxHeartbeats 1000000 in
theorem cwithin_any (n a b : Int) (w : World) : Calls Tryd.prog 68 #[.int .i64 n, .int .i64 a, .int .i64 b] w fun e w' => e = .returned (.bool (decide (a ≤ n) && decide (n ≤ b))) ∧ w = w' := by
  go_enter Tryd.func68, Tryd.ntmps68
  go_wp2_with fail
  all_goals
    go_ret
    refine ⟨ret_bool ?_, rfl⟩
    rw [Bool.eq_iff_iff]
    simp
    omega
theorem cs_cwithin {n a b : Int} {x : Bool} (h : (decide (a ≤ n) && decide (n ≤ b)) = x) : Cs Tryd.prog 68 #[.int .i64 n, .int .i64 a, .int .i64 b] (.bool x) := fun W => by have := cwithin_any n a b W; rwa [h] at this

set_option maxHeartbeats 1000000 in
set_option maxRecDepth 100000 in
theorem chead_any (a l s : Int) (v : Value) : Ct Tryd.prog 82 #[.agg #[.int .i64 a, .int .i64 l, .int .i64 s, v]] (.bool (headB a l s)) := fun w => by
  have C1 := cs_cwithin (n := a) (a := 0) (b := 16) rfl
  have C2 := cs_cwithin (n := l) (a := 0) (b := 16) rfl
  have C3 := cs_cwithin (n := s) (a := 0) (b := 8) rfl
  have hm : headB a l s = ((decide (0 ≤ a) && decide (a ≤ 16)) && (decide (0 ≤ l) && decide (l ≤ 16)) && (decide (0 ≤ s) && decide (s ≤ 8))) := rfl
  rw [hm]
  generalize (decide (0 ≤ a) && decide (a ≤ 16)) = x1 at *
  generalize (decide (0 ≤ l) && decide (l ≤ 16)) = x2 at *
  generalize (decide (0 ≤ s) && decide (s ≤ 8)) = x3 at *
  clear hm
  cases x1 <;> cases x2 <;> cases x3
  all_goals
    go_enter Tryd.func82, Tryd.ntmps82
    go_wp2_with (first
      | (go_at_call 68; (with_reducible refine (C1.go _).mono ?_); rintro e v ⟨rfl, rfl⟩)
      | (go_at_call 68; (with_reducible refine (C2.go _).mono ?_); rintro e v ⟨rfl, rfl⟩)
      | (go_at_call 68; (with_reducible refine (C3.go _).mono ?_); rintro e v ⟨rfl, rfl⟩))
    go_ret
    exact ⟨rfl, by go_grown⟩

/-- The value of a function without captures. -/
abbrev fnv (n : Nat) : Value := .func (.func n) #[] #[]

set_option maxHeartbeats 1000000 in
set_option maxRecDepth 100000 in
theorem allI_any {B : Nat} {A : Option Addr} {l : List Ins} (c : Nat) (w : World) (hT : Otab w) (h : CodeAt w B A l) (hz : l.length ≤ maxLen) (hB : B ≤ w.heap.size) :
    Calls Tryd.prog 83 #[.slice A l.length c, fnv 84] w fun e w' => e = .returned (.bool (l.all fun x => mayZ x.1 x.2.1 x.2.2)) ∧ Below w.heap.size w w' := by
  have HA := Lib.hid h
  unfold maxLen at hz
  clear h
  go_enter Tryd.func83, Tryd.ntmps83
  go_wp2
  go_loopw [9] (fun i W => ∃ j : Nat, j ≤ l.length ∧ i = .int .i64 j ∧ (∀ x ∈ l.take j, mayZ x.1 x.2.1 x.2.2 = true) ∧ Below w.heap.size w W) (fun i _ => l.length - (intOf i).toNat)
  case atStart => exact ⟨0, by omega, rfl, by simp, Below.refl _ _⟩
  case round =>
    obtain ⟨j, hj, rfl, hall, hw⟩ := hrel
    have HJ := Lib.hid hall
    clear hall
    have hwz := hw.size
    by_cases hlt : j < l.length
    · obtain ⟨b, off, rfl, hbl, hd⟩ := (HA.out.below hw hB) (by omega)
      obtain ⟨d0, d1, d2⟩ := hd j hlt
      clear hd
      have hjt : l.take (j + 1) = l.take j ++ [l[j]] := List.take_succ_eq_append_getElem hlt
      have hjm : l[j] ∈ l := List.getElem_mem hlt
      generalize l[j] = x at *
      obtain ⟨xo, xa, xb⟩ := x
      have HJT := Lib.hid hjt
      have HJM := Lib.hid hjm
      clear hjt hjm
      have CM := fun W h => Lib.hid (opmay_any xo xa xb W h)
      have hT2 := hT.below hw
      have CM2 := fun cs ty => CM (wr.alloc (.cells cs ty)) ((hT2.below ((Below.refl _ _).alloc (Nat.le_refl _) _)))
      clear CM
      cases hx : mayZ xo xa xb
      · rw [hx] at CM2
        have hf : (l.all fun x => mayZ x.1 x.2.1 x.2.2) = false := by
          rw [← Bool.not_eq_true, List.all_eq_true]
          intro h
          have := h _ HJM.out
          simp only at this
          rw [hx] at this
          cases this
        have HF := Lib.hid hf
        clear hf hx
        go_wp2_with (go_at_call 84; (with_reducible refine (CM2 _ _).out.mono ?_); rintro e v ⟨rfl, hb⟩; replace hw := Below.step hw (below_laid hb); clear hb)
        go_ret
        rw [HF.out]
        exact ⟨rfl, hw⟩
      · rw [hx] at CM2
        have HX := Lib.hid hx
        clear hx
        go_wp2_with (go_at_call 84; (with_reducible refine (CM2 _ _).out.mono ?_); rintro e v ⟨rfl, hb⟩; replace hw := Below.step hw (below_laid hb); clear hb)
        go_roundw
        case rel =>
          refine ⟨j + 1, by omega, by go_num, ?_, hw⟩
          rw [HJT.out]
          intro y hy
          rcases List.mem_append.1 hy with h | h
          · exact HJ.out y h
          · simp only [List.mem_singleton] at h
            subst h
            exact HX.out
        case measure => simp [intOf]; omega
    · obtain rfl : j = l.length := by omega
      have hall := HJ.out
      rw [List.take_length] at hall
      have hf : (l.all fun x => mayZ x.1 x.2.1 x.2.2) = true := List.all_eq_true.2 hall
      have HF := Lib.hid hf
      clear hf hall
      go_wp2_with fail
      go_ret
      rw [HF.out]
      exact ⟨rfl, hw⟩

set_option maxHeartbeats 1000000 in
set_option maxRecDepth 100000 in
theorem cmayF_any {B : Nat} {A : Option Addr} {f : Fun} (c : Nat) (w : World) (hT : Otab w) (h : CodeAt w B A f.code) (hz : f.code.length ≤ maxLen) (hB : B ≤ w.heap.size) :
    Calls Tryd.prog 70 #[.agg #[.int .i64 f.ar, .int .i64 f.lo, .int .i64 f.sl, .slice A f.code.length c]] w fun e w' => e = .returned (.bool (mayF f)) ∧ Below w.heap.size w w' := by
  have HA := Lib.hid h
  have hz2 := hz
  unfold maxLen at hz2
  have CH := chead_any f.ar f.lo f.sl (.slice A f.code.length c)
  have CW := cs_cwithin (n := f.code.length) (a := 1) (b := 200) rfl
  have CA := fun W hT h hB => Lib.hid (allI_any (B := B) (A := A) (l := f.code) c W hT h hz hB)
  have hm : mayF f = (headB f.ar f.lo f.sl && (decide (1 ≤ (f.code.length : Int)) && decide ((f.code.length : Int) ≤ 200)) && f.code.all fun x => mayZ x.1 x.2.1 x.2.2) := by
    have e1 : decide (1 ≤ (f.code.length : Int)) = decide (1 ≤ f.code.length) := by rw [decide_eq_decide]; omega
    have e2 : decide ((f.code.length : Int) ≤ 200) = decide (f.code.length ≤ 200) := by rw [decide_eq_decide]; omega
    rw [e1, e2]
    rfl
  rw [hm]
  clear hm hz h
  generalize headB f.ar f.lo f.sl = x1 at *
  generalize (decide (1 ≤ (f.code.length : Int)) && decide ((f.code.length : Int) ≤ 200)) = x2 at *
  generalize (f.code.all fun x => mayZ x.1 x.2.1 x.2.2) = x3 at *
  have hw := Below.refl w.heap.size w
  generalize hx0 : f.ar = fa at *
  generalize hx0 : f.lo = fl at *
  generalize hx0 : f.sl = fs at *
  cases x1 <;> cases x2 <;> cases x3
  all_goals
    go_enter Tryd.func70, Tryd.ntmps70
    go_wp2_with (first
      | (go_at_call 82; (with_reducible refine (CH.go _).mono ?_); rintro e v ⟨rfl, hb⟩; have hH := (Held.new w _ _).below hb; have c3 := hH.cell 3; have hl := hH.lt; simp at c3; replace hw := below_laid hb; have hs := hw.size; clear hb hH)
      | (go_at_call 68; (with_reducible refine (CW.go _).mono ?_); rintro e v ⟨rfl, rfl⟩)
      | (go_at_call 83; (with_reducible refine (CA _ (hT.below hw) (HA.out.below hw hB) (by omega)).out.mono ?_); rintro e v ⟨rfl, hb⟩; replace hw := Below.step hw hb; clear hb))
    go_ret
    exact ⟨rfl, hw⟩

set_option maxHeartbeats 1000000 in
set_option maxRecDepth 100000 in
theorem allF_any {B : Nat} {A : Option Addr} {p : List Fun} (c : Nat) (w : World) (hT : Otab w) (h : ProgAt w B A p) (hz : SizedP p) (hB : B ≤ w.heap.size) :
    Calls Tryd.prog 69 #[.slice A p.length c, fnv 70] w fun e w' => e = .returned (.bool (p.all mayF)) ∧ Below w.heap.size w w' := by
  have HA := Lib.hid h
  have HZ := Lib.hid hz.2
  have hzp := hz.1
  unfold maxLen at hzp
  clear h hz
  go_enter Tryd.func69, Tryd.ntmps69
  go_wp2
  go_loopw [9] (fun i W => ∃ j : Nat, j ≤ p.length ∧ i = .int .i64 j ∧ (∀ x ∈ p.take j, mayF x = true) ∧ Below w.heap.size w W) (fun i _ => p.length - (intOf i).toNat)
  case atStart => exact ⟨0, by omega, rfl, by simp, Below.refl _ _⟩
  case round =>
    obtain ⟨j, hj, rfl, hall, hw⟩ := hrel
    have HJ := Lib.hid hall
    clear hall
    have hwz := hw.size
    by_cases hlt : j < p.length
    · obtain ⟨b, off, rfl, hbl, hd⟩ := (HA.out.below hw hB) (by omega)
      obtain ⟨d0, d1, d2, A2, c2, d3, hcode⟩ := hd j hlt
      clear hd
      have hjt : p.take (j + 1) = p.take j ++ [p[j]] := List.take_succ_eq_append_getElem hlt
      have hjm : p[j] ∈ p := List.getElem_mem hlt
      have hzf := HZ.out _ hjm
      generalize p[j] = x at *
      have HJT := Lib.hid hjt
      have HJM := Lib.hid hjm
      clear hjt hjm
      have hT2 := hT.below hw
      have CM := fun cs ty => Lib.hid (cmayF_any (f := x) c2 (wr.alloc (.cells cs ty)) (hT2.below ((Below.refl _ _).alloc (Nat.le_refl _) _)) (hcode.below ((Below.refl wr.heap.size wr).alloc (Nat.le_refl _) _) (by omega)) hzf (by simp; omega))
      clear hcode
      obtain ⟨xa, xl, xs, xc⟩ := x
      simp only at *
      generalize xc.length = n at *
      cases hx : mayF ⟨xa, xl, xs, xc⟩
      · rw [hx] at CM
        have hf : (p.all mayF) = false := by
          rw [← Bool.not_eq_true, List.all_eq_true]
          intro h
          have := h _ HJM.out
          rw [hx] at this
          cases this
        have HF := Lib.hid hf
        clear hf hx hzf
        go_wp2_with (go_at_call 70; (with_reducible refine (CM _ _).out.mono ?_); rintro e v ⟨rfl, hb⟩; replace hw := Below.step hw (below_laid hb); clear hb)
        go_ret
        rw [HF.out]
        exact ⟨rfl, hw⟩
      · rw [hx] at CM
        have HX := Lib.hid hx
        clear hx hzf
        go_wp2_with (go_at_call 70; (with_reducible refine (CM _ _).out.mono ?_); rintro e v ⟨rfl, hb⟩; replace hw := Below.step hw (below_laid hb); clear hb)
        go_roundw
        case rel =>
          refine ⟨j + 1, by omega, by go_num, ?_, hw⟩
          rw [HJT.out]
          intro y hy
          rcases List.mem_append.1 hy with h | h
          · exact HJ.out y h
          · simp only [List.mem_singleton] at h
            subst h
            exact HX.out
        case measure => simp [intOf]; omega
    · obtain rfl : j = p.length := by omega
      have hall := HJ.out
      rw [List.take_length] at hall
      have hf : (p.all mayF) = true := List.all_eq_true.2 hall
      have HF := Lib.hid hf
      clear hf hall
      go_wp2_with fail
      go_ret
      rw [HF.out]
      exact ⟨rfl, hw⟩

set_option maxHeartbeats 1000000 in
set_option maxRecDepth 100000 in
theorem cmay_any {B : Nat} {A : Option Addr} {p : List Fun} (c : Nat) (w : World) (hT : Otab w) (h : ProgAt w B A p) (hz : SizedP p) (hB : B ≤ w.heap.size) :
    Calls Tryd.prog 47 #[.slice A p.length c] w fun e w' => e = .returned (.bool (mayP p)) ∧ Below w.heap.size w w' := by
  have hz2 := hz.1
  unfold maxLen at hz2
  have CW := cs_cwithin (n := p.length) (a := 1) (b := 16) rfl
  have CA := Lib.hid (allF_any c w hT h hz hB)
  have hm : mayP p = ((decide (1 ≤ (p.length : Int)) && decide ((p.length : Int) ≤ 16)) && p.all mayF) := by
    have e1 : decide (1 ≤ (p.length : Int)) = decide (1 ≤ p.length) := by rw [decide_eq_decide]; omega
    have e2 : decide ((p.length : Int) ≤ 16) = decide (p.length ≤ 16) := by rw [decide_eq_decide]; omega
    rw [e1, e2]
    rfl
  rw [hm]
  clear hm hz h
  generalize (decide (1 ≤ (p.length : Int)) && decide ((p.length : Int) ≤ 16)) = x1 at *
  generalize p.all mayF = x2 at *
  have hw := Below.refl w.heap.size w
  cases x1 <;> cases x2
  all_goals
    go_enter Tryd.func47, Tryd.ntmps47
    go_wp2_with (first
      | (go_at_call 68; (with_reducible refine (CW.go _).mono ?_); rintro e v ⟨rfl, rfl⟩)
      | (go_at_call 69; (with_reducible refine CA.out.mono ?_); rintro e v ⟨rfl, hb⟩; replace hw := hb; clear hb))
    go_ret
    exact ⟨rfl, hw⟩
end Go.Proofs.YtjibkgildfjjoaaDoor

/- Layer 7: the document's Split. -/
namespace Go.Proofs.YtjibkgildfjjoaaDoor
set_option linter.unusedVariables false
set_option linter.unusedSimpArgs false
open Go.RowKit Go.ChangeShapes Go.WideShapes Go.ChangeAt Go.Sort

def strV (l : List UInt8) : Value := .string ⟨l.toArray⟩
theorem extract_take (s : ByteArray) (a b : Nat) : s.extract a b = ⟨((s.data.toList.drop a).take (b - a)).toArray⟩ := by
  apply ByteArray.ext
  apply Array.toList_inj.1
  have := Lib.extract_toList s a b
  rw [ByteArray.toList_eq] at this
  rw [this]
theorem infoStr : (Tryd.prog.info? 9).map (fun i => (i.zero, i.size, i.bytes)) = some (some (.string ⟨#[]⟩), 1, 16) := by kernel_rfl
theorem word_end (c : UInt8) (l : List UInt8) (f k : Nat) (hk : k < l.length) (hf : f ≤ k) (hc : l[k] = c) (hn : c ∉ (l.drop f).take (k - f)) : splitL c (l.drop f) = (l.drop f).take (k - f) :: splitL c (l.drop (k + 1)) := by
  have e : l.drop f = (l.drop f).take (k - f) ++ c :: l.drop (k + 1) := by
    conv => lhs; rw [← List.take_append_drop (k - f) (l.drop f)]
    congr 1
    rw [List.drop_drop, show f + (k - f) = k by omega, List.drop_eq_getElem_cons hk, hc]
  conv => lhs; rw [e]
  exact split_app c _ _ hn
theorem word_more (c : UInt8) (l : List UInt8) (f k : Nat) (hk : k < l.length) (hf : f ≤ k) (hc : l[k] ≠ c) (hn : c ∉ (l.drop f).take (k - f)) : c ∉ (l.drop f).take (k + 1 - f) := by
  rw [show k + 1 - f = (k - f) + 1 by omega, List.take_succ_eq_append_getElem (by simp; omega), List.mem_append]
  rintro (h | h)
  · exact hn h
  · simp only [List.getElem_drop, List.mem_singleton] at h
    rw [show l[f + (k - f)] = l[k] from getElem_congr_idx (by omega)] at h
    exact hc h.symm

set_option maxHeartbeats 4000000 in
set_option maxRecDepth 100000 in
theorem psplit_any (s : ByteArray) (c : UInt8) (w : World) (hs : s.size ≤ 1000000) :
    Calls Tryd.prog 44 #[.string s, .int .u8 (c.toNat : Int)] w fun e w' => ∃ v, e = .returned v ∧ OwnV w' w.heap.size 9 v ((splitL c s.data.toList).map strV) ∧ Below w.heap.size w w' := by
  have hl : s.data.toList.length = s.size := rfl
  have hs' : (s.size : Int) ≤ 1000000 := by omega
  have hv := OwnV.made w 9
  have hW : Below w.heap.size w (w.alloc (.cells #[] 9)) := (Below.refl _ _).alloc (Nat.le_refl _) _
  go_enter Tryd.func44, Tryd.ntmps44
  go_wp2_with fail
  go_loopw [5, 6, 7] (fun o f i wr => ∃ (k m : Nat) (ws : List (List UInt8)), i = .int .i64 k ∧ f = .int .i64 m ∧ OwnV wr w.heap.size 9 o (ws.map strV) ∧ Below w.heap.size w wr ∧ ws.length ≤ k ∧ w.heap.size ≤ wr.heap.size ∧
    ((k ≤ s.size ∧ m ≤ k ∧ splitL c s.data.toList = ws ++ splitL c (s.data.toList.drop m) ∧ c ∉ (s.data.toList.drop m).take (k - m)) ∨ (k = s.size + 1 ∧ ws = splitL c s.data.toList))) (fun _ _ i _ => s.size + 1 - (intOf i).toNat)
  case atStart => exact ⟨0, 0, [], rfl, rfl, hv, hW, by simp, hW.size, .inl ⟨by omega, by omega, by simp, by simp⟩⟩
  case round =>
    obtain ⟨k, m, ws, rfl, rfl, hown, hw, hlen, hwz, hor⟩ := hrel
    rcases hor with ⟨hk, hm, hspl, hnot⟩ | ⟨rfl, rfl⟩
    · obtain ⟨A, ca, rfl, _⟩ := hown.form
      have hmi : (m : Int) ≤ k := by omega
      rw [List.length_map] at *
      by_cases hlt : k < s.size
      · have h256 := s[k].toNat_lt
        have c256 := c.toNat_lt
        by_cases hc : s[k] = c
        · have hwe := word_end c s.data.toList m k (by rw [hl]; exact hlt) hm hc hnot
          have het := extract_take s m k
          generalize hword : (s.data.toList.drop m).take (k - m) = word at *
          have HSP := Lib.hid (hspl.trans (by rw [hwe] : ws ++ splitL c (s.data.toList.drop m) = ws ++ (word :: splitL c (s.data.toList.drop (k + 1)))))
          have hq : ((s[k].toNat : Int) == (c.toNat : Int)) = true := by rw [hc]; simp
          have HE := Lib.hid het
          clear hwe hspl hnot hword hc het hv hW
          have HO := Lib.hid hown
          clear hown
          go_wp2_with (at_builtin; refine wpList_append_vals rfl _ _ 97 rfl 9 (.string ⟨#[]⟩) 16 Tryd.underlying97 infoStr rfl w.heap.size wr _ (ws.map strV) #[.string (s.extract m k)] 1 rfl rfl rfl HO.out rfl (by intro u hu; simp at hu; subst hu; rfl) (by rw [List.length_map]; unfold maxLen; omega) (by rw [List.length_map]; omega) hwz ?_; intro v' w2 hv2 hb2)
          have e2 : ws.map strV ++ #[Value.string (s.extract m k)].toList = (ws ++ [word]).map strV := by rw [HE.out]; simp [strV]
          rw [e2] at hv2
          have HO2 := Lib.hid hv2
          have hw2 := hw.trans hb2
          have hz2 := hb2.size
          clear hv2 e2 hb2
          go_wp2_with fail
          go_roundw
          case rel => exact ⟨k + 1, k + 1, ws ++ [word], by go_num, by go_num, HO2.out, hw2, by rw [List.length_append, List.length_singleton]; omega, hw2.size, .inl ⟨by omega, by omega, by rw [HSP.out]; simp, by simp⟩⟩
          case measure => simp [intOf]; omega
        · have hwm := word_more c s.data.toList m k (by rw [hl]; exact hlt) hm hc hnot
          have hq : ((s[k].toNat : Int) == (c.toNat : Int)) = false := by
            have : s[k].toNat ≠ c.toNat := fun h => hc (UInt8.toNat_inj.1 h)
            simp
            omega
          have HO := Lib.hid hown
          have HSP := Lib.hid hspl
          have HWM := Lib.hid hwm
          clear hown hspl hnot hwm hv hW hc
          go_wp2_with fail
          go_roundw
          case rel => exact ⟨k + 1, m, ws, by go_num, rfl, HO.out, hw, by omega, hwz, .inl ⟨by omega, by omega, HSP.out, HWM.out⟩⟩
          case measure => simp [intOf]; omega
      · obtain rfl : k = s.size := by omega
        have hwe : splitL c (s.data.toList.drop m) = [(s.data.toList.drop m).take (s.size - m)] := by
          have e : (s.data.toList.drop m).take (s.size - m) = s.data.toList.drop m := List.take_of_length_le (by rw [List.length_drop, hl]; omega)
          rw [e] at hnot ⊢
          exact split_word c _ hnot
        have het := extract_take s m s.size
        generalize hword : (s.data.toList.drop m).take (s.size - m) = word at *
        have HSP := Lib.hid (hspl.trans (by rw [hwe] : ws ++ splitL c (s.data.toList.drop m) = ws ++ [word]))
        have HE := Lib.hid het
        have HO := Lib.hid hown
        clear hwe hspl hnot hword het hv hW hown
        go_wp2_with (at_builtin; refine wpList_append_vals rfl _ _ 97 rfl 9 (.string ⟨#[]⟩) 16 Tryd.underlying97 infoStr rfl w.heap.size wr _ (ws.map strV) #[.string (s.extract m s.size)] 1 rfl rfl rfl HO.out rfl (by intro u hu; simp at hu; subst hu; rfl) (by rw [List.length_map]; unfold maxLen; omega) (by rw [List.length_map]; omega) hwz ?_; intro v' w2 hv2 hb2)
        have e2 : ws.map strV ++ #[Value.string (s.extract m s.size)].toList = (ws ++ [word]).map strV := by rw [HE.out]; simp [strV]
        rw [e2] at hv2
        have HO2 := Lib.hid hv2
        have hw2 := hw.trans hb2
        clear hv2 e2 hb2
        go_wp2_with fail
        go_roundw
        case rel => exact ⟨s.size + 1, s.size + 1, ws ++ [word], by go_num, by go_num, HO2.out, hw2, by rw [List.length_append, List.length_singleton]; omega, hw2.size, .inr ⟨rfl, HSP.out.symm⟩⟩
        case measure => simp [intOf]; try omega
    · go_wp2_with fail
      go_ret
      exact ⟨_, rfl, hown, hw⟩
end Go.Proofs.YtjibkgildfjjoaaDoor

/- Layer 4: the document's Digits, of numbers below 100000. -/
namespace Go.Proofs.YtjibkgildfjjoaaDoor
set_option linter.unusedVariables false
set_option linter.unusedSimpArgs false
open Go.RowKit Go.ChangeShapes Go.WideShapes Go.ChangeAt Go.Sort

theorem decd_len (n : Nat) : (Lib.decDigits n).length ≤ n + 1 := by
  induction n using Nat.strongRecOn with
  | _ n ih =>
    by_cases h : n < 10
    · rw [decd_lt h]; simp
    · rw [decd_ge h, List.length_append]
      have := ih (n / 10) (by omega)
      simp; omega

set_option maxHeartbeats 1000000 in
set_option maxRecDepth 100000 in
theorem rdg_nat (n : Nat) : ∀ (w : World), n < 100000 → Calls Tryd.prog 79 #[.int .i64 n] w fun e w' => e = .returned (.string ⟨(Lib.decDigits n).toArray⟩) ∧ Below w.heap.size w w' := by
  induction n using Nat.strongRecOn with
  | _ n ih =>
  intro w hn
  obtain ⟨c, hc⟩ : ∃ c, c = UInt8.ofNat (48 + n % 10) := ⟨_, rfl⟩
  have hv : (48 + (n : Int) % 10) % 256 = c.toNat := by rw [hc, UInt8.toNat_ofNat']; omega
  have hv2 : 48 + (n : Int) % 10 = c.toNat := by rw [hc, UInt8.toNat_ofNat']; omega
  have hN0 : 0 ≤ (n : Int) := by omega
  have hN1 : (n : Int) ≤ 99999 := by omega
  have cv : ∀ (W : World) (g : Nat), W.cell? ⟨g, 0, none⟩ = some (.int .u8 (c.toNat : Int)) → (convert 146 9 (.slice (some ⟨g, 0, none⟩) 1 1)).run Tryd.prog W = .ok (.string ⟨#[c]⟩) W := fun W g hg =>
    run_convert_bytes_back W 146 9 5 ⟨g, 0, none⟩ 1 [c] Tryd.underlying146 Tryd.underlying5 Tryd.underlying9 (by
      intro j hj
      have : j = 0 := by simpa using hj
      subst this
      simpa [Addr.add] using hg)
  have cw : (convert 146 9 (.slice (some ⟨w.heap.size, 0, none⟩) 1 1)).run Tryd.prog (w.alloc (.cells #[.int .u8 (c.toNat : Int)] 5)) = .ok (.string ⟨#[c]⟩) (w.alloc (.cells #[.int .u8 (c.toNat : Int)] 5)) :=
    cv _ _ ((Held.new w 5 #[.int .u8 (c.toNat : Int)]).cell 0)
  by_cases h : n < 10
  · have hd := decd_lt h
    rw [← hc] at hd
    have HD := Lib.hid hd
    have hlt : decide (10 ≤ (n : Int)) = false := by simp; omega
    clear hd hc h ih hn
    generalize (n : Int) = N at *
    go_enter Tryd.func79, Tryd.ntmps79
    go_wp2_with fail
    go_ret
    rw [HD.out]
    exact ⟨rfl, (Below.refl _ _).alloc (Nat.le_refl _) _⟩
  · have hd := decd_ge h
    rw [← hc] at hd
    have hl := decd_len (n / 10)
    have CD : ∀ W, Hid (Calls Tryd.prog 79 #[.int .i64 ((n : Int) / 10)] W fun e w' => e = .returned (.string ⟨(Lib.decDigits (n / 10)).toArray⟩) ∧ Below W.heap.size W w') := fun W => by
      have := ih (n / 10) (by omega) W (by omega)
      rw [show (n : Int) / 10 = ((n / 10 : Nat) : Int) by omega]
      exact Lib.hid this
    generalize Lib.decDigits (n / 10) = s at *
    have HD := Lib.hid hd
    have hlt : decide (10 ≤ (n : Int)) = true := by simp; omega
    have hs : s.length + 1 ≤ 9223372036854775807 := by omega
    clear hd hc h ih hn hl
    generalize (n : Int) = N at *
    go_enter Tryd.func79, Tryd.ntmps79
    go_wp2_with (go_at_call 79; (with_reducible refine (CD _).out.mono ?_); rintro e v ⟨rfl, hb⟩; have hw := Below.step ((Below.refl _ _).alloc (Nat.le_refl _) _) hb)
    go_ret
    rw [HD.out]
    refine ⟨ret_str ?_, hw⟩
    apply ByteArray.ext
    simp

theorem rdg_in {n : Int} (h0 : 0 ≤ n) (h1 : n < 100000) : Ct Tryd.prog 79 #[.int .i64 n] (.string ⟨(dgI n).toArray⟩) := fun w => by
  obtain ⟨m, rfl⟩ := Int.eq_ofNat_of_zero_le h0
  unfold dgI
  rw [Int.toNat_natCast]
  exact rdg_nat m w (by omega)
end Go.Proofs.YtjibkgildfjjoaaDoor

/- Layer 7: the document's Number. -/
namespace Go.Proofs.YtjibkgildfjjoaaDoor
set_option linter.unusedVariables false
set_option linter.unusedSimpArgs false
open Go.RowKit Go.ChangeShapes Go.WideShapes Go.ChangeAt Go.Sort

theorem valD_snoc (l : List UInt8) (c : UInt8) : valD (l ++ [c]) = 10 * valD l + c.toNat - 48 := by simp [valD]
theorem valD_bd : ∀ l : List UInt8, (l.length ≤ 2 → -600 ≤ valD l ∧ valD l ≤ 2600) ∧ (l.length ≤ 3 → -6000 ≤ valD l ∧ valD l ≤ 26000)
  | [] => by simp [valD]
  | [a] => by have := a.toNat_lt; simp [valD]; omega
  | [a, b] => by have := a.toNat_lt; have := b.toNat_lt; simp [valD]; omega
  | [a, b, c] => by have := a.toNat_lt; have := b.toNat_lt; have := c.toNat_lt; simp [valD]; omega
  | a :: b :: c :: d :: l => by simp

set_option maxHeartbeats 2000000 in
set_option maxRecDepth 100000 in
theorem pnumber_any (s : ByteArray) : Ct Tryd.prog 63 #[.string s] (.int .i64 (numV s.data.toList)) := fun w => by
  have hl : s.data.toList.length = s.size := rfl
  by_cases h3 : s.size ≤ 3
  case neg =>
    have hv : numV s.data.toList = -1 := by unfold numV; rw [if_neg (by rw [hl]; omega)]
    have HV := Lib.hid hv
    have h4 : (3 : Int) < s.size := by omega
    clear hv hl
    go_enter Tryd.func63, Tryd.ntmps63
    go_wp2
    go_ret
    rw [HV.out]
    exact ⟨rfl, Below.refl _ _⟩
  have h3' : (s.size : Int) ≤ 3 := by omega
  go_enter Tryd.func63, Tryd.ntmps63
  go_wp2
  go_loop [3, 4] (fun n i => ∃ k : Nat, k ≤ s.size ∧ i = .int .i64 k ∧ n = .int .i64 (valD (s.data.toList.take k))) (fun _ i => s.size - (intOf i).toNat)
  case atStart => exact ⟨0, by omega, rfl, by simp [valD]⟩
  case round =>
    obtain ⟨k, hk, rfl, rfl⟩ := hrel
    by_cases hlt : k < s.size
    · have hb := (valD_bd (s.data.toList.take k)).1 (by simp; omega)
      have hb1 := hb.1
      have hb2 := hb.2
      have hst : valD (s.data.toList.take (k + 1)) = 10 * valD (s.data.toList.take k) + s[k].toNat - 48 := by
        rw [List.take_succ_eq_append_getElem (by rw [hl]; exact hlt), valD_snoc]
        rfl
      have HST := Lib.hid hst
      have h256 := s[k].toNat_lt
      clear hb hst
      generalize valD (s.data.toList.take k) = n at *
      go_wp2_with fail
      go_round
      case rel => exact ⟨k + 1, by omega, by go_num, by rw [HST.out]⟩
      case measure => simp [intOf]; omega
    · obtain rfl : k = s.size := by omega
      rw [List.take_of_length_le (by rw [hl]; omega)]
      have hb := (valD_bd s.data.toList).2 (by omega)
      have hn : numV s.data.toList = if 0 ≤ valD s.data.toList ∧ dgI (valD s.data.toList) = s.data.toList then valD s.data.toList else -1 := by
        unfold numV
        by_cases h : 0 ≤ valD s.data.toList ∧ dgI (valD s.data.toList) = s.data.toList
        · rw [if_pos h, if_pos ⟨by omega, h.1, h.2⟩]
        · rw [if_neg h, if_neg (fun h2 => h ⟨h2.2.1, h2.2.2⟩)]
      have hD := fun h0 => rdg_in (n := valD s.data.toList) h0 (by omega)
      have hb2 := hb.2
      clear hb
      generalize valD s.data.toList = n at *
      by_cases h0 : 0 ≤ n
      · have D := hD h0
        have hq := eqS_toList ⟨(dgI n).toArray⟩ s
        rw [ByteArray.toList_mk] at hq
        by_cases he : dgI n = s.data.toList
        · have hes : eqS ⟨(dgI n).toArray⟩ s = true := eqS_iff.2 (by simp [he])
          rw [if_pos ⟨h0, he⟩] at hn
          rw [hes] at hq
          have HN := Lib.hid hn
          clear hn hes he hD hl
          go_wp2_with (go_at_call 79; (with_reducible refine (D.go _).mono ?_); rintro e v ⟨rfl, hb⟩)
          go_ret
          rw [HN.out]
          exact ⟨rfl, hb⟩
        · have hes : eqS ⟨(dgI n).toArray⟩ s = false := by
            rw [← Bool.not_eq_true, eqS_iff]
            intro e
            exact he (by rw [← e])
          rw [if_neg (fun h => he h.2)] at hn
          rw [hes] at hq
          have HN := Lib.hid hn
          clear hn hes he hD hl
          go_wp2_with (go_at_call 79; (with_reducible refine (D.go _).mono ?_); rintro e v ⟨rfl, hb⟩)
          go_ret
          rw [HN.out]
          exact ⟨rfl, hb⟩
      · rw [if_neg (fun h => h0 h.1)] at hn
        have HN := Lib.hid hn
        clear hn hD hl
        go_wp2_with fail
        go_ret
        rw [HN.out]
        exact ⟨rfl, Below.refl _ _⟩
end Go.Proofs.YtjibkgildfjjoaaDoor

/- Layer 7, plain: lines cut as the program cuts them, and numbers as it reads them. -/
namespace Go.Proofs.YtjibkgildfjjoaaDoor
set_option linter.unusedVariables false
set_option linter.unusedSimpArgs false
open Go

theorem joinC_len (c : UInt8) : ∀ (ws : List (List UInt8)), ws.length ≤ (joinC c ws).length + 1
  | [] => by simp
  | [w] => by simp
  | w :: v :: ws => by
    have := joinC_len c (v :: ws)
    rw [joinC, List.length_append, List.length_cons, List.length_cons, List.length_cons]
    rw [List.length_cons] at this
    omega

def lineC (x : List UInt8 × List Int) : Option PLine :=
  if x.1 = funcW then (if x.2.length = 3 ∧ headB (x.2.getD 0 0) (x.2.getD 1 0) (x.2.getD 2 0) = true then some (.head (x.2.getD 0 0) (x.2.getD 1 0) (x.2.getD 2 0)) else none)
  else if mayZ (rfnd ⟨x.1.toArray⟩) (x.2.getD 0 0) (x.2.getD 1 0) = true ∧ (x.2.length : Int) = (rz (rfnd ⟨x.1.toArray⟩)).f then some (.ins (rfnd ⟨x.1.toArray⟩) (x.2.getD 0 0) (x.2.getD 1 0)) else none
end Go.Proofs.YtjibkgildfjjoaaDoor

/- Layer 7, plain: what a line more makes of a program. -/
namespace Go.Proofs.YtjibkgildfjjoaaDoor
set_option linter.unusedVariables false
set_option linter.unusedSimpArgs false
open Go

/-- What a line more makes of a program. -/
def addQ (p : List Fun) (l : List UInt8) : Option (List Fun) := (lineOf l).bind (layL p)
theorem lineC_head {w0 : List UInt8} {ns : List Int} (hw : w0 = funcW) : lineC (w0, ns) = if ns.length = 3 ∧ headB (ns.getD 0 0) (ns.getD 1 0) (ns.getD 2 0) = true then some (.head (ns.getD 0 0) (ns.getD 1 0) (ns.getD 2 0)) else none := by
  unfold lineC
  simp only
  rw [if_pos hw]
theorem lineC_ins {w0 : List UInt8} {ns : List Int} (hw : w0 ≠ funcW) : lineC (w0, ns) = if mayZ (rfnd ⟨w0.toArray⟩) (ns.getD 0 0) (ns.getD 1 0) = true ∧ (ns.length : Int) = (rz (rfnd ⟨w0.toArray⟩)).f then some (.ins (rfnd ⟨w0.toArray⟩) (ns.getD 0 0) (ns.getD 1 0)) else none := by
  unfold lineC
  simp only
  rw [if_neg hw]
/-- A program is nothing, or has a last function. -/
theorem own_split {α : Type} (L : List α) : L = [] ∨ ∃ L0 x, L = L0 ++ [x] := by
  rcases List.eq_nil_or_concat L with h | ⟨L0, x, h⟩
  · exact .inl h
  · exact .inr ⟨L0, x, by simpa using h⟩
theorem layH_no {p : List Fun} {a l s : Int} (h : openR p = false ∨ p.length = 16) : layH p a l s = none := by
  unfold layH
  rw [if_neg]
  rintro ⟨h1, h2⟩
  rcases h with h | h
  · rw [h] at h1; cases h1
  · exact h2 h
theorem openR_snoc (p : List Fun) (f : Fun) : openR (p ++ [f]) = !f.code.isEmpty := by
  unfold openR
  rw [List.getLast?_concat]
theorem layI_snoc (p : List Fun) (f : Fun) (o a b : Int) : layI (p ++ [f]) o a b = if f.code.length = 200 then none else some (p ++ [⟨f.ar, f.lo, f.sl, f.code ++ [(o, a, b)]⟩]) := by
  unfold layI
  rw [List.getLast?_concat, List.dropLast_concat]

theorem lay_small {p q : List Fun} {x : PLine} (h : layL p x = some q) (hp : p.length ≤ 16) (hc : ∀ f ∈ p, f.code.length ≤ 200) : q.length ≤ 16 ∧ ∀ f ∈ q, f.code.length ≤ 200 := by
  cases x with
  | head a l s =>
    have h' : layH p a l s = some q := h
    unfold layH at h'
    split at h'
    · rename_i hcnd
      cases h'
      refine ⟨by rw [List.length_append, List.length_singleton]; omega, fun f hf => ?_⟩
      rcases List.mem_append.1 hf with hf | hf
      · exact hc f hf
      · simp only [List.mem_singleton] at hf
        subst hf
        simp
    · cases h'
  | ins o a b =>
    have h' : layI p o a b = some q := h
    rcases own_split p with rfl | ⟨p0, f, rfl⟩
    · cases h'
    · rw [layI_snoc] at h'
      split at h'
      · cases h'
      · rename_i h2
        cases h'
        have hf2 := hc f (by simp)
        refine ⟨by simpa using hp, fun g hg => ?_⟩
        rcases List.mem_append.1 hg with hg | hg
        · exact hc g (by simp [hg])
        · simp only [List.mem_singleton] at hg
          subst hg
          simp only [List.length_append, List.length_singleton]
          omega
theorem addQ_small {p q : List Fun} {l : List UInt8} (h : addQ p l = some q) (hp : p.length ≤ 16) (hc : ∀ f ∈ p, f.code.length ≤ 200) : q.length ≤ 16 ∧ ∀ f ∈ q, f.code.length ≤ 200 := by
  unfold addQ at h
  cases hx : lineOf l with
  | none => rw [hx] at h; cases h
  | some x => rw [hx] at h; exact lay_small h hp hc
end Go.Proofs.YtjibkgildfjjoaaDoor

/- Programs that may be have sizes. -/
namespace Go.Proofs.YtjibkgildfjjoaaDoor
set_option linter.unusedVariables false
set_option linter.unusedSimpArgs false
open Go.RowKit Go.ChangeShapes Go.WideShapes Go.ChangeAt Go.Sort

theorem may_sized {p : List Fun} (h : mayP p = true) : SizedP p := by
  obtain ⟨_, h2, h3⟩ := (mayP_iff p).1 h
  refine ⟨by unfold maxLen; omega, fun f hf => ?_⟩
  have := h3 f hf
  unfold mayF at this
  simp only [Bool.and_eq_true, decide_eq_true_eq] at this
  unfold maxLen
  omega
theorem nil_sized : SizedP [] := ⟨by simp, fun f hf => by simp at hf⟩
theorem parse_sized (l : List UInt8) : SizedP (parseP l).1 := by
  by_cases h : (parseP l).2.2 = 0
  · exact may_sized (text_parse h).1
  · rw [(parse_none h).1]
    exact nil_sized
end Go.Proofs.YtjibkgildfjjoaaDoor

/- Layer 7: a program appended to a list of functions of the call's own; the codes stay where they lie. -/
namespace Go.Proofs.YtjibkgildfjjoaaDoor
set_option linter.unusedVariables false
set_option linter.unusedSimpArgs false
open Go.RowKit Go.ChangeShapes Go.WideShapes Go.ChangeAt Go.Sort

/-- Codes that lie somewhere, below block B. -/
def Lies (w : World) (B : Nat) (l : List (Fun × Value)) : Prop := ∀ x ∈ l, ∃ A c, x.2 = .slice A x.1.code.length c ∧ CodeAt w B A x.1.code
theorem Lies.below {w w' : World} {B C : Nat} {l : List (Fun × Value)} (h : Lies w B l) (hb : Below C w w') (hC : B ≤ C) : Lies w' B l := fun x hx => by
  obtain ⟨A, c, e, hc⟩ := h x hx
  exact ⟨A, c, e, hc.below hb hC⟩
/-- A program's cells, with its codes' values. -/
theorem cells_news : ∀ (p : List Fun) (w : World) (B b off : Nat), (∀ j (h : j < p.length), FunAt w B b (off + j * 4) p[j]) →
    ∃ l : List (Fun × Value), l.map (·.1) = p ∧ Lies w B l ∧ (∀ j u, (flatF l)[j]? = some u → w.cell? ⟨b, off + j, none⟩ = some u) ∧ ∀ u ∈ flatF l, u.oneCell' = true
  | [], _, _, _, _, _ => ⟨[], rfl, fun x hx => by simp at hx, fun j u h => by simp [flatF] at h, fun u hu => by simp [flatF] at hu⟩
  | f :: p, w, B, b, off, h => by
    obtain ⟨l, h1, h2, h3, h4⟩ := cells_news p w B b (off + 4) fun j hj => by
      have := h (j + 1) (by simpa using hj)
      rw [show off + (j + 1) * 4 = off + 4 + j * 4 by omega] at this
      exact this
    have g := h 0 (by simp)
    simp only [Nat.zero_mul, Nat.add_zero, List.getElem_cons_zero] at g
    obtain ⟨g0, g1, g2, A, c, g3, g4⟩ := g
    have e : flatF ((f, .slice A f.code.length c) :: l) = [.int .i64 f.ar, .int .i64 f.lo, .int .i64 f.sl, .slice A f.code.length c] ++ flatF l := by simp [flatF]
    refine ⟨(f, .slice A f.code.length c) :: l, by rw [List.map_cons, h1], fun x hx => ?_, fun j u hj => ?_, fun u hu => ?_⟩
    · rcases List.mem_cons.1 hx with rfl | hx
      · exact ⟨A, c, rfl, g4⟩
      · exact h2 x hx
    · rw [e] at hj
      match j, hj with
      | 0, hj => simp at hj; subst hj; exact g0
      | 1, hj => simp at hj; subst hj; exact g1
      | 2, hj => simp at hj; subst hj; exact g2
      | 3, hj => simp at hj; subst hj; exact g3
      | j + 4, hj =>
        rw [List.getElem?_append_right (by simp)] at hj
        simp only [List.length_cons, List.length_nil, Nat.zero_add, Nat.reduceAdd, Nat.add_sub_cancel] at hj
        have := h3 j u hj
        rw [show off + (j + 4) = off + 4 + j by omega]
        exact this
    · rw [e] at hu
      rcases List.mem_append.1 hu with hu | hu
      · simp at hu
        rcases hu with rfl | rfl | rfl | rfl <;> rfl
      · exact h4 u hu
/-- The call's own list of functions, whose codes lie below block B. -/
def OwnQ (w : World) (B : Nat) (v : Value) (l : List (Fun × Value)) : Prop := w.ownsRow B 89 4 v l.length (flatF l) ∧ Lies w B l
theorem OwnQ.made (w : World) : OwnQ (w.alloc (.cells #[] 89)) w.heap.size (.slice (some ⟨w.heap.size, 0, none⟩) 0 0) [] :=
  ⟨World.ownsRow_made w #[] 0 (Nat.le_refl _) (by decide) rfl, fun x hx => by simp at hx⟩
theorem OwnQ.prog {w : World} {B : Nat} {v : Value} {l : List (Fun × Value)} (h : OwnQ w B v l) (hB : B ≤ w.heap.size) : ∃ A c, v = .slice A (l.map (·.1)).length c ∧ ProgAt w w.heap.size A (l.map (·.1)) := by
  obtain ⟨h, hcd⟩ := h
  rw [List.length_map]
  have hc := fun g hg => h.cells (g := g) hg
  have hlt := h.lt
  rcases h.2 with ⟨rfl, h0⟩ | ⟨g, cap, cur, rfl, _⟩
  · have e : l = [] := List.eq_nil_of_length_eq_zero h0
    subst e
    exact ⟨none, 0, rfl, ProgAt.nil _ _ _⟩
  · refine ⟨_, _, rfl, fun _ => ⟨g, 0, rfl, (hlt g rfl).2, fun j hj => ?_⟩⟩
    have hj' : j < l.length := by simpa using hj
    obtain ⟨e0, e1, e2, e3⟩ := flatF_at l j hj'
    have k0 := hc g rfl _ _ e0
    have k1 := hc g rfl _ _ e1
    have k2 := hc g rfl _ _ e2
    have k3 := hc g rfl _ _ e3
    rw [addr_add] at k0 k1 k2 k3
    obtain ⟨A, c, e4, hcode⟩ := hcd _ (List.getElem_mem hj')
    rw [e4] at k3
    simp only [List.getElem_map]
    exact ⟨k0, k1, k2, A, c, k3, hcode.more hB⟩
theorem infoFq : (Tryd.prog.info? 89).map (fun i => (i.zero, i.size, i.bytes)) = some (some (.agg #[.int .i64 0, .int .i64 0, .int .i64 0, .slice none 0 0]), 4, 48) := by kernel_rfl
/-- A program appended. -/
theorem wpList_append_prog {w : World} {ops : Array Oper} {rest : List Oper} {o : Oper} {a : Act} {Q : Exit → Act → World → Prop} (t : TypeId) (ht : Tryd.prog.underlying t = some (.slice 89))
    (hg : o.guard = none) (s x : Operand) (hop : o.op = Op.call { callee := Callee.builtin Builtin.append, args := #[s, x], argTypes := #[t, t] })
    (B : Nat) (v : Value) (l : List (Fun × Value)) (hs : a.eval s = v) (own : OwnQ w B v l) {A : Option Addr} {p : List Fun} {c : Nat} (hx : a.eval x = .slice A p.length c) (hp : ProgAt w B A p)
    (h1 : 1 ≤ p.length) (hlen : l.length + p.length ≤ 1000000) (hB : B ≤ w.heap.size)
    (h : ∀ v' w' l', l'.map (·.1) = p → OwnQ w' B v' (l ++ l') → Below B w w' → wpList Tryd.prog ops Q rest (a.put o.dst v') w') : wpList Tryd.prog ops Q (o :: rest) a w := by
  obtain ⟨b, off, rfl, hbB, hf⟩ := hp (by omega)
  obtain ⟨l', e, hl, hn, ho⟩ := cells_news p w B b off hf
  obtain ⟨q, hi, hz0, hz1, hz2⟩ := info_parts infoFq
  have hpl : p.length = l'.length := by rw [← e, List.length_map]
  refine wpList_append_own _ hg s x t hop B 89 q (.agg #[.int .i64 0, .int .i64 0, .int .i64 0, .slice none 0 0]) 4 48 ht hi hz0 hz1 hz2 rfl (by decide) v l.length (flatF l) hs own.1 ⟨b, off, none⟩ p.length c
    (flatF l') hx (by rw [flatF_len, hpl]) (fun j u hj => by rw [addr_add]; exact hn j u hj) ho (by unfold maxLen; omega) (by omega) hB ?_
  intro v' w' k1 k2 _
  have hb : Below B w w' := (Below.refl B w).grown k2 hB (fun k hk => (own.1.lt k hk).1)
  refine h v' w' l' e ⟨?_, fun y hy => ?_⟩ hb
  · rw [List.length_append, ← hpl]
    have : flatF (l ++ l') = flatF l ++ flatF l' := by simp [flatF]
    rw [this]
    exact k1
  · rcases List.mem_append.1 hy with hy | hy
    · exact (own.2.below hb (Nat.le_refl _)) y hy
    · exact (hl.below hb (Nat.le_refl _)) y hy
end Go.Proofs.YtjibkgildfjjoaaDoor

/- Layer 7's code: Same. -/
namespace Go.Proofs.YtjibkgildfjjoaaDoor
set_option linter.unusedVariables false
set_option linter.unusedSimpArgs false
open Go.RowKit Go.ChangeShapes Go.WideShapes Go.ChangeAt Go.Sort

noncomputable def sameI (l m : List Ins) : Bool := @decide (l = m) (Classical.propDecidable _)
theorem sameI_iff (l m : List Ins) : sameI l m = true ↔ l = m := by unfold sameI; exact @decide_eq_true_iff _ (Classical.propDecidable _)
theorem sameI_no {l m : List Ins} (h : l ≠ m) : sameI l m = false := by rw [← Bool.not_eq_true, sameI_iff]; exact h
noncomputable def sameF (f g : Fun) : Bool := @decide (f = g) (Classical.propDecidable _)
theorem sameF_iff (f g : Fun) : sameF f g = true ↔ f = g := by unfold sameF; exact @decide_eq_true_iff _ (Classical.propDecidable _)
set_option maxHeartbeats 2000000 in
set_option maxRecDepth 100000 in
theorem eqI_any {B : Nat} {A A' : Option Addr} {l m : List Ins} (c c' : Nat) (w : World) (h : CodeAt w B A l) (h' : CodeAt w B A' m) (hz : l.length ≤ maxLen) (hB : B ≤ w.heap.size) :
    Calls Tryd.prog 60 #[.slice A l.length c, .slice A' m.length c'] w fun e w' => e = .returned (.bool (sameI l m)) ∧ Below w.heap.size w w' := by
  have HA := Lib.hid h
  have HA' := Lib.hid h'
  unfold maxLen at hz
  clear h h'
  by_cases hlen : l.length = m.length
  case neg =>
    have hs := sameI_no (l := l) (m := m) fun e => hlen (by rw [e])
    have HS := Lib.hid hs
    have hl : ((l.length : Int) != (m.length : Int)) = true := by simp; omega
    clear hs hlen
    go_enter Tryd.func60, Tryd.ntmps60
    go_wp2
    go_ret
    rw [HS.out]
    exact ⟨rfl, Below.refl _ _⟩
  have hl : ((l.length : Int) != (m.length : Int)) = false := by simp; omega
  go_enter Tryd.func60, Tryd.ntmps60
  go_wp2
  clear hl
  go_loopw [13] (fun i W => ∃ k : Nat, k ≤ l.length ∧ i = .int .i64 k ∧ (∀ j (h1 : j < k) (h2 : j < l.length) (h3 : j < m.length), l[j] = m[j]) ∧ Below w.heap.size w W) (fun i _ => l.length - (intOf i).toNat)
  case atStart => exact ⟨0, by omega, rfl, fun j hj => absurd hj (by omega), Below.refl _ _⟩
  case round =>
    obtain ⟨j, hj, rfl, hall, hw⟩ := hrel
    have HJ := Lib.hid hall
    clear hall
    by_cases hltj : j < l.length
    · have hltj' : j < m.length := by omega
      obtain ⟨b2, off2, rfl, hbl2, hd⟩ := (HA.out.below hw hB) (by omega)
      obtain ⟨b3, off3, rfl, hbl3, hd'⟩ := (HA'.out.below hw hB) (by omega)
      obtain ⟨d0, d1, d2⟩ := hd j hltj
      obtain ⟨k0, k1, k2⟩ := hd' j hltj'
      clear hd hd'
      have hne : l[j] ≠ m[j] → l ≠ m := fun h e => by subst e; exact h rfl
      have hst : l[j] = m[j] → ∀ i (h1 : i < j + 1) (h2 : i < l.length) (h3 : i < m.length), l[i] = m[i] := fun e i h1 h2 h3 => by
        rcases Nat.lt_succ_iff_lt_or_eq.1 h1 with h | rfl
        · exact HJ.out i h h2 h3
        · exact e
      generalize l[j] = x at *
      generalize m[j] = u at *
      obtain ⟨xo, xa, xb⟩ := x
      obtain ⟨uo, ua, ub⟩ := u
      have HNE := Lib.hid hne
      have HST2 := Lib.hid hst
      clear hne hst
      have kn := fun W => neqi_run xo xa xb uo ua ub W
      obtain ⟨t, ht⟩ : ∃ t : Bool, t = decide ((xo, xa, xb) ≠ (uo, ua, ub)) := ⟨_, rfl⟩
      rw [← ht] at kn
      have HM := Lib.hid ht
      clear ht
      have q0 := fun d os => cell_regrown d0 d os
      have q1 := fun d os => cell_regrown d1 d os
      have q2 := fun d os => cell_regrown d2 d os
      have r0 := fun d os => cell_regrown k0 d os
      have r1 := fun d os => cell_regrown k1 d os
      have r2 := fun d os => cell_regrown k2 d os
      cases t
      · have he : (xo, xa, xb) = (uo, ua, ub) := by
          have := HM.out
          simpa using this
        have HE := Lib.hid he
        clear he
        go_upto_region 6 with (fail)
        clear d0 d1 d2 k0 k1 k2
        refine wp_region_quiet_below (by kernel_rfl) (by kernel_rfl) ?_
        (repeat (first | go_big_quiet_step (fail) | quiet_step (fail)))
        refine wpQuiet_nil ?_
        intro v hv
        have hbv := below_of_regrown hv
        clear hv q0 q1 q2 r0 r1 r2
        replace hw := Below.step hw hbv
        go_wp2_with fail
        go_roundw
        case rel => exact ⟨j + 1, by omega, by go_num, HST2.out HE.out, hw⟩
        case measure => simp [intOf]; omega
      · have he : (xo, xa, xb) ≠ (uo, ua, ub) := by
          have := HM.out
          intro e
          rw [e] at this
          simp at this
        have hs := sameI_no (HNE.out he)
        have HS := Lib.hid hs
        clear he hs
        go_upto_region 6 with (fail)
        clear d0 d1 d2 k0 k1 k2
        refine wp_region_quiet_below (by kernel_rfl) (by kernel_rfl) ?_
        (repeat (first | go_big_quiet_step (fail) | quiet_step (fail)))
        refine wpQuiet_nil ?_
        intro v hv
        have hbv := below_of_regrown hv
        clear hv q0 q1 q2 r0 r1 r2
        replace hw := Below.step hw hbv
        go_wp2_with fail
        go_ret
        rw [HS.out]
        exact ⟨rfl, hw⟩
    · obtain rfl : j = l.length := by omega
      have hs : sameI l m = true := by
        rw [sameI_iff]
        exact List.ext_getElem hlen fun i h1 h2 => HJ.out i h1 h1 h2
      have HS := Lib.hid hs
      clear hs
      go_wp2_with fail
      go_ret
      rw [HS.out]
      exact ⟨rfl, hw⟩

set_option maxHeartbeats 2000000 in
set_option maxRecDepth 100000 in
theorem csameF_any {B : Nat} {A A' : Option Addr} {f g : Fun} (c c' : Nat) (w : World) (h : CodeAt w B A f.code) (h' : CodeAt w B A' g.code) (hz : f.code.length ≤ maxLen) (hB : B ≤ w.heap.size) :
    Calls Tryd.prog 39 #[.agg #[.int .i64 f.ar, .int .i64 f.lo, .int .i64 f.sl, .slice A f.code.length c], .agg #[.int .i64 g.ar, .int .i64 g.lo, .int .i64 g.sl, .slice A' g.code.length c']] w fun e w' => e = .returned (.bool (sameF f g)) ∧ Below w.heap.size w w' := by
  have C := fun W h h' hB => Lib.hid (eqI_any (B := B) (A := A) (A' := A') (l := f.code) (m := g.code) c c' W h h' hz hB)
  have HA := Lib.hid h
  have HA' := Lib.hid h'
  have hdec : sameF f g = ((f.ar == g.ar) && (f.lo == g.lo) && (f.sl == g.sl) && sameI f.code g.code) := by
    rw [Bool.eq_iff_iff, sameF_iff]
    simp only [Bool.and_eq_true, beq_iff_eq, sameI_iff]
    constructor
    · rintro rfl
      simp
    · rintro ⟨⟨⟨h0, h1⟩, h2⟩, h3⟩
      cases f
      cases g
      simp_all
  rw [hdec]
  clear hdec h h'
  unfold maxLen at hz
  have hw := below2 w (.cells #[.int .i64 f.ar, .int .i64 f.lo, .int .i64 f.sl, .slice A f.code.length c] 89) (.cells #[.int .i64 g.ar, .int .i64 g.lo, .int .i64 g.sl, .slice A' g.code.length c'] 89)
  generalize f.ar = fa at *
  generalize f.lo = fl at *
  generalize f.sl = fs at *
  generalize g.ar = ga at *
  generalize g.lo = gl at *
  generalize g.sl = gs at *
  generalize sameI f.code g.code = x at *
  cases e0 : (fa == ga)
  · go_enter Tryd.func39, Tryd.ntmps39
    go_wp2_with fail
    go_ret
    exact ⟨rfl, hw⟩
  cases e1 : (fl == gl)
  · go_enter Tryd.func39, Tryd.ntmps39
    go_wp2_with fail
    go_ret
    exact ⟨rfl, hw⟩
  cases e2 : (fs == gs)
  · go_enter Tryd.func39, Tryd.ntmps39
    go_wp2_with fail
    go_ret
    exact ⟨rfl, hw⟩
  go_enter Tryd.func39, Tryd.ntmps39
  go_wp2_with (go_at_call 60; (with_reducible refine (C _ (HA.out.below hw hB) (HA'.out.below hw hB) (Nat.le_trans hB hw.size)).out.mono ?_); rintro e v ⟨rfl, hb⟩)
  go_ret
  exact ⟨rfl, Below.step hw hb⟩

set_option maxHeartbeats 2000000 in
set_option maxRecDepth 100000 in
theorem eqF_any {B : Nat} {A A' : Option Addr} {p q : List Fun} (c c' : Nat) (w : World) (h : ProgAt w B A p) (hz : SizedP p) (h' : ProgAt w B A' q) (hB : B ≤ w.heap.size) :
    Calls Tryd.prog 38 #[.slice A p.length c, .slice A' q.length c', fnv 39] w fun e w' => e = .returned (.bool (sameP p q)) ∧ Below w.heap.size w w' := by
  have HA := Lib.hid h
  have HA' := Lib.hid h'
  have HZ := Lib.hid hz.2
  have hzp := hz.1
  unfold maxLen at hzp
  clear h hz h'
  by_cases hlen : p.length = q.length
  case neg =>
    have hs := sameP_no (p := p) (q := q) fun e => hlen (by rw [e])
    have HS := Lib.hid hs
    have hl : ((p.length : Int) != (q.length : Int)) = true := by simp; omega
    clear hs hlen
    go_enter Tryd.func38, Tryd.ntmps38
    go_wp2
    go_ret
    rw [HS.out]
    exact ⟨rfl, Below.refl _ _⟩
  have hl : ((p.length : Int) != (q.length : Int)) = false := by simp; omega
  have HLEN := Lib.hid hlen
  clear hlen
  go_enter Tryd.func38, Tryd.ntmps38
  go_wp2
  clear hl
  go_loopw [17] (fun i W => ∃ k : Nat, k ≤ p.length ∧ i = .int .i64 k ∧ (∀ j (h1 : j < k) (h2 : j < p.length) (h3 : j < q.length), p[j] = q[j]) ∧ Below w.heap.size w W) (fun i _ => p.length - (intOf i).toNat)
  case atStart => exact ⟨0, by omega, rfl, fun j hj => absurd hj (by omega), Below.refl _ _⟩
  case round =>
    obtain ⟨k, hk, rfl, hall, hw⟩ := hrel
    have HALL := Lib.hid hall
    clear hall
    by_cases hlt : k < p.length
    · have hlt' : k < q.length := by have := HLEN.out; omega
      obtain ⟨b, off, rfl, hbl, hc⟩ := (HA.out.below hw hB) (by omega)
      obtain ⟨b', off', rfl, hbl', hc'⟩ := (HA'.out.below hw hB) (by omega)
      have hF := hc k hlt
      have hF' := hc' k hlt'
      clear hc hc'
      have hat := fun (e : p[k] ≠ q[k]) => sameP_at hlt hlt' e
      have hstep : p[k] = q[k] → ∀ j (h1 : j < k + 1) (h2 : j < p.length) (h3 : j < q.length), p[j] = q[j] := fun e j h1 h2 h3 => by
        rcases Nat.lt_succ_iff_lt_or_eq.1 h1 with h | rfl
        · exact HALL.out j h h2 h3
        · exact e
      have hzf := HZ.out _ (List.getElem_mem hlt)
      generalize p[k] = f at *
      generalize q[k] = g at *
      have HAT := Lib.hid hat
      have HST := Lib.hid hstep
      clear hat hstep
      obtain ⟨f0, f1, f2, A2, c2, f3, hcf⟩ := hF
      obtain ⟨g0, g1, g2, A3, c3, g3, hcg⟩ := hF'
      have hwz := hw.size
      have hBr : B ≤ wr.heap.size := by omega
      have hbr := below2 wr (.cells #[.int .i64 f.ar, .int .i64 f.lo, .int .i64 f.sl, .slice A2 f.code.length c2] 89) (.cells #[.int .i64 g.ar, .int .i64 g.lo, .int .i64 g.sl, .slice A3 g.code.length c3] 89)
      have C := Lib.hid (csameF_any (f := f) (g := g) c2 c3 _ (hcf.below hbr hBr) (hcg.below hbr hBr) hzf (Nat.le_trans hBr hbr.size))
      obtain ⟨t, ht⟩ : ∃ t, t = sameF f g := ⟨_, rfl⟩
      rw [← ht] at C
      have HT := Lib.hid ht
      clear ht hcf hcg hzf hbr
      have hbw : b < wr.heap.size := by omega
      have hbw' : b' < wr.heap.size := by omega
      cases t
      · have hs := HAT.out (fun e => by
          have := HT.out
          rw [(sameF_iff f g).2 e] at this
          cases this)
        have HS := Lib.hid hs
        clear hs
        go_wp2_with (go_at_call 39; (with_reducible refine C.out.mono ?_); rintro e v ⟨rfl, hb⟩; replace hw := Below.step hw (Below.step (below2 _ _ _) hb); clear hb)
        go_ret
        rw [HS.out]
        exact ⟨rfl, hw⟩
      · have he : f = g := (sameF_iff f g).1 HT.out.symm
        have HE := Lib.hid he
        clear he
        go_wp2_with (go_at_call 39; (with_reducible refine C.out.mono ?_); rintro e v ⟨rfl, hb⟩; replace hw := Below.step hw (Below.step (below2 _ _ _) hb); clear hb)
        go_roundw
        case rel => exact ⟨k + 1, by omega, by go_num, HST.out HE.out, hw⟩
        case measure => simp [intOf]; omega
    · obtain rfl : k = p.length := by omega
      have hs : sameP p q = true := by
        rw [sameP_iff]
        exact List.ext_getElem HLEN.out fun j h1 h2 => HALL.out j h1 h1 h2
      have HS := Lib.hid hs
      clear hs
      go_wp2_with fail
      go_ret
      rw [HS.out]
      exact ⟨rfl, hw⟩

set_option maxHeartbeats 1000000 in
set_option maxRecDepth 100000 in
theorem csame_any {B : Nat} {A A' : Option Addr} {p q : List Fun} (c c' : Nat) (w : World) (h : ProgAt w B A p) (hz : SizedP p) (h' : ProgAt w B A' q) (hB : B ≤ w.heap.size) :
    Calls Tryd.prog 23 #[.slice A p.length c, .slice A' q.length c'] w fun e w' => e = .returned (.bool (sameP p q)) ∧ Below w.heap.size w w' := by
  have C := Lib.hid (eqF_any c c' w h hz h' hB)
  clear h h' hz
  go_enter Tryd.func23, Tryd.ntmps23
  go_wp2_with (go_at_call 38; (with_reducible refine C.out.mono ?_); rintro e v ⟨rfl, hb⟩)
  go_ret
  exact ⟨rfl, hb⟩
end Go.Proofs.YtjibkgildfjjoaaDoor

