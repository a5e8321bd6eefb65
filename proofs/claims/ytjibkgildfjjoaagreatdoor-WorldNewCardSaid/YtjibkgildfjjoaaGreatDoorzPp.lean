/- Layer 7, plain: programs read of their texts. -/
import Derived.Test.YtjibkgildfjjoaaGreatDoorzPm
import Derived.Test.YtjibkgildfjjoaaGreatDoorzHd
import Derived.Test.YtjibkgildfjjoaaGreatDoorzSdm
import Derived.Laws.BitsAllLaws
import Derived.Test.YtjibkgildfjjoaaGreatDoorzKit
import Derived.Lib.IndexMore
import Derived.Lib.Split
import Derived.Lib.AtoiAll
import Derived.Lib.AtoiAllCases
namespace Go.Proofs.YtjibkgildfjjoaaGreatDoor
set_option linter.unusedVariables false
set_option linter.unusedSimpArgs false
open Go

def linesF (f : Fun) : List PLine := .head f.ar f.lo f.sl :: f.code.map fun x => .ins x.1 x.2.1 x.2.2
def linesP (p : List Fun) : List PLine := (p.map linesF).flatten
/-- May a function be? -/
def mayF (f : Fun) : Bool := headB f.ar f.lo f.sl && (decide (1 ≤ f.code.length) && decide (f.code.length ≤ 200)) && f.code.all fun x => mayZ x.1 x.2.1 x.2.2
def mayP (p : List Fun) : Bool := decide (1 ≤ p.length) && decide (p.length ≤ 16) && p.all mayF
def textP (p : List Fun) : List UInt8 := if mayP p = true then flatC 10 ((linesP p).map lineT) else []
/-- May a program's next function be laid? -/
def openR (p : List Fun) : Bool := match p.getLast? with
  | some f => !f.code.isEmpty
  | none => true
/-- A program, and a line more. -/
def layH (p : List Fun) (a l s : Int) : Option (List Fun) := if openR p = true ∧ p.length ≠ 16 then some (p ++ [⟨a, l, s, []⟩]) else none
def layI (p : List Fun) (o a b : Int) : Option (List Fun) := match p.getLast? with
  | none => none
  | some f => if f.code.length = 200 then none else some (p.dropLast ++ [⟨f.ar, f.lo, f.sl, f.code ++ [(o, a, b)]⟩])
def layL (p : List Fun) : PLine → Option (List Fun)
  | .head a l s => layH p a l s
  | .ins o a b => layI p o a b
/-- Lines, one behind the other: what was laid, how many were, whether all were. -/
def runL : List Fun → List (List UInt8) → List Fun × Nat × Bool
  | p, [] => (p, 0, true)
  | p, l :: ls => match (lineOf l).bind (layL p) with
    | none => (p, 0, false)
    | some q => ((runL q ls).1, (runL q ls).2.1 + 1, (runL q ls).2.2)
def parseP (s : List UInt8) : List Fun × Nat × Int :=
  let L := splitL 10 s
  let r := runL [] L.dropLast
  if r.2.2 = true ∧ L.getLast? = some [] ∧ mayP r.1 = true then (r.1, r.2.1, 0) else ([], r.2.1, 70)

theorem linesP_nil : linesP [] = [] := rfl
theorem linesP_app (p q : List Fun) : linesP (p ++ q) = linesP p ++ linesP q := by simp [linesP]
theorem mayF_iff (f : Fun) : mayF f = true ↔ headB f.ar f.lo f.sl = true ∧ 1 ≤ f.code.length ∧ f.code.length ≤ 200 ∧ ∀ x ∈ f.code, mayZ x.1 x.2.1 x.2.2 = true := by
  simp [mayF, and_assoc]
theorem mayP_iff (p : List Fun) : mayP p = true ↔ 1 ≤ p.length ∧ p.length ≤ 16 ∧ ∀ f ∈ p, mayF f = true := by
  simp [mayP, and_assoc]
theorem runL_nil (p : List Fun) : runL p [] = (p, 0, true) := rfl
theorem runL_some {p q : List Fun} {l : List UInt8} (ls : List (List UInt8)) (h : (lineOf l).bind (layL p) = some q) : runL p (l :: ls) = ((runL q ls).1, (runL q ls).2.1 + 1, (runL q ls).2.2) := by
  rw [runL, h]
theorem runL_none {p : List Fun} {l : List UInt8} (ls : List (List UInt8)) (h : (lineOf l).bind (layL p) = none) : runL p (l :: ls) = (p, 0, false) := by
  rw [runL, h]
theorem getLast_split {α : Type} {p : List α} {f : α} (h : p.getLast? = some f) : p = p.dropLast ++ [f] := by
  have hne : p ≠ [] := by intro e; rw [e] at h; simp at h
  rw [List.getLast?_eq_some_getLast hne] at h
  simp only [Option.some.injEq] at h
  rw [← h]
  exact (List.dropLast_concat_getLast hne).symm
/-- What is laid has just these lines. -/
theorem lay_lines {p q : List Fun} {x : PLine} (h : layL p x = some q) : linesP q = linesP p ++ [x] := by
  cases x with
  | head a l s =>
    have h' : layH p a l s = some q := h
    unfold layH at h'
    split at h'
    · simp only [Option.some.injEq] at h'
      subst h'
      rw [linesP_app]
      rfl
    · cases h'
  | ins o a b =>
    have h' : layI p o a b = some q := h
    unfold layI at h'
    split at h'
    · cases h'
    · rename_i f hf
      split at h'
      · cases h'
      · simp only [Option.some.injEq] at h'
        subst h'
        have hs := getLast_split hf
        conv => rhs; rw [hs]
        rw [linesP_app, linesP_app]
        simp [linesP, linesF]
theorem run_lines : ∀ (ls : List (List UInt8)) (p : List Fun), (runL p ls).2.2 = true → (linesP (runL p ls).1).map lineT = (linesP p).map lineT ++ ls
  | [], p, _ => by simp [runL_nil]
  | l :: ls, p, h => by
    cases hq : (lineOf l).bind (layL p) with
    | none => rw [runL_none ls hq] at h; cases h
    | some q =>
      rw [runL_some ls hq] at h ⊢
      simp only
      rw [run_lines ls q h]
      cases hl : lineOf l with
      | none => rw [hl] at hq; cases hq
      | some x =>
        rw [hl] at hq
        rw [lay_lines (show layL p x = some q from hq)]
        rw [List.map_append, List.append_assoc]
        congr 1
        simp [(lineOf_of hl).2]

theorem text_eq {p : List Fun} (h : mayP p = true) : textP p = flatC 10 ((linesP p).map lineT) := by unfold textP; rw [if_pos h]
/-- A text that is read is the program's own. -/
theorem text_parse {s : List UInt8} (h : (parseP s).2.2 = 0) : mayP (parseP s).1 = true ∧ textP (parseP s).1 = s := by
  have hj := join_split 10 s
  unfold parseP at *
  simp only at *
  split at h
  · rename_i hc
    rw [if_pos hc]
    refine ⟨hc.2.2, ?_⟩
    rw [text_eq hc.2.2, run_lines _ _ hc.1]
    have hs := getLast_split hc.2.1
    rw [hs, join_flat] at hj
    simpa [linesP_nil] using hj
  · simp at h
theorem parse_none {s : List UInt8} (h : (parseP s).2.2 ≠ 0) : (parseP s).1 = [] ∧ (parseP s).2.2 = 70 := by
  unfold parseP at *
  simp only at *
  split at h
  · simp at h
  · rename_i hc
    rw [if_neg hc]
    exact ⟨rfl, rfl⟩
end Go.Proofs.YtjibkgildfjjoaaGreatDoor

/- Layer 8, plain: depths of places, by going through them, the least first. -/
namespace Go.Proofs.YtjibkgildfjjoaaGreatDoor
set_option linter.unusedVariables false
set_option linter.unusedSimpArgs false
open Go

/-- What a function takes. -/
def arP (p : List Fun) (i : Int) : Int := match p[i.toNat]? with
  | some f => f.ar
  | none => 0
def offI (p : List Fun) (x : Int × Int × Int) : Int := if x.1 = 13 then arP p x.2.1 else (rz x.1).p
def nextI (x : Int × Int × Int) (i : Int) : List Int := if x.1 = 10 then [x.2.1] else if x.1 = 15 ∨ x.1 = 16 then [] else if x.1 = 11 then [i + 1, x.2.1] else [i + 1]
def nodeI (p : List Fun) (x : Int × Int × Int) (i : Int) : Int × Int × List Int := (offI p x, (rz x.1).q, nextI x i)
/-- What is wrong with an instruction's fields. -/
def fieldI (p : List Fun) (f : Fun) (x : Int × Int × Int) : Int :=
  if ((x.1 = 1 ∨ x.1 = 2) ∧ f.lo ≤ x.2.1) ∨ (x.1 = 14 ∧ f.sl ≤ x.2.1) ∨ (x.1 = 13 ∧ (f.sl ≤ x.2.2 ∨ (p.length : Int) ≤ x.2.1)) then 82
  else if (x.1 = 10 ∨ x.1 = 11) ∧ (f.code.length : Int) ≤ x.2.1 then 83 else 0
def grF (p : List Fun) (c : List (Int × Int × Int)) (i : Nat) : Int × Int × List Int := match c[i]? with
  | some x => nodeI p x i
  | none => (0, 0, [])
/-- Places that follow are reached, one behind the other: depths, who waits, what is wrong. -/
def nextsS (b : Int) : List Int → List Int → List Bool → List Int × List Bool × Int
  | [], D, W => (D, W, 0)
  | t :: ts, D, W =>
    if (D.length : Int) ≤ t then (D, W, 81)
    else if D.getD t.toNat 0 = -1 then nextsS b ts (D.set t.toNat b) (W.set t.toNat true)
    else if D.getD t.toNat 0 = b then nextsS b ts D W else (D, W, 84)
/-- A place is gone through. -/
def procS (g : Int × Int × List Int) (d : Int) (D : List Int) (W : List Bool) : List Int × List Bool × Int :=
  if d < g.1 ∨ 16 < d - g.1 + g.2.1 then (D, W, 84) else nextsS (d - g.1 + g.2.1) g.2.2 D W
/-- The least place that waits. -/
def openS (W : List Bool) : Option Nat := W.findIdx? (· == true)
def flowS (G : Nat → Int × Int × List Int) : Nat → List Int → List Bool → List Int × Int × Int
  | 0, D, _ => (D, 0, 0)
  | k + 1, D, W => match openS W with
    | none => (D, 0, 0)
    | some i => if (procS (G i) (D.getD i 0) D (W.set i false)).2.2 = 0 then flowS G k (procS (G i) (D.getD i 0) D (W.set i false)).1 (procS (G i) (D.getD i 0) D (W.set i false)).2.1
      else (D, i, (procS (G i) (D.getD i 0) D (W.set i false)).2.2)
def initD (n : Nat) : List Int := 0 :: List.replicate (n - 1) (-1)
def initW (n : Nat) : List Bool := true :: List.replicate (n - 1) false
def flowF (p : List Fun) (c : List (Int × Int × Int)) : List Int × Int × Int := flowS (grF p c) 201 (initD c.length) (initW c.length)
/-- The first one that is wrong. -/
def firstI (p : List Fun) (f : Fun) : List (Int × Int × Int) → Int → Int × Int
  | [], _ => (0, 0)
  | x :: xs, k => if fieldI p f x = 0 then firstI p f xs (k + 1) else (k, fieldI p f x)
def funE (p : List Fun) (f : Fun) : Int × Int :=
  if f.lo < f.ar then (0, 80) else if (firstI p f f.code 0).2 = 0 then (flowF p f.code).2 else firstI p f f.code 0
def firstF (p : List Fun) : List Fun → Int → Int × Int × Int
  | [], _ => (0, 0, 0)
  | f :: fs, k => if (funE p f).2 = 0 then firstF p fs (k + 1) else (k, funE p f)
def checkP (p : List Fun) : Int × Int × Int := if mayP p = true then firstF p p 0 else (0, 0, 1)
def depthsP (p : List Fun) (n : Int) : List Int := if (checkP p).2.2 = 0 ∧ 0 ≤ n then (match p[n.toNat]? with
  | some f => (flowF p f.code).1
  | none => []) else []

theorem openS_some {W : List Bool} {i : Nat} (h : openS W = some i) : ∃ hi : i < W.length, W[i] = true ∧ ∀ j (hj : j < i), W[j] = false := by
  unfold openS at h
  obtain ⟨hi, h1, h2⟩ := List.findIdx?_eq_some_iff_getElem.1 h
  refine ⟨hi, by simpa using h1, fun j hj => ?_⟩
  have := h2 j hj
  simpa using this
theorem openS_at {W : List Bool} {i : Nat} (hi : i < W.length) (h : W[i] = true) (hj : ∀ j (hj : j < i), W[j] = false) : openS W = some i := by
  unfold openS
  exact List.findIdx?_eq_some_iff_getElem.2 ⟨hi, by simpa using h, fun j h2 => by have := hj j h2; simpa using this⟩
theorem openS_no {W : List Bool} (h : ∀ x ∈ W, x = false) : openS W = none := by
  unfold openS
  exact List.findIdx?_eq_none_iff.2 fun x hx => by have := h x hx; simpa using this
theorem nexts_len {b : Int} : ∀ {ts : List Int} {D : List Int} {W : List Bool}, (nextsS b ts D W).1.length = D.length ∧ (nextsS b ts D W).2.1.length = W.length
  | [], D, W => ⟨rfl, rfl⟩
  | t :: ts, D, W => by
    unfold nextsS
    split
    · exact ⟨rfl, rfl⟩
    · split
      · have := @nexts_len b ts (D.set t.toNat b) (W.set t.toNat true)
        simpa using this
      · split
        · exact nexts_len
        · exact ⟨rfl, rfl⟩
/-- What changes: places that were not reached, and wait now. -/
def Grew (b : Int) (ts : List Int) (D D' : List Int) (W W' : List Bool) : Prop :=
  ∀ i, (D'[i]? = D[i]? ∧ W'[i]? = W[i]?) ∨ (D[i]? = some (-1) ∧ D'[i]? = some b ∧ W'[i]? = some true ∧ ∃ t ∈ ts, t.toNat = i)
theorem nexts_grew {b : Int} : ∀ {ts : List Int} {D : List Int} {W : List Bool}, W.length = D.length → (∀ t ∈ ts, 0 ≤ t) → Grew b ts D (nextsS b ts D W).1 W (nextsS b ts D W).2.1
  | [], D, W, _, _ => fun i => .inl ⟨rfl, rfl⟩
  | t :: ts, D, W, hl, h0 => by
    unfold nextsS
    have ht := h0 t (by simp)
    have hts : ∀ t ∈ ts, 0 ≤ t := fun u hu => h0 u (by simp [hu])
    split
    · exact fun i => .inl ⟨rfl, rfl⟩
    · rename_i hlt
      have hlt2 : t.toNat < D.length := by omega
      split
      · rename_i hm
        have ih := @nexts_grew b ts (D.set t.toNat b) (W.set t.toNat true) (by simp [hl]) hts
        intro i
        by_cases hi : t.toNat = i
        · subst hi
          rcases ih t.toNat with ⟨h1, h2⟩ | ⟨h1, h2, h3, h4⟩
          · refine .inr ⟨?_, ?_, ?_, t, by simp, rfl⟩
            · rw [List.getD_eq_getElem?_getD, List.getElem?_eq_getElem hlt2] at hm
              rw [List.getElem?_eq_getElem hlt2]
              simpa using hm
            · rw [h1]; simp [hlt2]
            · rw [h2]; simp [hl, hlt2]
          · refine .inr ⟨?_, h2, h3, t, by simp, rfl⟩
            rw [List.getD_eq_getElem?_getD, List.getElem?_eq_getElem hlt2] at hm
            rw [List.getElem?_eq_getElem hlt2]
            simpa using hm
        · rcases ih i with ⟨h1, h2⟩ | ⟨h1, h2, h3, u, h4, h5⟩
          · exact .inl ⟨by rw [h1, List.getElem?_set_ne hi], by rw [h2, List.getElem?_set_ne hi]⟩
          · exact .inr ⟨by rw [List.getElem?_set_ne hi] at h1; exact h1, h2, h3, u, by simp [h4], h5⟩
      · split
        · intro i
          rcases @nexts_grew b ts D W hl hts i with h | ⟨h1, h2, h3, u, h4, h5⟩
          · exact .inl h
          · exact .inr ⟨h1, h2, h3, u, by simp [h4], h5⟩
        · exact fun i => .inl ⟨rfl, rfl⟩
theorem grew_keeps {b : Int} {ts : List Int} {D D' : List Int} {W W' : List Bool} (h : Grew b ts D D' W W') {i : Nat} {d : Int} (hd : D[i]? = some d) (hn : d ≠ -1) : D'[i]? = some d ∧ W'[i]? = W[i]? := by
  rcases h i with ⟨h1, h2⟩ | ⟨h1, _⟩
  · exact ⟨h1.trans hd, h2⟩
  · rw [hd] at h1
    exact absurd (Option.some.inj h1) hn
theorem nexts_ok {b : Int} (hb : b ≠ -1) : ∀ {ts : List Int} {D : List Int} {W : List Bool}, W.length = D.length → (∀ t ∈ ts, 0 ≤ t) → (nextsS b ts D W).2.2 = 0 → ∀ t ∈ ts, t < D.length ∧ (nextsS b ts D W).1[t.toNat]? = some b
  | [], D, W, _, _, _, t, h => by simp at h
  | t :: ts, D, W, hl, h0, he, u, hu => by
    have ht := h0 t (by simp)
    have hts : ∀ t ∈ ts, 0 ≤ t := fun u hu => h0 u (by simp [hu])
    unfold nextsS at he ⊢
    split
    · rename_i hc
      rw [if_pos hc] at he
      cases he
    · rename_i hc
      rw [if_neg hc] at he
      have hlt2 : t.toNat < D.length := by omega
      split
      · rename_i hm
        rw [if_pos hm] at he
        have ih := @nexts_ok b hb ts (D.set t.toNat b) (W.set t.toNat true) (by simp [hl]) hts he
        rcases List.mem_cons.1 hu with rfl | hu
        · refine ⟨by omega, ?_⟩
          exact (grew_keeps (nexts_grew (b := b) (ts := ts) (by simp [hl]) hts) (by simp [hlt2]) hb).1
        · have := ih u hu
          simpa using this
      · rename_i hm
        rw [if_neg hm] at he
        split
        · rename_i hm2
          rw [if_pos hm2] at he
          have ih := @nexts_ok b hb ts D W hl hts he
          rcases List.mem_cons.1 hu with rfl | hu
          · refine ⟨by omega, ?_⟩
            refine (grew_keeps (nexts_grew (b := b) (ts := ts) hl hts) ?_ hb).1
            rw [List.getD_eq_getElem?_getD, List.getElem?_eq_getElem hlt2] at hm2
            rw [List.getElem?_eq_getElem hlt2]
            simpa using hm2
          · exact ih u hu
        · rename_i hm2
          rw [if_neg hm2] at he
          cases he

/-- How many places are still to be gone through. -/
def todoB (D : List Int) (W : List Bool) (i : Nat) : Bool := D[i]? == some (-1) || W[i]? == some true
def muS (n : Nat) (D : List Int) (W : List Bool) : Nat := (List.range n).countP (todoB D W)
theorem countP_lt {α : Type} {p q : α → Bool} : ∀ {l : List α}, (∀ x ∈ l, q x = true → p x = true) → (∃ a ∈ l, p a = true ∧ q a = false) → l.countP q < l.countP p
  | [], _, h => by obtain ⟨a, h, _⟩ := h; simp at h
  | x :: l, h1, ⟨a, ha, hp, hq⟩ => by
    have hx := h1 x (by simp)
    have hl : ∀ y ∈ l, q y = true → p y = true := fun y hy => h1 y (by simp [hy])
    have hle : l.countP q ≤ l.countP p := List.countP_mono_left hl
    rw [List.countP_cons, List.countP_cons]
    rcases List.mem_cons.1 ha with rfl | ha
    · rw [hp, hq]
      simp
      omega
    · have := countP_lt hl ⟨a, ha, hp, hq⟩
      cases hqx : q x
      · simp
        split <;> omega
      · rw [hx hqx]
        simp
        omega
theorem mu_pos {n : Nat} {D : List Int} {W : List Bool} {i : Nat} (hi : i < n) (h : W[i]? = some true) : 0 < muS n D W := by
  unfold muS
  rw [List.countP_pos_iff]
  exact ⟨i, by simpa using hi, by simp [todoB, h]⟩
/-- What is known of depths and of who waits, all the way. -/
structure Gone (G : Nat → Int × Int × List Int) (n : Nat) (D : List Int) (W : List Bool) : Prop where
  dl : D.length = n
  wl : W.length = n
  zero : D[0]? = some 0
  range : ∀ (i : Nat) (d : Int), D[i]? = some d → -1 ≤ d ∧ d ≤ 16
  wait : ∀ i : Nat, W[i]? = some true → D[i]? ≠ some (-1)
  done : ∀ (i : Nat) (d : Int), D[i]? = some d → d ≠ -1 → W[i]? = some false → (G i).1 ≤ d ∧ d - (G i).1 + (G i).2.1 ≤ 16 ∧ ∀ t ∈ (G i).2.2, t < n ∧ D[t.toNat]? = some (d - (G i).1 + (G i).2.1)
  from_ : ∀ (i : Nat) (d : Int), 0 < i → D[i]? = some d → d ≠ -1 → ∃ (j : Nat) (e : Int), D[j]? = some e ∧ e ≠ -1 ∧ W[j]? = some false ∧ ∃ t ∈ (G j).2.2, t.toNat = i
/-- Places that follow are told by numbers, and more is laid than nothing. -/
def Fine (G : Nat → Int × Int × List Int) (n : Nat) : Prop := ∀ i, i < n → 0 ≤ (G i).2.1 ∧ ∀ t ∈ (G i).2.2, 0 ≤ t
theorem good_step {G : Nat → Int × Int × List Int} {n : Nat} {D : List Int} {W : List Bool} (hF : Fine G n) (h : Gone G n D W) {i : Nat} (ho : openS W = some i)
    (he : (procS (G i) (D.getD i 0) D (W.set i false)).2.2 = 0) :
    Gone G n (procS (G i) (D.getD i 0) D (W.set i false)).1 (procS (G i) (D.getD i 0) D (W.set i false)).2.1 ∧
    muS n (procS (G i) (D.getD i 0) D (W.set i false)).1 (procS (G i) (D.getD i 0) D (W.set i false)).2.1 < muS n D W := by
  obtain ⟨hi, hwi, _⟩ := openS_some ho
  have hdl := h.dl
  have hwl := h.wl
  have hin : i < n := by omega
  have hid : i < D.length := by omega
  obtain ⟨hq, hts⟩ := hF i hin
  have hd0 : D[i]? = some D[i] := List.getElem?_eq_getElem hid
  have hg : D.getD i 0 = D[i] := by rw [List.getD_eq_getElem?_getD, hd0]; rfl
  have hwait := h.wait i (by rw [List.getElem?_eq_getElem hi, hwi])
  rw [hd0] at hwait
  have hdn : D[i] ≠ -1 := fun e => hwait (by rw [e])
  have hr := h.range i _ hd0
  rw [hg] at he ⊢
  generalize D[i] = d at *
  unfold procS at he ⊢
  split
  · rename_i hc
    rw [if_pos hc] at he
    cases he
  rename_i hc
  rw [if_neg hc] at he
  have hb : d - (G i).1 + (G i).2.1 ≠ -1 := by omega
  have hlen := @nexts_len (d - (G i).1 + (G i).2.1) (G i).2.2 D (W.set i false)
  have hgr := @nexts_grew (d - (G i).1 + (G i).2.1) (G i).2.2 D (W.set i false) (by simp; omega) hts
  have hok := @nexts_ok (d - (G i).1 + (G i).2.1) hb (G i).2.2 D (W.set i false) (by simp; omega) hts he
  have hWi : (W.set i false)[i]? = some false := by simp [hi]
  have hWj : ∀ j, i ≠ j → (W.set i false)[j]? = W[j]? := fun j hj => List.getElem?_set_ne hj
  generalize nextsS (d - (G i).1 + (G i).2.1) (G i).2.2 D (W.set i false) = R at *
  obtain ⟨D', W', e'⟩ := R
  simp only at *
  have hki := grew_keeps hgr hd0 hdn
  have hW'i : W'[i]? = some false := by rw [hki.2, hWi]
  constructor
  · refine ⟨by omega, by simp at hlen; omega, ?_, ?_, ?_, ?_, ?_⟩
    · exact (grew_keeps hgr h.zero (by omega)).1
    · intro j e hj
      rcases hgr j with ⟨h1, h2⟩ | ⟨h1, h2, _⟩
      · exact h.range j e (h1.symm.trans hj)
      · rw [hj] at h2
        have := Option.some.inj h2
        omega
    · intro j hj e
      rcases hgr j with ⟨h1, h2⟩ | ⟨h1, h2, _⟩
      · by_cases hij : i = j
        · subst hij
          rw [hW'i] at hj
          cases hj
        · exact h.wait j (by rw [← hWj j hij, ← h2, hj]) (h1.symm.trans e)
      · rw [e] at h2
        exact hb (Option.some.inj h2).symm
    · intro j e hj hne hw
      by_cases hij : i = j
      · subst hij
        rw [hki.1] at hj
        obtain rfl := Option.some.inj hj
        exact ⟨by omega, by omega, fun t ht => ⟨by have := (hok t ht).1; omega, (hok t ht).2⟩⟩
      · rcases hgr j with ⟨h1, h2⟩ | ⟨h1, h2, h3, _⟩
        · have hWW : W[j]? = some false := by rw [← hWj j hij, ← h2, hw]
          have hDD : D[j]? = some e := h1.symm.trans hj
          obtain ⟨g1, g2, g3⟩ := h.done j e hDD hne hWW
          have hjl : j < n := by
            obtain ⟨_, _⟩ := List.getElem?_eq_some_iff.1 hDD
            omega
          refine ⟨g1, g2, fun t ht => ⟨(g3 t ht).1, ?_⟩⟩
          refine (grew_keeps hgr (g3 t ht).2 ?_).1
          have := (hF j hjl).1
          have := h.range j e hDD
          omega
        · rw [hw] at h3
          cases h3
    · intro j e hj0 hj hne
      rcases hgr j with ⟨h1, h2⟩ | ⟨h1, h2, h3, t, ht, htj⟩
      · obtain ⟨k, ek, g1, g2, g3, g4⟩ := h.from_ j e hj0 (h1.symm.trans hj) hne
        have hik : i ≠ k := fun e => by
          subst e
          rw [List.getElem?_eq_getElem hi, hwi] at g3
          cases g3
        have hk := grew_keeps hgr g1 g2
        exact ⟨k, ek, hk.1, g2, by rw [hk.2, hWj k hik, g3], g4⟩
      · exact ⟨i, d, hki.1, hdn, hW'i, t, ht, htj⟩
  · unfold muS
    refine countP_lt (fun j _ hj => ?_) ⟨i, by simpa using hin, by simp [todoB, List.getElem?_eq_getElem hi, hwi], ?_⟩
    · simp only [todoB, Bool.or_eq_true, beq_iff_eq] at hj ⊢
      rcases hgr j with ⟨h1, h2⟩ | ⟨h1, h2, h3, _⟩
      · by_cases hij : i = j
        · subst hij
          rw [hki.1, hW'i] at hj
          rcases hj with hj | hj
          · exact absurd (Option.some.inj hj) hdn
          · cases hj
        · rw [h1, h2, hWj j hij] at hj
          exact hj
      · exact .inl h1
    · rw [todoB, hki.1, hW'i]
      simpa using hdn
theorem init_good (G : Nat → Int × Int × List Int) {n : Nat} (hn : 0 < n) : Gone G n (initD n) (initW n) := by
  have hD : ∀ i d, (initD n)[i]? = some d → (i = 0 ∧ d = 0) ∨ (0 < i ∧ d = -1) := by
    intro i d h
    cases i with
    | zero => exact .inl ⟨rfl, by simpa [initD] using h.symm⟩
    | succ i =>
      simp only [initD, List.getElem?_cons_succ, List.getElem?_replicate] at h
      split at h
      · exact .inr ⟨by omega, (Option.some.inj h).symm⟩
      · cases h
  have hW : ∀ i b, (initW n)[i]? = some b → (i = 0 ∧ b = true) ∨ (0 < i ∧ b = false) := by
    intro i d h
    cases i with
    | zero => exact .inl ⟨rfl, by simpa [initW] using h.symm⟩
    | succ i =>
      simp only [initW, List.getElem?_cons_succ, List.getElem?_replicate] at h
      split at h
      · exact .inr ⟨by omega, (Option.some.inj h).symm⟩
      · cases h
  refine ⟨by simp [initD]; omega, by simp [initW]; omega, rfl, ?_, ?_, ?_, ?_⟩
  · intro i d h
    rcases hD i d h with ⟨_, h⟩ | ⟨_, h⟩ <;> omega
  · intro i h e
    rcases hW i _ h with ⟨rfl, _⟩ | ⟨_, h⟩
    · simp [initD] at e
    · cases h
  · intro i d h hd hw
    rcases hD i d h with ⟨rfl, _⟩ | ⟨_, h⟩
    · rcases hW 0 _ hw with ⟨_, h⟩ | ⟨h, _⟩
      · cases h
      · omega
    · exact absurd h hd
  · intro i d h0 h hd
    rcases hD i d h with ⟨rfl, _⟩ | ⟨_, h⟩
    · omega
    · exact absurd h hd
theorem mu_le (n : Nat) (D : List Int) (W : List Bool) : muS n D W ≤ n := by
  unfold muS
  have := List.countP_le_length (l := List.range n) (p := todoB D W)
  simpa using this
theorem nexts_nil (b : Int) (D : List Int) (W : List Bool) : nextsS b [] D W = (D, W, 0) := rfl
theorem nexts_eq (b t : Int) (ts : List Int) (D : List Int) (W : List Bool) : nextsS b (t :: ts) D W = if (D.length : Int) ≤ t then (D, W, 81)
    else if D.getD t.toNat 0 = -1 then nextsS b ts (D.set t.toNat b) (W.set t.toNat true)
    else if D.getD t.toNat 0 = b then nextsS b ts D W else (D, W, 84) := rfl
theorem nexts_cons (b t : Int) (ts : List Int) (D : List Int) (V : List Bool) : nextsS b (t :: ts) D V = if (nextsS b [t] D V).2.2 = 0 then nextsS b ts (nextsS b [t] D V).1 (nextsS b [t] D V).2.1 else nextsS b [t] D V := by
  rw [nexts_eq, nexts_eq b t [], nexts_nil, nexts_nil]
  by_cases h1 : (D.length : Int) ≤ t
  · simp only [if_pos h1]; rfl
  · by_cases h2 : D.getD t.toNat 0 = -1
    · simp only [if_neg h1, if_pos h2]; rfl
    · by_cases h3 : D.getD t.toNat 0 = b
      · simp only [if_neg h1, if_neg h2, if_pos h3]; rfl
      · simp only [if_neg h1, if_neg h2, if_neg h3]; rfl
/-- What a walk may know of a function's instructions, one by one. -/
structure FunOk (p : List Fun) (f : Fun) : Prop where
  n1 : 0 < f.code.length
  n2 : f.code.length ≤ 200
  off : ∀ x ∈ f.code, 0 ≤ offI p x ∧ offI p x ≤ 16
  on : ∀ x ∈ f.code, 0 ≤ (rz x.1).q ∧ (rz x.1).q ≤ 2
  spawn : ∀ x ∈ f.code, x.1 = 13 → 0 ≤ x.2.1 ∧ x.2.1 < p.length
  next : ∀ (i : Nat) (hi : i < f.code.length), ∀ t ∈ nextI f.code[i] i, 0 ≤ t ∧ t ≤ f.code.length
theorem onq_bd : ∀ k, k < 17 → 0 ≤ (orow k).q ∧ (orow k).q ≤ 2 ∧ 0 ≤ (orow k).p ∧ (orow k).p ≤ 2 ∧ 0 ≤ (orow k).lo := by decide
theorem may_node {x : Int × Int × Int} (h : mayZ x.1 x.2.1 x.2.2 = true) : (0 ≤ (rz x.1).q ∧ (rz x.1).q ≤ 2) ∧ (0 ≤ (rz x.1).p ∧ (rz x.1).p ≤ 2) ∧ 0 ≤ x.2.1 := by
  obtain ⟨k, hk, he⟩ := may_in h
  have hb := onq_bd k hk
  have hr := rz_in hk
  rw [← he] at hr
  rw [hr]
  simp only [mayZ, Bool.and_eq_true, decide_eq_true_eq, hr] at h
  omega
theorem ar_ok {p : List Fun} (hm : ∀ f ∈ p, mayF f = true) (i : Int) : 0 ≤ arP p i ∧ arP p i ≤ 16 := by
  unfold arP
  split
  · rename_i f hf
    have := (headB_iff _ _ _).1 ((mayF_iff f).1 (hm f (List.mem_of_getElem? hf))).1
    omega
  · omega
theorem fields_ok {p : List Fun} {f : Fun} {x : Int × Int × Int} (h : fieldI p f x = 0) : ((x.1 = 1 ∨ x.1 = 2) → x.2.1 < f.lo) ∧ (x.1 = 14 → x.2.1 < f.sl) ∧ (x.1 = 13 → x.2.2 < f.sl ∧ x.2.1 < p.length) ∧ ((x.1 = 10 ∨ x.1 = 11) → x.2.1 < f.code.length) := by
  unfold fieldI at h
  split at h
  · cases h
  · split at h
    · cases h
    · omega
theorem fun_ok {p : List Fun} (hm : ∀ f ∈ p, mayF f = true) {f : Fun} (hf : mayF f = true) (he : ∀ x ∈ f.code, fieldI p f x = 0) : FunOk p f := by
  obtain ⟨h1, h2, h3, h4⟩ := (mayF_iff f).1 hf
  refine ⟨by omega, h3, fun x hx => ?_, fun x hx => (may_node (h4 x hx)).1, fun x hx ho => ?_, fun i hi t ht => ?_⟩
  · unfold offI
    split
    · exact ar_ok hm _
    · have := (may_node (h4 x hx)).2.1
      omega
  · exact ⟨(may_node (h4 x hx)).2.2, ((fields_ok (he x hx)).2.2.1 ho).2⟩
  · have hx : f.code[i] ∈ f.code := List.getElem_mem hi
    have hn := (may_node (h4 _ hx)).2.2
    have hj := (fields_ok (he _ hx)).2.2.2
    generalize f.code[i] = x at *
    unfold nextI at ht
    split at ht
    · simp only [List.mem_singleton] at ht
      subst ht
      have := hj (.inl (by assumption))
      omega
    · split at ht
      · simp at ht
      · split at ht
        · simp only [List.mem_cons, List.not_mem_nil, or_false] at ht
          have := hj (.inr (by assumption))
          omega
        · simp only [List.mem_singleton] at ht
          omega
theorem grF_at {p : List Fun} {c : List (Int × Int × Int)} {i : Nat} (hi : i < c.length) : grF p c i = nodeI p c[i] i := by
  unfold grF
  rw [List.getElem?_eq_getElem hi]
theorem FunOk.fine {p : List Fun} {f : Fun} (h : FunOk p f) : Fine (grF p f.code) f.code.length := fun i hi => by
  rw [grF_at hi]
  exact ⟨(h.on _ (List.getElem_mem hi)).1, fun t ht => (h.next i hi t ht).1⟩
end Go.Proofs.YtjibkgildfjjoaaGreatDoor

/- Layer 5's code: seeds, at every input. -/
namespace Go.Proofs.YtjibkgildfjjoaaGreatDoor
set_option linter.unusedVariables false
set_option linter.unusedSimpArgs false
open Go.RowKit Go.ChangeShapes Go.WideShapes Go.ChangeAt Gm Sdm

/-- Whether a number is a seed. -/
def isZ (n : Int) : Bool := decide (0 ≤ n) && decide (n ≤ 4294967295)
def start (s n : Nat) : Nat := s ^^^ mulF ((n + 1) % 4294967296) 2654435761
end Go.Proofs.YtjibkgildfjjoaaGreatDoor

/- Layer 9, plain: frames, and what an instruction does with one. -/
namespace Go.Proofs.YtjibkgildfjjoaaGreatDoor
set_option linter.unusedVariables false
set_option linter.unusedSimpArgs false
open Gm Go Go.RowKit

/-- What an instruction asks for. -/
structure ActP where
  kd : Int
  fn : Int
  sl : Int
  sd : Int
  ar : List V
def act0 : ActP := ⟨0, 0, 0, 0, []⟩
def actK (k : Int) : ActP := ⟨k, 0, 0, 0, []⟩
def slt0 : Slt := ⟨0, 0, 0, 0, 0, 0⟩
def hasI (n : Nat) (i : Int) : Bool := decide (0 ≤ i) && decide (i < n)
def topF (f : Frm) : V := f.stk.getD (f.stk.length - 1) (0, 0)
def lowF (f : Frm) : V := f.stk.getD (f.stk.length - 2) (0, 0)
def newF (p : List Fun) (fn : Int) (args : List V) (s : Int) : Frm × Bool :=
  if mayP p = true ∧ hasI p.length fn = true ∧ isZ s = true then
    (match p[fn.toNat]? with
      | some g => if g.ar ≤ g.lo ∧ g.ar = args.length ∧ (args.all fun v => mayB v.1 v.2) = true
          then (⟨fn, 0, [], args ++ List.replicate (g.lo.toNat - args.length) (0, 0), List.replicate g.sl.toNat slt0, s, 0, 0, 0, 0, 0, 0, 0, -1, 0, 0⟩, true) else (frm0, false)
      | none => (frm0, false))
  else (frm0, false)

/-- What an instruction leaves as it is. -/
structure Keeps (f g : Frm) (k : Int) : Prop where
  fn : g.fn = f.fn
  seed : g.seed = f.seed
  uat : g.uat = f.uat
  ugn : g.ugn = f.ugn
  usl : g.usl = f.usl
  loc : g.loc.length = f.loc.length
  slt : g.slt.length = f.slt.length
  spn : g.spn = f.spn ∨ (k = 2 ∧ g.spn = wrap64 (f.spn + 1))
  drw : g.drw = f.drw ∨ g.drw = wrap64 (f.drw + 1)
theorem Keeps.refl (f : Frm) (k : Int) : Keeps f f k := ⟨rfl, rfl, rfl, rfl, rfl, rfl, rfl, .inl rfl, .inl rfl⟩
end Go.Proofs.YtjibkgildfjjoaaGreatDoor

/- Layer 9, plain: lengths, and ends that are given in whatever order. -/
namespace Go.Proofs.YtjibkgildfjjoaaGreatDoor
set_option linter.unusedVariables false
set_option linter.unusedSimpArgs false
open Gm Go Go.RowKit

end Go.Proofs.YtjibkgildfjjoaaGreatDoor

/- Layer 5: the document's own answers: seeds, at every input. -/
namespace Go.Proofs.YtjibkgildfjjoaaGreatDoor
set_option linter.unusedVariables false
set_option linter.unusedSimpArgs false
open Go.RowKit Go.ChangeShapes Go.WideShapes Go.ChangeAt Gm Sdm

set_option maxHeartbeats 1000000 in
theorem is_any (n : Int) (w : World) : Calls Tryz.prog 48 #[.int .i64 n] w fun e w' => e = .returned (.bool (isZ n)) ∧ w = w' := by
  have hm : isZ n = (decide (0 ≤ n) && decide (n ≤ 4294967295)) := rfl
  have HM := Lib.hid hm
  clear hm
  go_enter Tryz.func48, Tryz.ntmps48
  go_wp2_with fail
  all_goals
    go_ret
    rw [HM.out]
    refine ⟨ret_bool ?_, rfl⟩
    rw [Bool.eq_iff_iff]
    simp
    omega
end Go.Proofs.YtjibkgildfjjoaaGreatDoor

/- Layer 7, plain: lines cut as the program cuts them, and numbers as it reads them. -/
namespace Go.Proofs.YtjibkgildfjjoaaGreatDoor
set_option linter.unusedVariables false
set_option linter.unusedSimpArgs false
open Go

theorem joinC_len (c : UInt8) : ∀ (ws : List (List UInt8)), ws.length ≤ (joinC c ws).length + 1
  | [] => by simp
  | [w] => by simp
  | w :: v :: ws => by
    have := joinC_len c (v :: ws)
    rw [joinC, List.length_append, List.length_cons, List.length_cons, List.length_cons]
    rw [List.length_cons] at this
    omega

def lineC (x : List UInt8 × List Int) : Option PLine :=
  if x.1 = funcW then (if x.2.length = 3 ∧ headB (x.2.getD 0 0) (x.2.getD 1 0) (x.2.getD 2 0) = true then some (.head (x.2.getD 0 0) (x.2.getD 1 0) (x.2.getD 2 0)) else none)
  else if mayZ (rfnd ⟨x.1.toArray⟩) (x.2.getD 0 0) (x.2.getD 1 0) = true ∧ (x.2.length : Int) = (rz (rfnd ⟨x.1.toArray⟩)).f then some (.ins (rfnd ⟨x.1.toArray⟩) (x.2.getD 0 0) (x.2.getD 1 0)) else none
end Go.Proofs.YtjibkgildfjjoaaGreatDoor

/- Layer 7, plain: what a line more makes of a program. -/
namespace Go.Proofs.YtjibkgildfjjoaaGreatDoor
set_option linter.unusedVariables false
set_option linter.unusedSimpArgs false
open Go

/-- What a line more makes of a program. -/
def addQ (p : List Fun) (l : List UInt8) : Option (List Fun) := (lineOf l).bind (layL p)
theorem lineC_head {w0 : List UInt8} {ns : List Int} (hw : w0 = funcW) : lineC (w0, ns) = if ns.length = 3 ∧ headB (ns.getD 0 0) (ns.getD 1 0) (ns.getD 2 0) = true then some (.head (ns.getD 0 0) (ns.getD 1 0) (ns.getD 2 0)) else none := by
  unfold lineC
  simp only
  rw [if_pos hw]
theorem lineC_ins {w0 : List UInt8} {ns : List Int} (hw : w0 ≠ funcW) : lineC (w0, ns) = if mayZ (rfnd ⟨w0.toArray⟩) (ns.getD 0 0) (ns.getD 1 0) = true ∧ (ns.length : Int) = (rz (rfnd ⟨w0.toArray⟩)).f then some (.ins (rfnd ⟨w0.toArray⟩) (ns.getD 0 0) (ns.getD 1 0)) else none := by
  unfold lineC
  simp only
  rw [if_neg hw]
/-- A program is nothing, or has a last function. -/
theorem own_split {α : Type} (L : List α) : L = [] ∨ ∃ L0 x, L = L0 ++ [x] := by
  rcases List.eq_nil_or_concat L with h | ⟨L0, x, h⟩
  · exact .inl h
  · exact .inr ⟨L0, x, by simpa using h⟩
theorem layH_no {p : List Fun} {a l s : Int} (h : openR p = false ∨ p.length = 16) : layH p a l s = none := by
  unfold layH
  rw [if_neg]
  rintro ⟨h1, h2⟩
  rcases h with h | h
  · rw [h] at h1; cases h1
  · exact h2 h
theorem openR_snoc (p : List Fun) (f : Fun) : openR (p ++ [f]) = !f.code.isEmpty := by
  unfold openR
  rw [List.getLast?_concat]
theorem layI_snoc (p : List Fun) (f : Fun) (o a b : Int) : layI (p ++ [f]) o a b = if f.code.length = 200 then none else some (p ++ [⟨f.ar, f.lo, f.sl, f.code ++ [(o, a, b)]⟩]) := by
  unfold layI
  rw [List.getLast?_concat, List.dropLast_concat]

theorem lay_small {p q : List Fun} {x : PLine} (h : layL p x = some q) (hp : p.length ≤ 16) (hc : ∀ f ∈ p, f.code.length ≤ 200) : q.length ≤ 16 ∧ ∀ f ∈ q, f.code.length ≤ 200 := by
  cases x with
  | head a l s =>
    have h' : layH p a l s = some q := h
    unfold layH at h'
    split at h'
    · rename_i hcnd
      cases h'
      refine ⟨by rw [List.length_append, List.length_singleton]; omega, fun f hf => ?_⟩
      rcases List.mem_append.1 hf with hf | hf
      · exact hc f hf
      · simp only [List.mem_singleton] at hf
        subst hf
        simp
    · cases h'
  | ins o a b =>
    have h' : layI p o a b = some q := h
    rcases own_split p with rfl | ⟨p0, f, rfl⟩
    · cases h'
    · rw [layI_snoc] at h'
      split at h'
      · cases h'
      · rename_i h2
        cases h'
        have hf2 := hc f (by simp)
        refine ⟨by simpa using hp, fun g hg => ?_⟩
        rcases List.mem_append.1 hg with hg | hg
        · exact hc g (by simp [hg])
        · simp only [List.mem_singleton] at hg
          subst hg
          simp only [List.length_append, List.length_singleton]
          omega
theorem addQ_small {p q : List Fun} {l : List UInt8} (h : addQ p l = some q) (hp : p.length ≤ 16) (hc : ∀ f ∈ p, f.code.length ≤ 200) : q.length ≤ 16 ∧ ∀ f ∈ q, f.code.length ≤ 200 := by
  unfold addQ at h
  cases hx : lineOf l with
  | none => rw [hx] at h; cases h
  | some x => rw [hx] at h; exact lay_small h hp hc
end Go.Proofs.YtjibkgildfjjoaaGreatDoor

