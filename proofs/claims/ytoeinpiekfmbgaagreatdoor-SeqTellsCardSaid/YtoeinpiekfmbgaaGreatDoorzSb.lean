/- Layer 10, plain: tasks, each child run to its end at once. -/
import Derived.Test.YtoeinpiekfmbgaaGreatDoorzFrq
import Derived.Test.YtoeinpiekfmbgaaGreatDoorzHa
import Derived.Test.YtoeinpiekfmbgaaGreatDoorzHf
import Derived.Deep.MidRow
import Derived.Deep.RegionHeld3
namespace Go.Proofs.YtoeinpiekfmbgaaGreatDoor
set_option linter.unusedVariables false
set_option linter.unusedSimpArgs false
open Gm Go Go.RowKit

/-- How a task ends: a trap, a value. -/
abbrev OutP := Int × V
def zeroO : OutP := (0, (0, 0))
/-- A task under way, and the slot of the task behind it in the list that takes its end. -/
abbrev Tsk := Frm × Int
def outF (f : Frm) : OutP := ((finF f).1, (finF f).2.1)
def giveO (f : Frm) (sl : Int) (o : OutP) : Frm := (giveF f sl o.1 o.2).1
def kidF (p : List Fun) (a : ActP) : Frm := (newF p a.fn a.ar a.sd).1
/-- The end of the first task is given to the one behind it. -/
def backT (sl : Int) (o : OutP) : List Tsk → List Tsk
  | [] => []
  | (g, s) :: ts => (giveO g sl o, s) :: ts
/-- An instruction of the first task. -/
def stepT (p : List Fun) : List Tsk → List Tsk ⊕ OutP
  | [] => .inr zeroO
  | (f, sl) :: ts =>
    if (doF p f).2.kd = 2 then .inl ((kidF p (doF p f).2, (doF p f).2.sl) :: ((doF p f).1, sl) :: ts)
    else if (doF p f).2.kd = 4 then
      (match ts with
        | [] => .inr (outF (doF p f).1)
        | t :: us => .inl (backT sl (outF (doF p f).1) (t :: us)))
    else .inl (((doF p f).1, sl) :: ts)
/-- How it ends, and how much fuel is left. -/
def runT (p : List Fun) : Nat → List Tsk → Option (OutP × Nat)
  | 0, _ => none
  | n + 1, ts => match stepT p ts with
    | .inl us => runT p n us
    | .inr o => some (o, n)
theorem runT_inl {p : List Fun} {n : Nat} {ts us : List Tsk} (h : stepT p ts = .inl us) : runT p (n + 1) ts = runT p n us := by
  simp only [runT, h]
theorem runT_inr {p : List Fun} {n : Nat} {ts : List Tsk} {o : OutP} (h : stepT p ts = .inr o) : runT p (n + 1) ts = some (o, n) := by
  simp only [runT, h]
theorem runT_left {p : List Fun} : ∀ {n : Nat} {ts : List Tsk} {o : OutP} {m : Nat}, runT p n ts = some (o, m) → m < n
  | 0, _, _, _, h => by cases h
  | n + 1, ts, o, m, h => by
    cases hs : stepT p ts with
    | inl us => rw [runT_inl hs] at h; have := runT_left h; omega
    | inr x => rw [runT_inr hs] at h; cases h; omega
/-- Whoever waits behind the tasks. -/
theorem runT_behind {p : List Fun} : ∀ (n : Nat) (us : List Tsk) (f : Frm) (sl : Int) (t : Tsk) (ts : List Tsk),
    runT p n (us ++ (f, sl) :: t :: ts) = (match runT p n (us ++ [(f, 0)]) with | none => none | some (o, m) => runT p m (backT sl o (t :: ts)))
  | 0, _, _, _, _, _ => rfl
  | n + 1, [], f, sl, t, ts => by
    rw [List.nil_append, List.nil_append]
    by_cases h2 : (doF p f).2.kd = 2
    · have e1 : stepT p ((f, sl) :: t :: ts) = .inl ([(kidF p (doF p f).2, (doF p f).2.sl)] ++ ((doF p f).1, sl) :: t :: ts) := by simp only [stepT]; rw [if_pos h2]; rfl
      have e2 : stepT p [(f, 0)] = .inl ([(kidF p (doF p f).2, (doF p f).2.sl)] ++ [((doF p f).1, 0)]) := by simp only [stepT]; rw [if_pos h2]; rfl
      rw [runT_inl e1, runT_inl e2]
      exact runT_behind n _ _ sl t ts
    · by_cases h4 : (doF p f).2.kd = 4
      · have e1 : stepT p ((f, sl) :: t :: ts) = .inl (backT sl (outF (doF p f).1) (t :: ts)) := by simp only [stepT]; rw [if_neg h2, if_pos h4]
        have e2 : stepT p [(f, 0)] = .inr (outF (doF p f).1) := by simp only [stepT]; rw [if_neg h2, if_pos h4]
        rw [runT_inl e1, runT_inr e2]
      · have e1 : stepT p ((f, sl) :: t :: ts) = .inl ([] ++ ((doF p f).1, sl) :: t :: ts) := by simp only [stepT]; rw [if_neg h2, if_neg h4]; rfl
        have e2 : stepT p [(f, 0)] = .inl ([] ++ [((doF p f).1, 0)]) := by simp only [stepT]; rw [if_neg h2, if_neg h4]; rfl
        rw [runT_inl e1, runT_inl e2]
        exact runT_behind n _ _ sl t ts
  | n + 1, (g, sg) :: us, f, sl, t, ts => by
    rw [List.cons_append, List.cons_append]
    by_cases h2 : (doF p g).2.kd = 2
    · have e : ∀ r, stepT p ((g, sg) :: r) = .inl ([(kidF p (doF p g).2, (doF p g).2.sl)] ++ ((doF p g).1, sg) :: r) := fun r => by simp only [stepT]; rw [if_pos h2]; rfl
      rw [runT_inl (e _), runT_inl (e _)]
      exact runT_behind n ((kidF p (doF p g).2, (doF p g).2.sl) :: ((doF p g).1, sg) :: us) f sl t ts
    · by_cases h4 : (doF p g).2.kd = 4
      · cases us with
        | nil =>
          have e1 : stepT p ((g, sg) :: ([] ++ (f, sl) :: t :: ts)) = .inl ([] ++ (giveO f sg (outF (doF p g).1), sl) :: t :: ts) := by simp only [stepT, List.nil_append]; rw [if_neg h2, if_pos h4]; rfl
          have e2 : stepT p ((g, sg) :: ([] ++ [(f, 0)])) = .inl ([] ++ [(giveO f sg (outF (doF p g).1), 0)]) := by simp only [stepT, List.nil_append]; rw [if_neg h2, if_pos h4]; rfl
          rw [runT_inl e1, runT_inl e2]
          exact runT_behind n [] _ sl t ts
        | cons u us =>
          obtain ⟨uf, us'⟩ := u
          have e : ∀ r, stepT p ((g, sg) :: ((uf, us') :: us ++ r)) = .inl (((giveO uf sg (outF (doF p g).1), us') :: us) ++ r) := fun r => by simp only [stepT, List.cons_append]; rw [if_neg h2, if_pos h4]; rfl
          rw [runT_inl (e _), runT_inl (e _)]
          exact runT_behind n _ f sl t ts
      · have e : ∀ r, stepT p ((g, sg) :: r) = .inl (((doF p g).1, sg) :: r) := fun r => by simp only [stepT]; rw [if_neg h2, if_neg h4]
        rw [runT_inl (e _), runT_inl (e _)]
        exact runT_behind n (((doF p g).1, sg) :: us) f sl t ts

/-- How a program ends, and how many instructions it takes, and the error. -/
def evalP (p : List Fun) (args : List V) (s fuel : Int) : OutP × Int × Int :=
  if (checkP p).2.2 ≠ 0 ∨ fuel < 1 ∨ 100000 < fuel ∨ (newF p 0 args s).2 = false then (zeroO, 0, 1)
  else match runT p fuel.toNat [((newF p 0 args s).1, 0)] with
    | none => (zeroO, 0, 100)
    | some (o, m) => (o, fuel - m, 0)
/-- It begins. -/
def canP (p : List Fun) (args : List V) (s fuel : Int) : Prop := (checkP p).2.2 = 0 ∧ 1 ≤ fuel ∧ fuel ≤ 100000 ∧ (newF p 0 args s).2 = true
theorem evalP_no {p : List Fun} {args : List V} {s fuel : Int} (h : ¬ canP p args s fuel) : evalP p args s fuel = (zeroO, 0, 1) := by
  unfold evalP
  rw [if_pos]
  unfold canP at h
  by_cases h1 : (checkP p).2.2 = 0
  · by_cases h2 : (newF p 0 args s).2 = true
    · have : fuel < 1 ∨ 100000 < fuel := by
        rcases Int.lt_or_le fuel 1 with h3 | h3
        · exact .inl h3
        · rcases Int.lt_or_le 100000 fuel with h4 | h4
          · exact .inr h4
          · exact absurd ⟨h1, h3, h4, h2⟩ h
      rcases this with h3 | h3
      · exact .inr (.inl h3)
      · exact .inr (.inr (.inl h3))
    · exact .inr (.inr (.inr (by simpa using h2)))
  · exact .inl h1
theorem evalP_can {p : List Fun} {args : List V} {s fuel : Int} (h : canP p args s fuel) : evalP p args s fuel = (match runT p fuel.toNat [((newF p 0 args s).1, 0)] with | none => (zeroO, 0, 100) | some (o, m) => (o, fuel - m, 0)) := by
  unfold evalP
  rw [if_neg]
  rintro (e | e | e | e)
  · exact e h.1
  · have := h.2.1; omega
  · have := h.2.2.1; omega
  · rw [h.2.2.2] at e; cases e

/-- Lengths of what an instruction leaves. -/
theorem exec_stk {p : List Fun} {f : Frm} {x : Int × Int × Int} (hm : mayZ x.1 x.2.1 x.2.2 = true) (ho : 0 ≤ offI p x ∧ offI p x ≤ f.stk.length) :
    (execF p f x).1.stk.length ≤ f.stk.length ∨ (0 < (rz x.1).q ∧ ((execF p f x).1.stk.length : Int) ≤ f.stk.length - offI p x + (rz x.1).q) := by
  obtain ⟨k, hk17, hx⟩ := may_in hm
  have hr := rz_in hk17
  rw [← hx] at hr
  have hp := p_of k hk17
  have hq := q_of k hk17
  unfold offI at ho ⊢
  rw [hr] at ho ⊢
  unfold execF
  by_cases h16 : x.1 = 16
  · rw [if_pos h16]; exact .inl (Nat.le_refl _)
  rw [if_neg h16]
  by_cases h15 : x.1 = 15
  · rw [if_pos h15]; left; simp [endF, popF]
  rw [if_neg h15]
  by_cases h13 : x.1 = 13
  · rw [if_pos h13]
    unfold spawnF
    split
    · exact .inl (Nat.le_refl _)
    · left; simp
  rw [if_neg h13]
  rw [if_neg h13] at ho ⊢
  by_cases h14 : x.1 = 14
  · rw [if_pos h14]
    have p0 : (orow k).p = 0 := by rw [hp, if_neg (by omega), if_neg (by omega)]
    have q0 : (orow k).q = 1 := by rw [hq, if_neg (by omega), if_pos (by omega)]
    unfold joinF
    split
    · exact .inl (Nat.le_refl _)
    · split
      · split
        · exact .inl (Nat.le_refl _)
        · right; rw [p0, q0]; simp [goF, pushF]
      · exact .inl (Nat.le_refl _)
  rw [if_neg h14]
  by_cases hc : x.1 = 3 ∨ x.1 = 4 ∨ x.1 = 5 ∨ x.1 = 6
  · rw [if_pos hc]
    have p0 : (orow k).p = 2 := by rw [hp, if_pos (by omega)]
    have q0 : (orow k).q = 1 := by rw [hq, if_neg (by omega), if_pos (by omega)]
    rw [p0] at ho
    unfold compF
    split
    · right; rw [p0, q0]; simp [goF, pushF, popF]; omega
    · exact .inl (Nat.le_refl _)
  rw [if_neg hc]
  by_cases h10 : x.1 = 10
  · rw [if_pos h10]; exact .inl (Nat.le_refl _)
  rw [if_neg h10]
  by_cases h11 : x.1 = 11
  · rw [if_pos h11]
    left
    split
    · simp [goF, popF]
    · simp [goF, popF]
  rw [if_neg h11]
  show (moveF f x).stk.length ≤ _ ∨ (_ ∧ ((moveF f x).stk.length : Int) ≤ _)
  unfold moveF
  by_cases g0 : x.1 = 0
  · rw [if_pos g0]
    have p0 : (orow k).p = 0 := by rw [hp, if_neg (by omega), if_neg (by omega)]
    have q0 : (orow k).q = 1 := by rw [hq, if_neg (by omega), if_pos (by omega)]
    right; rw [p0, q0]; simp [pushF]
  rw [if_neg g0]
  by_cases g1 : x.1 = 1
  · rw [if_pos g1]
    have p0 : (orow k).p = 0 := by rw [hp, if_neg (by omega), if_neg (by omega)]
    have q0 : (orow k).q = 1 := by rw [hq, if_neg (by omega), if_pos (by omega)]
    right; rw [p0, q0]; simp [pushF]
  rw [if_neg g1]
  by_cases g2 : x.1 = 2
  · rw [if_pos g2]; left; simp [popF]
  rw [if_neg g2]
  by_cases g7 : x.1 = 7
  · rw [if_pos g7]
    have p0 : (orow k).p = 1 := by rw [hp, if_neg (by omega), if_pos (by omega)]
    have q0 : (orow k).q = 1 := by rw [hq, if_neg (by omega), if_pos (by omega)]
    rw [p0] at ho
    right; rw [p0, q0]; simp [pushF, popF]; omega
  rw [if_neg g7]
  by_cases g8 : x.1 = 8
  · rw [if_pos g8]
    have p0 : (orow k).p = 1 := by rw [hp, if_neg (by omega), if_pos (by omega)]
    have q0 : (orow k).q = 2 := by rw [hq, if_pos (by omega)]
    rw [p0] at ho
    right; rw [p0, q0]; simp [pushF, popF]; omega
  rw [if_neg g8]
  by_cases g9 : x.1 = 9
  · rw [if_pos g9]; left; simp [popF]
  rw [if_neg g9]
  by_cases g12 : x.1 = 12
  · rw [if_pos g12]
    have p0 : (orow k).p = 0 := by rw [hp, if_neg (by omega), if_neg (by omega)]
    have q0 : (orow k).q = 1 := by rw [hq, if_neg (by omega), if_pos (by omega)]
    right; rw [p0, q0]; simp [pushF]
  rw [if_neg g12]
  exact .inl (Nat.le_refl _)
theorem do_stk {p : List Fun} {f : Frm} (h : f.stk.length ≤ 16) : (doF p f).1.stk.length ≤ 16 ∧ (doF p f).2.ar.length ≤ 16 := by
  refine ⟨?_, Nat.le_trans (do_len p f).2 h⟩
  unfold doF
  split
  · exact h
  · unfold runF
    split
    · exact h
    · split
      · exact h
      · rename_i hf hd
        have hf0 : (fetchF p f).2 = 0 := by simpa using hf
        have hm : mayZ (fetchF p f).1.1 (fetchF p f).1.2.1 (fetchF p f).1.2.2 = true := by
          unfold fetchF at hf0 ⊢
          split at hf0
          · rw [if_pos ‹_›]
            split at hf0
            · rename_i _ h2
              rw [if_pos h2]; exact h2.1
            · simp at hf0
          · simp at hf0
        have hd0 : depthF p f (fetchF p f).1 = 0 := by simpa using hd
        unfold depthF at hd0
        split at hd0
        · simp at hd0
        · rename_i h3
          split at hd0
          · simp at hd0
          · rename_i h4
            have hx := exec_stk hm (p := p) (f := f) (by omega)
            have hxl : (execF p f (fetchF p f).1).1.stk.length ≤ 16 := by
              rcases hx with hx | hx
              · omega
              · by_cases hq : 16 < (f.stk.length : Int) - offI p (fetchF p f).1 + (rz (fetchF p f).1.1).q
                · exact absurd ⟨hx.1, hq⟩ h4
                · omega
            split
            · exact hxl
            · exact hxl
/-- Frames of bounded lengths. -/
structure Bnd (f : Frm) : Prop where
  stk : f.stk.length ≤ 16
  loc : f.loc.length ≤ 1000
  slt : f.slt.length ≤ 1000
theorem Bnd.do {p : List Fun} {f : Frm} (h : Bnd f) : Bnd (doF p f).1 ∧ (doF p f).2.ar.length ≤ 16 := by
  have k := (do_keeps p f).1
  exact ⟨⟨(do_stk h.stk).1, by rw [k.loc]; exact h.loc, by rw [k.slt]; exact h.slt⟩, (do_stk h.stk).2⟩
theorem Bnd.give {f : Frm} (h : Bnd f) (sl t : Int) (v : V) : Bnd (giveF f sl t v).1 := by
  unfold giveF
  split
  · split
    · exact ⟨h.stk, h.loc, by simpa using h.slt⟩
    · exact ⟨h.stk, h.loc, by simpa using h.slt⟩
  · exact h
theorem new_bnd (p : List Fun) (fn : Int) (args : List V) (s : Int) : Bnd (newF p fn args s).1 := by
  have h0 : Bnd frm0 := ⟨by simp [frm0], by simp [frm0], by simp [frm0]⟩
  unfold newF
  split
  · rename_i hm
    split
    · rename_i g hg
      split
      · rename_i ha
        have hmf := ((mayP_iff p).1 hm.1).2.2 g (List.mem_of_getElem? hg)
        have hhd : headB g.ar g.lo g.sl = true := by
          unfold mayF at hmf
          simp at hmf
          exact hmf.1.1
        obtain ⟨⟨a0, a1⟩, ⟨b0, b1⟩, c0, c1⟩ := (headB_iff _ _ _).1 hhd
        refine ⟨by simp, ?_, ?_⟩
        · simp only [List.length_append, List.length_replicate]; omega
        · simp only [List.length_replicate]; omega
      · exact h0
    · exact h0
  · exact h0
end Go.Proofs.YtoeinpiekfmbgaaGreatDoor

/- Layer 10: the run in memory: its tasks. -/
namespace Go.Proofs.YtoeinpiekfmbgaaGreatDoor
set_option linter.unusedVariables false
set_option linter.unusedSimpArgs false
open Gm Go.RowKit Go.ChangeShapes Go.WideShapes Go.ChangeAt Go.Sort

/-- No block is turned but runs' and tasks'. -/
structure KT (w w' : World) : Prop where
  size : w.heap.size ≤ w'.heap.size
  keep : ∀ (k : Nat) (o : Array Value) (t : TypeId) (fr : Nat × Nat), w.heap[k]? = some (.cells o t fr) → t ≠ 50 → t ≠ 119 → w'.heap[k]? = w.heap[k]?
theorem KT.refl (w : World) : KT w w := ⟨Nat.le_refl _, fun _ _ _ _ _ _ _ => rfl⟩
theorem KT.trans {u v w : World} (h : KT u v) (h2 : KT v w) : KT u w := ⟨Nat.le_trans h.size h2.size, fun k o t fr e n1 n2 => by
  have e1 := h.keep k o t fr e n1 n2
  exact (h2.keep k o t fr (e1.trans e) n1 n2).trans e1⟩
theorem heap_lt {w : World} {k : Nat} {x : Obj} (h : w.heap[k]? = some x) : k < w.heap.size := (Array.getElem?_eq_some_iff.1 h).1
theorem KT.of_below {w w' : World} (h : Below w.heap.size w w') : KT w w' := ⟨h.size, fun k _ _ _ e _ _ => h.block k (heap_lt e)⟩
theorem KT.cell {w : World} {g : Nat} {t : TypeId} {cs : Array Value} {fr : Nat × Nat} (hg : w.heap[g]? = some (.cells cs t fr)) (ht : t = 50 ∨ t = 119) (i : Nat) (x : Value) : KT w (w.setCell ⟨g, i, none⟩ x) :=
  ⟨by simp [World.setCell], fun k o t' fr' e n1 n2 => Below.heap_setCell w ⟨g, i, none⟩ x k (by
    show k ≠ g
    rintro rfl
    rw [hg] at e
    simp only [Option.some.injEq, Obj.cells.injEq] at e
    rcases ht with h | h
    · exact n1 (e.2.1.symm.trans h)
    · exact n2 (e.2.1.symm.trans h))⟩
theorem heap_setCells (g : Nat) : ∀ (vs : List Value) (o : Nat) (w : World) (k : Nat), k ≠ g → (w.setCells g o vs).heap[k]? = w.heap[k]?
  | [], _, _, _, _ => rfl
  | v :: r, o, w, k, h => by
    rw [World.setCells, heap_setCells g r (o + 1) _ k h]
    exact Below.heap_setCell w ⟨g, o, none⟩ v k h
theorem size_setCells' (g : Nat) : ∀ (vs : List Value) (o : Nat) (w : World), (w.setCells g o vs).heap.size = w.heap.size
  | [], _, _ => rfl
  | v :: r, o, w => by rw [World.setCells, size_setCells' g r (o + 1)]; simp [World.setCell]
theorem KT.cells {w : World} {g : Nat} {t : TypeId} {cs : Array Value} {fr : Nat × Nat} (hg : w.heap[g]? = some (.cells cs t fr)) (ht : t = 50 ∨ t = 119) (i : Nat) (xs : List Value) : KT w (w.setCells g i xs) :=
  ⟨by rw [size_setCells']; exact Nat.le_refl _, fun k o t' fr' e n1 n2 => heap_setCells g xs i w k (by
    rintro rfl
    rw [hg] at e
    simp only [Option.some.injEq, Obj.cells.injEq] at e
    rcases ht with h | h
    · exact n1 (e.2.1.symm.trans h)
    · exact n2 (e.2.1.symm.trans h))⟩
theorem KT.grown {w w' : World} {g : Option Nat} (h : w.grownBy w' g) (hg : ∀ (k : Nat) (o : Array Value) (t : TypeId) (fr : Nat × Nat), g = some k → w.heap[k]? = some (.cells o t fr) → t = 119) : KT w w' :=
  ⟨h.size, fun k o t fr e _ n2 => h.block k (heap_lt e) (fun e2 => n2 (hg k o t fr e2.symm e))⟩
theorem Held.kt {w w' : World} {g : Nat} {t : TypeId} {cs : Array Value} (h : Held w g t cs) (hk : KT w w') (h1 : t ≠ 50) (h2 : t ≠ 119) : Held w' g t cs := (hk.keep g _ _ _ h h1 h2).trans h
theorem row_kt {w w' : World} {B n size : Nat} {e : TypeId} {v : Value} {xs : List Value} (h : w.ownsRow B e size v n xs) (hk : KT w w') (h1 : e ≠ 50) (h2 : e ≠ 119) : w'.ownsRow B e size v n xs := by
  refine row_same h fun g e2 => ?_
  rcases h.2 with ⟨rfl, _⟩ | ⟨g', cap, cur, rfl, _, hh, _⟩
  · simp [Value.ownBlock] at e2
  · simp only [Value.ownBlock, Option.some.injEq] at e2
    subst e2
    exact hk.keep _ _ _ _ hh h1 h2
theorem tyVr : 30 ≠ 50 := by decide
theorem tyVt : 30 ≠ 119 := by decide
theorem tySr : 75 ≠ 50 := by decide
theorem tySt : 75 ≠ 119 := by decide
theorem tyFt : 45 ≠ 119 := by decide
theorem tyAr : 77 ≠ 50 := by decide
theorem tyAt : 77 ≠ 119 := by decide
theorem tyOr : 32 ≠ 50 := by decide
theorem tyOt : 32 ≠ 119 := by decide
theorem tyrt : 50 ≠ 119 := by decide
theorem OwnF.kt {w w' : World} {B : Nat} {v : Value} {F : Frm} (h : OwnF w B v F) (hk : KT w w') : OwnF w' B v F := by
  obtain ⟨s, l, o, rfl, h1, h2, h3⟩ := h
  exact ⟨s, l, o, rfl, row_kt h1 hk tyVr tyVt, row_kt h2 hk tyVr tyVt, row_kt h3 hk tySr tySt⟩
theorem ActO.kt {w w' : World} {B : Nat} {v : Value} {a : ActP} (h : ActO w B v a) (hk : KT w w') : ActO w' B v a := by
  obtain ⟨A, c, rfl, h1⟩ := h
  exact ⟨A, c, rfl, row_kt h1 hk tyVr tyVt⟩

theorem below_cells {B : Nat} {a : World} (b : Nat) (hb : B ≤ b) : ∀ (vs : List Value) (o : Nat) {w : World}, Below B a w → Below B a (w.setCells b o vs)
  | [], _, _, h => h
  | v :: r, o, _, h => below_cells b hb r (o + 1) (h.setCell (p := ⟨b, o, none⟩) hb v)
theorem Bnd.len {f : Frm} (h : Bnd f) : FrmLen f := ⟨Nat.le_trans h.stk (by decide), h.loc, h.slt⟩
/-- A task: its frame's cells, its frame, its slot. -/
structure TskC where
  cs : Array Value
  f : Frm
  sl : Int
def TskC.t (x : TskC) : Tsk := (x.f, x.sl)
def flatT (l : List TskC) : List Value := l.flatMap fun x => x.cs.toList ++ [.int .i64 x.sl]
structure TskOk (w : World) (x : TskC) : Prop where
  own : OwnF w 0 (.agg x.cs) x.f
  fc : FC x.cs x.f
  bnd : Bnd x.f
theorem TskOk.kt {w w' : World} {x : TskC} (h : TskOk w x) (hk : KT w w') : TskOk w' x := ⟨h.own.kt hk, h.fc, h.bnd⟩
theorem flatT_append (l k : List TskC) : flatT (l ++ k) = flatT l ++ flatT k := by simp [flatT]
theorem flatT_one (x : TskC) : flatT [x] = x.cs.toList ++ [.int .i64 x.sl] := by simp [flatT]
theorem flatT_len : ∀ {l : List TskC}, (∀ x ∈ l, x.cs.size = 16) → (flatT l).length = l.length * 17
  | [], _ => rfl
  | x :: l, h => by
    have ih := flatT_len (l := l) fun y hy => h y (by simp [hy])
    have hx := h x (by simp)
    rw [show x :: l = [x] ++ l from rfl, flatT_append, flatT_one, List.length_append, ih]
    simp [hx]
    omega
/-- The run at block r: its program, its fuel, how much of it is used, its tasks. -/
structure RunS (w : World) (B r : Nat) (pv : Value) (fuel used : Int) (v : Value) (l : List TskC) : Prop where
  blk : Held w r 50 #[pv, .int .i64 fuel, .int .i64 used, v]
  ler : B ≤ r
  row : w.ownsRow B 119 17 v l.length (flatT l)
  ok : ∀ x ∈ l, TskOk w x
/-- What a method leaves as it is. -/
structure KS (B : Nat) (w w' : World) : Prop where
  below : Below B w w'
  kt : KT w w'
theorem KS.refl (B : Nat) (w : World) : KS B w w := ⟨Below.refl _ _, KT.refl _⟩
theorem KS.trans {B : Nat} {u v w : World} (h : KS B u v) (h2 : KS B v w) : KS B u w := ⟨h.below.trans h2.below, h.kt.trans h2.kt⟩
theorem KS.of {B : Nat} {w w' : World} (h : Below w.heap.size w w') (hB : B ≤ w.heap.size) : KS B w w' := ⟨h.mono hB, KT.of_below h⟩
section
variable {w w' : World} {B r : Nat} {pv v : Value} {fuel used : Int} {l : List TskC}
theorem RunS.rlt (h : RunS w B r pv fuel used v l) : r < w.heap.size := h.blk.lt
theorem RunS.below (h : RunS w B r pv fuel used v l) (hb : Below w.heap.size w w') : RunS w' B r pv fuel used v l :=
  ⟨h.blk.below hb, h.ler, row_same h.row fun g e => hb.block g (h.row.lt g e).2, fun x hx => (h.ok x hx).kt (KT.of_below hb)⟩
theorem RunS.vr (h : RunS w B r pv fuel used v l) : v.ownBlock ≠ some r := fun e => row_apart h.row h.blk tyrt r e rfl
theorem RunS.sz (h : RunS w B r pv fuel used v l) : ∀ x ∈ l, x.cs.size = 16 := fun x hx => (h.ok x hx).fc.size
theorem RunS.slice (h : RunS w B r pv fuel used v l) : ∃ A c, v = .slice A l.length c := by
  rcases h.row.2 with ⟨rfl, h0⟩ | ⟨g, cap, cur, rfl, _⟩
  · exact ⟨none, 0, by rw [h0]⟩
  · exact ⟨_, _, rfl⟩
/-- How much is used. -/
theorem RunS.use (h : RunS w B r pv fuel used v l) (n : Int) : RunS (w.setCell ⟨r, 2, none⟩ (.int .i64 n)) B r pv fuel n v l := by
  have hx : ∀ g, g ≠ r → (w.setCell ⟨r, 2, none⟩ (.int .i64 n)).heap[g]? = w.heap[g]? := fun g hg => Below.heap_setCell w ⟨r, 2, none⟩ _ g hg
  exact ⟨by have := h.blk.set_at 2 (.int .i64 n); exact this, h.ler, row_same h.row fun g e => hx g (row_apart h.row h.blk tyrt g e), fun x hx2 => (h.ok x hx2).kt (KT.cell h.blk (.inl rfl) _ _)⟩
/-- The last task. -/
theorem RunS.last {l0 : List TskC} {x : TskC} (h : RunS w B r pv fuel used v (l0 ++ [x])) :
    ∃ g cap, v = .slice (some ⟨g, 0, none⟩) (l0.length + 1) cap ∧ l0.length + 1 ≤ cap ∧ cap ≤ maxLen ∧ B ≤ g ∧ g < w.heap.size ∧ g ≠ r ∧ w.rangeAt g (l0.length * 17) (x.cs.toList ++ [.int .i64 x.sl]) ∧ w.there g (l0.length * 17) 17 ∧
      ∃ cur, w.heap[g]? = some (.cells cur 119 (0, 0)) := by
  have hl := flatT_len (l := l0) fun y hy => h.sz y (by simp [hy])
  have hx := h.sz x (by simp)
  rcases h.row.2 with ⟨_, h0⟩ | ⟨g, cap, cur, rfl, hb, hg, hnc, hcm, hcs, ht⟩
  · simp at h0
  · rw [List.length_append, List.length_singleton] at hnc ht ⊢
    have hgr : g ≠ r := by rintro rfl; exact h.vr rfl
    have hat : ∀ j u, (x.cs.toList ++ [Value.int .i64 x.sl])[j]? = some u → cur[l0.length * 17 + j]? = some u := fun j u hj => by
      have hjl := (List.getElem?_eq_some_iff.1 hj).1
      simp [hx] at hjl
      have e1 : (cur.toList.take ((l0.length + 1) * 17))[l0.length * 17 + j]? = cur.toList[l0.length * 17 + j]? := List.getElem?_take_of_lt (by omega)
      rw [ht, flatT_append, flatT_one, List.getElem?_append_right (by omega), hl, Nat.add_sub_cancel_left] at e1
      simpa using (e1.symm.trans hj)
    refine ⟨g, cap, rfl, hnc, hcm, hb, heap_lt hg, hgr, fun j u hj => ?_, fun j hj => ⟨?_, ?_⟩, cur, hg⟩
    · rw [cell_of_row w g _ cur 119 (0, 0) hg]; exact hat j u hj
    · rw [cell_of_row w g _ cur 119 (0, 0) hg, Array.getElem?_eq_getElem (by omega)]; rfl
    · exact fz_at hg _
/-- The last task's frame is another one. -/
def setsAt : List Value → Nat → List Value → List Value
  | l, _, [] => l
  | l, o, v :: r => setsAt (l.set o v) (o + 1) r
theorem setsAt_mid : ∀ (vs a b c : List Value), b.length = vs.length → setsAt (a ++ b ++ c) a.length vs = a ++ vs ++ c
  | [], a, b, c, h => by
    have : b = [] := List.eq_nil_of_length_eq_zero h
    subst this; rfl
  | v :: r, a, [], c, h => by simp at h
  | v :: r, a, y :: b, c, h => by
    have ih := setsAt_mid r (a ++ [v]) b c (by simpa using h)
    rw [setsAt]
    have e : (a ++ y :: b ++ c).set a.length v = a ++ [v] ++ b ++ c := by simp
    rw [e]
    simp only [List.length_append, List.length_singleton] at ih
    rw [ih]
    simp
theorem stored_many {base size n g cap : Nat} {e : TypeId} : ∀ (vs xs : List Value) (o : Nat) {w : World}, w.ownsRow base e size (.slice (some ⟨g, 0, none⟩) n cap) n xs → (w.setCells g o vs).ownsRow base e size (.slice (some ⟨g, 0, none⟩) n cap) n (setsAt xs o vs)
  | [], _, _, _, h => h
  | v :: r, xs, o, w, h => by
    rw [World.setCells, setsAt]
    exact stored_many (w := w.setCell ⟨g, o, none⟩ v) r _ (o + 1) (h.stored o v).1
theorem RunS.setF {l0 : List TskC} {x : TskC} {g cap : Nat} (h : RunS w B r pv fuel used (.slice (some ⟨g, 0, none⟩) (l0.length + 1) cap) (l0 ++ [x])) {cs : Array Value} {F : Frm} (hy : TskOk w ⟨cs, F, x.sl⟩) :
    RunS (w.setCells g (l0.length * 17) cs.toList) B r pv fuel used (.slice (some ⟨g, 0, none⟩) (l0.length + 1) cap) (l0 ++ [⟨cs, F, x.sl⟩]) ∧ KS B w (w.setCells g (l0.length * 17) cs.toList) := by
  obtain ⟨g', cap', e, _, _, hB, hgl, hgr, _, _, cur, hg⟩ := h.last
  simp only [Value.slice.injEq, Option.some.injEq, Addr.mk.injEq, and_true, true_and] at e
  obtain ⟨rfl, rfl⟩ := e
  have hl := flatT_len (l := l0) fun y hy => h.sz y (by simp [hy])
  have hk : KT w (w.setCells g (l0.length * 17) cs.toList) := KT.cells hg (.inr rfl) _ _
  have hr := h.row
  rw [List.length_append, List.length_singleton] at hr
  have hs := stored_many (w := w) cs.toList _ (l0.length * 17) hr
  refine ⟨⟨(heap_setCells g _ _ w r (Ne.symm hgr)).trans h.blk, h.ler, ?_, fun y hy2 => ?_⟩, ⟨?_, hk⟩⟩
  · have e1 : flatT (l0 ++ [x]) = flatT l0 ++ x.cs.toList ++ [.int .i64 x.sl] := by rw [flatT_append, flatT_one, List.append_assoc]
    have e2 : flatT (l0 ++ [⟨cs, F, x.sl⟩]) = flatT l0 ++ cs.toList ++ [.int .i64 x.sl] := by rw [flatT_append, flatT_one, List.append_assoc]
    rw [List.length_append, List.length_singleton, e2, ← setsAt_mid cs.toList (flatT l0) x.cs.toList [.int .i64 x.sl] (by have h1 := h.sz x (by simp); have h2 : cs.size = 16 := hy.fc.size; simp [h1, h2]), ← e1, hl]
    exact hs
  · rcases List.mem_append.1 hy2 with h2 | h2
    · exact (h.ok y (by simp [h2])).kt hk
    · rw [List.mem_singleton] at h2
      subst h2
      exact hy.kt hk
  · exact below_cells _ hB _ _ (Below.refl _ _)
/-- The last one is taken away. -/
theorem RunS.cut {l0 : List TskC} {x : TskC} {g cap : Nat} (h : RunS w B r pv fuel used (.slice (some ⟨g, 0, none⟩) (l0.length + 1) cap) (l0 ++ [x])) :
    RunS (w.setCell ⟨r, 3, none⟩ (.slice (some ⟨g, 0, none⟩) l0.length cap)) B r pv fuel used (.slice (some ⟨g, 0, none⟩) l0.length cap) l0 ∧ KS B w (w.setCell ⟨r, 3, none⟩ (.slice (some ⟨g, 0, none⟩) l0.length cap)) := by
  have hl := flatT_len (l := l0) fun y hy => h.sz y (by simp [hy])
  have hk : KT w (w.setCell ⟨r, 3, none⟩ (.slice (some ⟨g, 0, none⟩) l0.length cap)) := KT.cell h.blk (.inl rfl) _ _
  refine ⟨⟨by have := h.blk.set_at 3 (.slice (some ⟨g, 0, none⟩) l0.length cap); exact this, h.ler, ?_, fun y hy => (h.ok y (by simp [hy])).kt hk⟩, ⟨Below.setCell (p := ⟨r, 3, none⟩) (Below.refl _ _) h.ler _, hk⟩⟩
  have hgr : g ≠ r := by rintro rfl; exact h.vr rfl
  refine row_same ?_ fun g' e => Below.heap_setCell w ⟨r, 3, none⟩ _ g' (by simp [Value.ownBlock] at e; subst e; exact hgr)
  rcases h.row.2 with ⟨e, _⟩ | ⟨g', cap', cur, e, hb, hg, hnc, hcm, hcs, ht⟩
  · simp at e
  · simp only [Value.slice.injEq, Option.some.injEq, Addr.mk.injEq, and_true, true_and] at e
    obtain ⟨rfl, _, rfl⟩ := e
    rw [List.length_append, List.length_singleton] at hnc ht
    refine ⟨by rw [hl], .inr ⟨g, cap, cur, rfl, hb, hg, by omega, hcm, hcs, ?_⟩⟩
    have e2 : cur.toList.take (l0.length * 17) = (cur.toList.take ((l0.length + 1) * 17)).take (l0.length * 17) := by rw [List.take_take, Nat.min_eq_left (by omega)]
    rw [e2, ht, flatT_append, List.take_left' hl]
end
end Go.Proofs.YtoeinpiekfmbgaaGreatDoor

/- Drawn regions, way by way: the steps. -/
namespace Go.Proofs.YtoeinpiekfmbgaaGreatDoor
set_option linter.unusedVariables false
set_option linter.unusedSimpArgs false
open Gm Go.RowKit Go.ChangeShapes Go.WideShapes Go.ChangeAt Go.Sort

/-- A variable that is made. -/
theorem wp_alloc_arr {P : Program} {w : World} {o : Oper} {a : Act} {K : Act → World → Prop} {Q : Exit → Act → World → Prop} (t : TypeId) (ho : o.op = .alloc t) (c : Array Value)
    (hz : (P.info? t).map (·.zero) = some (some (.agg c))) (h : K (a.put o.dst (.pointer (some ⟨w.heap.size, 0, none⟩))) (w.alloc (.cells c t))) : o.wp P a w K Q := by
  cases hq : P.info? t with
  | none => simp [hq] at hz
  | some i =>
    simp [hq] at hz
    have hrun : (Instr.alloc t true (.tuple #[])).run P w = .ok (.pointer (some ⟨w.heap.size, 0, none⟩)) (w.alloc (.cells c t)) := by
      simp [Instr.alloc, zeroValue, typeInfo, hq, hz, newVar, newRow, Value.cells]
    unfold Oper.wp execOp
    simp only [ho, Sem.run_bind, hrun, Result.andThen_ok]
    exact h
theorem size_alloc1 (w : World) (o : Obj) : (w.alloc o).heap.size = w.heap.size + 1 := by simp
theorem below_rowz {W u : World} (hb : Below W.heap.size W u) {g : Nat} (hg : W.heap.size ≤ g) (cs : Array Value) : Below W.heap.size W (u.setRow g cs) := below_row hb hg cs
theorem OwnF.alloc {w : World} {B : Nat} {v : Value} {F : Frm} (h : OwnF w B v F) (o : Obj) : OwnF (w.alloc o) B v F := h.below ((Below.refl _ _).alloc (Nat.le_refl _) _)
theorem ActO.alloc {w : World} {B : Nat} {v : Value} {a : ActP} (h : ActO w B v a) (o : Obj) : ActO (w.alloc o) B v a := h.below ((Below.refl _ _).alloc (Nat.le_refl _) _)
theorem below_allocz {W u : World} (hb : Below W.heap.size W u) (o : Obj) : Below W.heap.size W (u.alloc o) := hb.alloc hb.size o
/-- A frame and an act, stored in variables that were made. -/
theorem stored_two {W1 u : World} {g4 g5 : Nat} {cs' cs2 z4 z5 : Array Value} {F : Frm} {a : ActP} (f4 : Held u g4 45 z4) (f5 : Held u g5 77 z5) (ho : OwnF u 0 (.agg cs') F) (ha : ActO u 0 (.agg cs2) a)
    (hb : Below W1.heap.size W1 u) (l4 : W1.heap.size ≤ g4) (l5 : W1.heap.size ≤ g5) :
    Held ((u.setRow g4 cs').setRow g5 cs2) g4 45 cs' ∧ OwnF ((u.setRow g4 cs').setRow g5 cs2) 0 (.agg cs') F ∧ Held ((u.setRow g4 cs').setRow g5 cs2) g5 77 cs2 ∧ ActO ((u.setRow g4 cs').setRow g5 cs2) 0 (.agg cs2) a ∧ Below W1.heap.size W1 ((u.setRow g4 cs').setRow g5 cs2) := by
  have hne : g4 ≠ g5 := held_ne f4 f5 (by decide)
  have f5' := f5.row (Ne.symm hne) cs'
  have k1 : KB u (u.setRow g4 cs') g4 := (KB.of_below (Below.refl _ _) g4).row cs'
  have k2 : KB (u.setRow g4 cs') ((u.setRow g4 cs').setRow g5 cs2) g5 := (KB.of_below (Below.refl _ _) g5).row cs2
  exact ⟨(f4.rowSelf cs').row hne cs2, (ho.kb f4 tyFV tyFS k1).kb f5' tyAV tyAS k2, f5'.rowSelf cs2, (ha.kb f4 tyFV k1).kb f5' tyAV k2, below_row (below_row hb l4 _) l5 _⟩
/-- A row out of the middle of a block. -/
theorem wpList_load_midA {P : Program} {ops : Array Oper} {rest : List Oper} {op : Oper} {a : Act} {w : World} {Q : Exit → Act → World → Prop} (hgd : op.guard = none) (ty : TypeId) (x : Operand) (ho : op.op = .load ty x)
    (b o : Nat) (hx : a.eval x = .pointer (some ⟨b, o, none⟩)) (cs : Array Value) (d : TypeDesc) (hc : w.rangeAt b o cs.toList)
    (hu : P.underlying ty = some d) (hd : d.isRow = true) (hi : (P.info? ty).map (·.size) = some cs.size)
    (h : wpList P ops Q rest (a.put op.dst (.agg cs)) w) : wpList P ops Q (op :: rest) a w :=
  wpList_load_mid hgd ty x ho b o hx cs.toList d hc hu hd (by rw [hi]; simp) (by simpa using h)
theorem yieldsIf_load_midA {P : Program} {ops : Array Oper} {S : World → Prop} {op : Oper} {a : Act} (hw : Region.wanted op (yielded ops a.tmps) = true) (ty : TypeId) (x : Operand) (ho : op.op = .load ty x)
    (b o : Nat) (hx : a.eval x = .pointer (some ⟨b, o, none⟩)) (cs : Array Value) (d : TypeDesc) (hS : ∀ w, S w → w.rangeAt b o cs.toList)
    (hu : P.underlying ty = some d) (hd : d.isRow = true) (hi : (P.info? ty).map (·.size) = some cs.size) : YieldsIf P ops S op (.agg cs) a := by
  have := yieldsIf_load_mid (P := P) (ops := ops) (S := S) hw ty x ho b o hx cs.toList d hS hu hd (by rw [hi]; simp)
  simpa using this
theorem wp_load_midA {P : Program} {op : Oper} {a : Act} {w : World} {K : Act → World → Prop} {Q : Exit → Act → World → Prop} (ty : TypeId) (x : Operand) (ho : op.op = .load ty x)
    (b o : Nat) (hx : a.eval x = .pointer (some ⟨b, o, none⟩)) (cs : Array Value) (d : TypeDesc) (hc : w.rangeAt b o cs.toList)
    (hu : P.underlying ty = some d) (hd : d.isRow = true) (hi : (P.info? ty).map (·.size) = some cs.size)
    (h : K (a.put op.dst (.agg cs)) w) : op.wp P a w K Q :=
  wp_load_mid ty x ho b o hx cs.toList d hc hu hd (by rw [hi]; simp) (by simpa using h)
theorem rangeAt_pre {w : World} {b o : Nat} {l k : List Value} (h : w.rangeAt b o (l ++ k)) : w.rangeAt b o l := fun j v hj => h j v (by
  have := (List.getElem?_eq_some_iff.1 hj).1
  rw [List.getElem?_append_left this]; exact hj)
theorem rangeAt_keep {w W : World} {b o : Nat} {l : List Value} (h : w.rangeAt b o l) (hb : W.heap[b]? = w.heap[b]?) : W.rangeAt b o l := fun j v hj => (World.cell?_of_block (a := ⟨b, o + j, none⟩) hb).trans (h j v hj)
theorem rangeAt_held {w : World} {b : Nat} {t : TypeId} {cs : Array Value} (h : Held w b t cs) : w.rangeAt b 0 cs.toList := fun j v hj => by
  rw [Nat.zero_add]
  exact (h.cell j).trans (by simpa using hj)
end Go.Proofs.YtoeinpiekfmbgaaGreatDoor

/- Layer 10, plain: the programs whose ends the document fixes. -/
namespace Go.Proofs.YtoeinpiekfmbgaaGreatDoor
set_option linter.unusedVariables false
set_option linter.unusedSimpArgs false
open Gm Go Go.RowKit

def pa10 : List Fun := [⟨1, 1, 2, [(1, 0, 0), (13, 1, 0), (1, 0, 0), (13, 1, 1), (14, 0, 0), (14, 1, 0), (4, 0, 0), (15, 0, 0)]⟩, ⟨1, 1, 0, [(1, 0, 0), (1, 0, 0), (5, 0, 0), (15, 0, 0)]⟩]
def pb10 : List Fun := [⟨0, 0, 2, [(13, 1, 1), (13, 1, 0), (0, 1, 0), (15, 0, 0)]⟩, ⟨0, 0, 0, [(16, 20, 0)]⟩]
def ta10 : List UInt8 := [102, 117, 110, 99, 32, 49, 32, 49, 32, 50, 10, 108, 111, 97, 100, 32, 48, 10, 115, 112, 97, 119, 110, 32, 49, 32, 48, 10, 108, 111, 97, 100, 32, 48, 10, 115, 112, 97, 119, 110, 32, 49, 32, 49, 10, 106, 111, 105, 110, 32, 48, 10, 106, 111, 105, 110, 32, 49, 10, 115, 117, 98, 10, 114, 101, 116, 10, 102, 117, 110, 99, 32, 49, 32, 49, 32, 48, 10, 108, 111, 97, 100, 32, 48, 10, 108, 111, 97, 100, 32, 48, 10, 109, 117, 108, 10, 114, 101, 116, 10]
def tb10 : List UInt8 := [102, 117, 110, 99, 32, 48, 32, 48, 32, 50, 10, 115, 112, 97, 119, 110, 32, 49, 32, 49, 10, 115, 112, 97, 119, 110, 32, 49, 32, 48, 10, 112, 117, 115, 104, 32, 49, 32, 48, 10, 114, 101, 116, 10, 102, 117, 110, 99, 32, 48, 32, 48, 32, 48, 10, 116, 114, 97, 112, 32, 50, 48, 10]
theorem pa10_of : (parseP ta10).1 = pa10 := by kernel_rfl
theorem pb10_of : (parseP tb10).1 = pb10 := by kernel_rfl
theorem ev10a : evalP pa10 [(3, 1)] 1 100 = ((0, (0, 0)), 16, 0) := by kernel_rfl
theorem ev10b : evalP pa10 [(3, 0)] 1 15 = ((0, (0, 0)), 0, 100) := by kernel_rfl
theorem ev10c : evalP pa10 [] 1 100 = ((0, (0, 0)), 0, 1) := by kernel_rfl
theorem ev10d : evalP pb10 [] 1 6 = ((20, (0, 0)), 6, 0) := by kernel_rfl
end Go.Proofs.YtoeinpiekfmbgaaGreatDoor

/- Layer 10, plain: fuel; seeds. -/
namespace Go.Proofs.YtoeinpiekfmbgaaGreatDoor
set_option linter.unusedVariables false
set_option linter.unusedSimpArgs false
open Gm Go Go.RowKit

theorem useZ_is (s u k : Int) : isZ (useZ s u k) = true := by
  have := useZ_bd s u k
  simp [isZ]; omega
theorem fetch_mem {p : List Fun} {f : Frm} (h : (fetchF p f).2 = 0) : (∃ g ∈ p, (fetchF p f).1 ∈ g.code) ∧ mayZ (fetchF p f).1.1 (fetchF p f).1.2.1 (fetchF p f).1.2.2 = true ∧ knowsF p f (fetchF p f).1 = true := by
  unfold fetchF at h ⊢
  split at h
  · rename_i h1
    rw [if_pos h1]
    split at h
    · rename_i h2
      rw [if_pos h2]
      refine ⟨?_, h2.1, h2.2⟩
      unfold codeP at h1 ⊢
      cases hg : p[f.fn.toNat]? with
      | none => rw [hg] at h1; simp [hasI] at h1; omega
      | some g =>
        rw [hg] at h1
        simp only at h1 ⊢
        refine ⟨g, List.mem_of_getElem? hg, ?_⟩
        simp [hasI] at h1
        rw [List.getD_eq_getElem?_getD, List.getElem?_eq_getElem (by omega)]
        exact List.getElem_mem _
    · simp at h
  · simp at h
end Go.Proofs.YtoeinpiekfmbgaaGreatDoor

