/- Layer 13, plain: a new world, part by part; what WorldNew meets. -/
import Derived.Test.YtjibkgildfjjoaaDoorzZn
namespace Go.Proofs.YtjibkgildfjjoaaDoor
set_option linter.unusedVariables false
set_option linter.unusedSimpArgs false
open Go.RowKit Go.ChangeShapes Go.WideShapes Go.ChangeAt Go.Sort

structure NewF (p : List Fun) (args : List V) (s lf lm lr : Int) (kn : Nat) (N : Wld) (F : Frm) : Prop where
  k1 : 1 ≤ kn
  k2 : kn ≤ 64
  lr1 : 1 ≤ lr
  lr2 : lr ≤ 1024
  hf : (newF p 0 args s).1 = F
  elf : N.lf = lf
  elm : N.lm = lm
  elr : N.lr = lr
  pen : N.pen = ⟨[⟨0, true, F⟩], [], lm⟩
  may : okZ N.pen = true
  rings : N.rings = List.replicate kn (rng1 lr)
  cur : N.cur = (0, 0) :: List.replicate (kn - 1) noV
  root : N.root = (0, 0)
  used : N.used = 0
  st : N.st = 0
  stl : N.stl = 0
  mis : N.mis = 0
  uat : F.uat = -1
  ugn : F.ugn = 0
theorem items_rng1 (t : Int) : itemsR (rng1 t) = [] := by
  unfold itemsR
  split <;> rfl
theorem readyN_new (lr : Int) (kn : Nat) : ∀ m, m ≤ kn → 1 ≤ m → readyN (List.replicate kn (rng1 lr)) ((0, 0) :: List.replicate (kn - 1) noV) m = [(0, 0)]
  | 0, _, h => absurd h (by omega)
  | 1, h, _ => by
    rw [readyN_at (by rw [List.length_replicate]; omega)]
    simp only [List.getElem_replicate, items_rng1, readyN]
    rfl
  | m + 2, h, _ => by
    rw [readyN_at (by rw [List.length_replicate]; omega), readyN_new lr kn (m + 1) (by omega) (by omega)]
    simp only [List.getElem_replicate, items_rng1]
    have : ((0, 0) :: List.replicate (kn - 1) noV).getD (m + 1) noV = noV := by
      rw [List.getD_eq_getElem?_getD, List.getElem?_cons_succ]
      by_cases h9 : m < kn - 1
      · rw [List.getElem?_eq_getElem (by rw [List.length_replicate]; exact h9), List.getElem_replicate, Option.getD_some]
      · rw [List.getElem?_eq_none (by rw [List.length_replicate]; omega), Option.getD_none]
    rw [this]
    simp [curL]
theorem NewF.ready {p : List Fun} {args : List V} {s lf lm lr : Int} {kn : Nat} {N : Wld} {F : Frm} (h : NewF p args s lf lm lr kn N F) : readyW N = [(0, 0)] := by
  unfold readyW
  rw [h.rings, h.cur, List.length_replicate]
  exact readyN_new lr kn kn (Nat.le_refl _) h.k1
theorem NewF.cj {p : List Fun} {args : List V} {s lf lm lr : Int} {kn : Nat} {N : Wld} {F : Frm} (h : NewF p args s lf lm lr kn N F) {j : Nat} (hj : j < N.cur.length) : decide (N.cur[j] = noV) = decide ((0 : Int) < (j : Int)) := by
  have e : N.cur[j] = ((0, 0) :: List.replicate (kn - 1) noV)[j]'(by rw [← h.cur]; exact hj) := by simp only [h.cur]
  rw [e]
  cases j with
  | zero => simp [noV]
  | succ m =>
    rw [List.getElem_cons_succ, List.getElem_replicate]
    have : (0 : Int) < ((m + 1 : Nat) : Int) := by omega
    simp [this]
theorem NewF.rj {p : List Fun} {args : List V} {s lf lm lr : Int} {kn : Nat} {N : Wld} {F : Frm} (h : NewF p args s lf lm lr kn N F) {j : Nat} (hj : j < N.rings.length) : N.rings[j] = rng1 lr := by
  have e : N.rings[j] = (List.replicate kn (rng1 lr))[j]'(by rw [← h.rings]; exact hj) := by simp only [h.rings]
  rw [e, List.getElem_replicate]
theorem may1_c {lr : Int} (h1 : 1 ≤ lr) (h2 : lr ≤ 1024) (A : Option Addr) (c : Nat) (W : World) :
    Calls Tryd.prog 14 #[rgv A 1 c 0 0 lr] W fun e w' => e = .returned (.bool true) ∧ Below W.heap.size W w' := by
  have h := (rmayr_any A 1 c 0 0 lr).go W
  rw [show mayN 1 0 0 lr = true by unfold mayN; simp; omega] at h
  exact h
end Go.Proofs.YtjibkgildfjjoaaDoor

