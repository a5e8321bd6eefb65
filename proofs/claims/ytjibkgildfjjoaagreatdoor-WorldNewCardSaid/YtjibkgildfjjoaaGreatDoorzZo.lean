/- Layer 13, plain: a new world, part by part; what WorldNew meets. -/
import Derived.Test.YtjibkgildfjjoaaGreatDoorzZn
namespace Go.Proofs.YtjibkgildfjjoaaGreatDoor
set_option linter.unusedVariables false
set_option linter.unusedSimpArgs false
open Go.RowKit Go.ChangeShapes Go.WideShapes Go.ChangeAt Go.Sort

structure NewF (p : List Fun) (args : List V) (s lf lm lr : Int) (kn : Nat) (N : Wld) (F : Frm) : Prop where
  k1 : 1 ≤ kn
  k2 : kn ≤ 64
  lr1 : 1 ≤ lr
  lr2 : lr ≤ 1024
  hf : (newF p 0 args s).1 = F
  elf : N.lf = lf
  elm : N.lm = lm
  elr : N.lr = lr
  pen : N.pen = ⟨[⟨0, true, F⟩], [], lm⟩
  may : okZ N.pen = true
  rings : N.rings = List.replicate kn (rng1 lr)
  cur : N.cur = (0, 0) :: List.replicate (kn - 1) noV
  root : N.root = (0, 0)
  used : N.used = 0
  st : N.st = 0
  stl : N.stl = 0
  mis : N.mis = 0
  uat : F.uat = -1
  ugn : F.ugn = 0
theorem newF_up {p : List Fun} {args : List V} {s : Int} (h : (newF p 0 args s).2 = true) : (newF p 0 args s).1.uat = -1 ∧ (newF p 0 args s).1.ugn = 0 := by
  unfold newF at h ⊢
  split at h
  case isFalse => cases h
  case isTrue h1 =>
    rw [if_pos h1]
    cases hg : p[(0 : Int).toNat]? with
    | none => rw [hg] at h; cases h
    | some g =>
      rw [hg] at h
      simp only at h ⊢
      split at h
      case isFalse => cases h
      case isTrue h2 => rw [if_pos h2]; exact ⟨rfl, rfl⟩
theorem new_parts {p : List Fun} {args : List V} {s k lf lm lr : Int} {N : Wld} {x : Int} (hR : newW p args s k lf lm lr = (N, x)) (hm : mayW p args s k lf lm lr = true) : x = 0 ∧ ∃ kn : Nat, k = kn ∧ NewF p args s lf lm lr kn N (newF p 0 args s).1 := by
  have hm9 := hm
  unfold mayW at hm9
  simp only [Bool.and_eq_true, decide_eq_true_eq] at hm9
  obtain ⟨⟨⟨⟨-, h2⟩, h3⟩, h4⟩, -⟩ := hm9
  have hk := (mayFr_iff _ _).1 h4
  unfold newW at hR
  rw [if_pos hm] at hR
  have hN := (Prod.mk.inj hR).1
  have hu := newF_up h2
  refine ⟨(Prod.mk.inj hR).2.symm, k.toNat, by omega, ?_⟩
  rw [← hN]
  refine ⟨by omega, by omega, hk.2.1, hk.2.2, rfl, rfl, rfl, rfl, rfl, ?_, rfl, rfl, rfl, rfl, rfl, rfl, rfl, hu.1, hu.2⟩
  refine (okZ_iff _).2 ⟨⟨h3.1, h3.2, by simp; omega⟩, by simp, by simp, fun i hi => ?_, fun i hi => ?_⟩
  · obtain rfl : i = 0 := by simpa using hi
    simp
  · obtain rfl : i = 0 := by simpa using hi
    simp
theorem NewF.get {p : List Fun} {args : List V} {s lf lm lr : Int} {kn : Nat} {N : Wld} {F : Frm} (h : NewF p args s lf lm lr kn N F) : getZ N.pen N.root = (F, true) := by
  unfold getZ
  rw [if_pos ⟨h.may, has_at.2 ⟨0, F, by rw [h.root]; rfl, by rw [h.pen, h.root]; rfl⟩⟩, h.pen, h.root]
  rfl
theorem NewF.refs {p : List Fun} {args : List V} {s lf lm lr : Int} {kn : Nat} {N : Wld} {F : Frm} (h : NewF p args s lf lm lr kn N F) : refsZ N.pen = [(0, 0)] := by
  unfold refsZ
  rw [if_pos h.may, h.pen]
  rfl
theorem items_rng1 (t : Int) : itemsR (rng1 t) = [] := by
  unfold itemsR
  split <;> rfl
theorem readyN_new (lr : Int) (kn : Nat) : ∀ m, m ≤ kn → 1 ≤ m → readyN (List.replicate kn (rng1 lr)) ((0, 0) :: List.replicate (kn - 1) noV) m = [(0, 0)]
  | 0, _, h => absurd h (by omega)
  | 1, h, _ => by
    rw [readyN_at (by rw [List.length_replicate]; omega)]
    simp only [List.getElem_replicate, items_rng1, readyN]
    rfl
  | m + 2, h, _ => by
    rw [readyN_at (by rw [List.length_replicate]; omega), readyN_new lr kn (m + 1) (by omega) (by omega)]
    simp only [List.getElem_replicate, items_rng1]
    have : ((0, 0) :: List.replicate (kn - 1) noV).getD (m + 1) noV = noV := by
      rw [List.getD_eq_getElem?_getD, List.getElem?_cons_succ]
      by_cases h9 : m < kn - 1
      · rw [List.getElem?_eq_getElem (by rw [List.length_replicate]; exact h9), List.getElem_replicate, Option.getD_some]
      · rw [List.getElem?_eq_none (by rw [List.length_replicate]; omega), Option.getD_none]
    rw [this]
    simp [curL]
theorem NewF.ready {p : List Fun} {args : List V} {s lf lm lr : Int} {kn : Nat} {N : Wld} {F : Frm} (h : NewF p args s lf lm lr kn N F) : readyW N = [(0, 0)] := by
  unfold readyW
  rw [h.rings, h.cur, List.length_replicate]
  exact readyN_new lr kn kn (Nat.le_refl _) h.k1
theorem NewF.cj {p : List Fun} {args : List V} {s lf lm lr : Int} {kn : Nat} {N : Wld} {F : Frm} (h : NewF p args s lf lm lr kn N F) {j : Nat} (hj : j < N.cur.length) : decide (N.cur[j] = noV) = decide ((0 : Int) < (j : Int)) := by
  have e : N.cur[j] = ((0, 0) :: List.replicate (kn - 1) noV)[j]'(by rw [← h.cur]; exact hj) := by simp only [h.cur]
  rw [e]
  cases j with
  | zero => simp [noV]
  | succ m =>
    rw [List.getElem_cons_succ, List.getElem_replicate]
    have : (0 : Int) < ((m + 1 : Nat) : Int) := by omega
    simp [this]
theorem NewF.lens {p : List Fun} {args : List V} {s lf lm lr : Int} {kn : Nat} {N : Wld} {F : Frm} (h : NewF p args s lf lm lr kn N F) : N.rings.length = kn ∧ N.cur.length = kn := by
  rw [h.rings, h.cur, List.length_replicate, List.length_cons, List.length_replicate]
  have := h.k1
  omega
theorem NewF.rj {p : List Fun} {args : List V} {s lf lm lr : Int} {kn : Nat} {N : Wld} {F : Frm} (h : NewF p args s lf lm lr kn N F) {j : Nat} (hj : j < N.rings.length) : N.rings[j] = rng1 lr := by
  have e : N.rings[j] = (List.replicate kn (rng1 lr))[j]'(by rw [← h.rings]; exact hj) := by simp only [h.rings]
  rw [e, List.getElem_replicate]
theorem items1_c (lr : Int) (c : Nat) (W : World) {A : Option Addr} (hp : PAt W W.heap.size A (rng1 lr).buf) :
    Calls Tryz.prog 20 #[rgv A 1 c 0 0 lr] W fun e w' => ∃ A c, e = .returned (.slice A 0 c) ∧ Below W.heap.size W w' := by
  have h := ritems_any (r := rng1 lr) c W hp (Nat.le_refl _)
  rw [items_rng1] at h
  exact h.mono fun _ _ ⟨A, c, a, _, b⟩ => ⟨A, c, a, b⟩
theorem may1_c {lr : Int} (h1 : 1 ≤ lr) (h2 : lr ≤ 1024) (A : Option Addr) (c : Nat) (W : World) :
    Calls Tryz.prog 21 #[rgv A 1 c 0 0 lr] W fun e w' => e = .returned (.bool true) ∧ Below W.heap.size W w' := by
  have h := (rmayr_any A 1 c 0 0 lr).go W
  rw [show mayN 1 0 0 lr = true by unfold mayN; simp; omega] at h
  exact h
theorem refs1_c {P : Zp} (hR : refsZ P = [(0, 0)]) (hl : LenZ P) (c c2 : Nat) (W : World) {A A2 : Option Addr} (hp : PAtZ W W.heap.size A A2 P) :
    Calls Tryz.prog 25 #[pv A P.cells.length c A2 P.free.length c2 P.most] W fun e w' => ∃ A' c', e = .returned (.slice A' 1 c') ∧ Below W.heap.size W w' :=
  (rrefsp_c hR hl c c2 W hp).mono fun _ _ ⟨A, c, a, _, b⟩ => ⟨A, c, a, b⟩
theorem ready1_c {T : World → Prop} (C : WC T) {U : Wld} (hR : readyW U = [(0, 0)]) (hl : LenW U) (W : World) (hT : T W) {a : WA} (h : WAt W W.heap.size a U) :
    Calls Tryz.prog 15 #[.agg (wcs a U)] W fun e w' => ∃ A c, e = .returned (.slice A 1 c) ∧ Below W.heap.size W w' :=
  (readyW_c C hR hl W hT h).mono fun _ _ ⟨A, c, a, _, b⟩ => ⟨A, c, a, b⟩
theorem frm_up {w : World} {B : Nat} {ds : Array Value} {F : Frm} (h : FrmAt w B (.agg ds) F) : ds.size = 16 ∧ ds[13]? = some (.int .i64 F.uat) ∧ ds[14]? = some (.int .i64 F.ugn) := by
  obtain ⟨A1, c1, A2, c2, A3, c3, e9, -⟩ := h
  obtain rfl : ds = _ := by simpa [fv] using e9
  exact ⟨rfl, rfl, rfl⟩
end Go.Proofs.YtjibkgildfjjoaaGreatDoor

