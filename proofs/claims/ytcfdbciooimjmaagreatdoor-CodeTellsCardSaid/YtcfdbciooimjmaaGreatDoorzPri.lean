/- Layer 7: the document's instr, where it reads fields. -/
import Derived.Test.YtcfdbciooimjmaaGreatDoorzGn
import Derived.Test.YtcfdbciooimjmaaGreatDoorzPr7
import Derived.Test.YtcfdbciooimjmaaGreatDoorzKi
import Derived.Test.YtcfdbciooimjmaaGreatDoorzGb
namespace Go.Proofs.YtcfdbciooimjmaaGreatDoor
set_option linter.unusedVariables false
set_option linter.unusedSimpArgs false
open Go.RowKit Go.ChangeShapes Go.WideShapes Go.ChangeAt Go.Sort

/-- What lies ready while an instruction is read: where one reads (A), both results' blocks, the instruction (X). -/
structure Ra (w : World) (A r q X : Nat) (s : ByteArray) (i e o a b : Int) (u : World) : Prop where
  ha : Held u A 54 #[.string s, .int .i64 i, .int .i64 e]
  hr : Held u r 64 #[.int .i64 0, .int .i64 0, .int .i64 0]
  hq : Held u q 54 #[.string ⟨#[]⟩, .int .i64 0, .int .i64 0]
  hx : Held u X 64 #[.int .i64 o, .int .i64 a, .int .i64 b]
  lo : Below w.heap.size w u
  wa : w.heap.size ≤ A
  ar : A < r
  rq : r < q
  qx : q < X
theorem Ra.below {w : World} {A r q X : Nat} {s : ByteArray} {i e o a b : Int} {u u' : World} (h : Ra w A r q X s i e o a b u) (hb : Below u.heap.size u u') : Ra w A r q X s i e o a b u' :=
  ⟨h.ha.below hb, h.hr.below hb, h.hq.below hb, h.hx.below hb, h.lo.trans (hb.mono h.lo.size), h.wa, h.ar, h.rq, h.qx⟩
theorem Ra.alloc {w : World} {A r q X : Nat} {s : ByteArray} {i e o a b : Int} {u : World} (h : Ra w A r q X s i e o a b u) (ob : Obj) : Ra w A r q X s i e o a b (u.alloc ob) :=
  h.below ((Below.refl _ _).alloc (Nat.le_refl _) _)
theorem Ra.setX {w : World} {A r q X : Nat} {s : ByteArray} {i e o a b : Int} {u : World} (h : Ra w A r q X s i e o a b u) {o' a' b' : Int} (j : Nat) (v : Value) (hc : (#[Value.int .i64 o, .int .i64 a, .int .i64 b] : Array Value).setIfInBounds j v = #[.int .i64 o', .int .i64 a', .int .i64 b']) :
    Ra w A r q X s i e o' a' b' (u.setCell ⟨X, j, none⟩ v) := by
  have h0 := h.wa
  have h1 := h.ar
  have h2 := h.rq
  have h3 := h.qx
  refine ⟨h.ha.far (by omega) _ _, h.hr.far (by omega) _ _, h.hq.far (by omega) _ _, by have := h.hx.set_at j v; rwa [hc] at this, h.lo.setCell (by show w.heap.size ≤ X; omega) _, h0, h1, h2, h3⟩
theorem Ra.setA {w : World} {A r q X : Nat} {s : ByteArray} {i e o a b : Int} {u : World} (h : Ra w A r q X s i e o a b u) {i' e' : Int} (j : Nat) (v : Value) (hc : (#[Value.string s, .int .i64 i, .int .i64 e] : Array Value).setIfInBounds j v = #[.string s, .int .i64 i', .int .i64 e']) :
    Ra w A r q X s i' e' o a b (u.setCell ⟨A, j, none⟩ v) := by
  have h0 := h.wa
  have h1 := h.ar
  have h2 := h.rq
  have h3 := h.qx
  refine ⟨by have := h.ha.set_at j v; rwa [hc] at this, h.hr.far (by omega) _ _, h.hq.far (by omega) _ _, h.hx.far (by omega) _ _, h.lo.setCell h.wa _, h0, h1, h2, h3⟩
theorem Ra.lt {w : World} {A r q X : Nat} {s : ByteArray} {i e o a b : Int} {u : World} (h : Ra w A r q X s i e o a b u) : X < u.heap.size ∧ q < u.heap.size ∧ r < u.heap.size ∧ A < u.heap.size := ⟨h.hx.lt, h.hq.lt, h.hr.lt, h.ha.lt⟩
theorem Ra.cells {w : World} {A r q X : Nat} {s : ByteArray} {i e o a b : Int} {u : World} (h : Ra w A r q X s i e o a b u) :
    (u.cell? ⟨X, 0, none⟩ = some (.int .i64 o) ∧ u.cell? ⟨X, 1, none⟩ = some (.int .i64 a) ∧ u.cell? ⟨X, 2, none⟩ = some (.int .i64 b) ∧ u.frozen? ⟨X, 1, none⟩ = false ∧ u.frozen? ⟨X, 2, none⟩ = false) ∧
    u.cell? ⟨A, 0, none⟩ = some (.string s) ∧ u.cell? ⟨A, 1, none⟩ = some (.int .i64 i) ∧ u.cell? ⟨A, 2, none⟩ = some (.int .i64 e) ∧ u.frozen? ⟨A, 0, none⟩ = false ∧ u.frozen? ⟨A, 1, none⟩ = false ∧ u.frozen? ⟨A, 2, none⟩ = false :=
  ⟨⟨h.hx.cell 0, h.hx.cell 1, h.hx.cell 2, h.hx.fz 1, h.hx.fz 2⟩, h.ha.cell 0, h.ha.cell 1, h.ha.cell 2, h.ha.fz 0, h.ha.fz 1, h.ha.fz 2⟩
theorem Ra.res {w : World} {A r q X : Nat} {s : ByteArray} {i e o a b : Int} {u : World} (h : Ra w A r q X s i e o a b u) :
    (u.cell? ⟨r, 0, none⟩ = some (.int .i64 0) ∧ u.cell? ⟨r, 1, none⟩ = some (.int .i64 0) ∧ u.cell? ⟨r, 2, none⟩ = some (.int .i64 0) ∧ u.frozen? ⟨r, 0, none⟩ = false ∧ u.frozen? ⟨r, 1, none⟩ = false ∧ u.frozen? ⟨r, 2, none⟩ = false) ∧
    u.cell? ⟨q, 0, none⟩ = some (.string ⟨#[]⟩) ∧ u.cell? ⟨q, 1, none⟩ = some (.int .i64 0) ∧ u.cell? ⟨q, 2, none⟩ = some (.int .i64 0) ∧ u.frozen? ⟨q, 0, none⟩ = false ∧ u.frozen? ⟨q, 1, none⟩ = false ∧ u.frozen? ⟨q, 2, none⟩ = false :=
  ⟨⟨h.hr.cell 0, h.hr.cell 1, h.hr.cell 2, h.hr.fz 0, h.hr.fz 1, h.hr.fz 2⟩, h.hq.cell 0, h.hq.cell 1, h.hq.cell 2, h.hq.fz 0, h.hq.fz 1, h.hq.fz 2⟩

theorem held_drew {W : World} {g : Nat} {t : TypeId} {cs : Array Value} (h : Held W g t cs) : Held W.drew g t cs := h
/-- Both results are laid. -/
theorem Ra.fin {w : World} {A r q X : Nat} {s : ByteArray} {i e o a b : Int} {u : World} (h : Ra w A r q X s i e o a b u) (x y z x' y' z' : Value) :
    Held ((((((u.setCell ⟨r, 0, none⟩ x).setCell ⟨r, 1, none⟩ y).setCell ⟨r, 2, none⟩ z).setCell ⟨q, 0, none⟩ x').setCell ⟨q, 1, none⟩ y').setCell ⟨q, 2, none⟩ z').drew r 64 #[x, y, z] ∧
    Held ((((((u.setCell ⟨r, 0, none⟩ x).setCell ⟨r, 1, none⟩ y).setCell ⟨r, 2, none⟩ z).setCell ⟨q, 0, none⟩ x').setCell ⟨q, 1, none⟩ y').setCell ⟨q, 2, none⟩ z').drew q 54 #[x', y', z'] ∧
    Below w.heap.size w ((((((u.setCell ⟨r, 0, none⟩ x).setCell ⟨r, 1, none⟩ y).setCell ⟨r, 2, none⟩ z).setCell ⟨q, 0, none⟩ x').setCell ⟨q, 1, none⟩ y').setCell ⟨q, 2, none⟩ z').drew := by
  have h0 := h.wa
  have h1 := h.ar
  have h2 := h.rq
  have h3 := h.qx
  have hr : w.heap.size ≤ r := by omega
  have hq : w.heap.size ≤ q := by omega
  refine ⟨held_drew ?_, held_drew ?_, Below.drew ?_⟩
  · have e0 := ((h.hr.set_at 0 x).set_at 1 y).set_at 2 z
    have hne : r ≠ q := by omega
    have e1 := ((e0.far hne 0 x').far hne 1 y').far hne 2 z'
    exact e1
  · have hne : q ≠ r := by omega
    have e0 := ((h.hq.far hne 0 x).far hne 1 y).far hne 2 z
    have e1 := ((e0.set_at 0 x').set_at 1 y').set_at 2 z'
    exact e1
  · exact (((((h.lo.setCell hr _).setCell hr _).setCell hr _).setCell hq _).setCell hq _).setCell hq _

/-- The document's next number, from any state. -/
def nuS (a b : Int) (l : List UInt8) (i er : Int) : Int × Int × Int := ((rdS l i er).1, (rdS l i er).2.1, wE (decide (a ≤ (rdS l i er).1) && decide ((rdS l i er).1 ≤ b)) 71 (rdS l i er).2.2)
theorem sim_nu (a b : Int) : Sim (numR a b) (nuS a b) := by
  obtain ⟨s1, s2, s3⟩ := sim_num a b
  refine ⟨s1, s2, fun l i h0 h1 => ?_⟩
  obtain ⟨t1, t2⟩ := s3 l i h0 h1
  refine ⟨t1, fun n r h => ?_⟩
  obtain ⟨u1, u2, u3⟩ := t2 n r h
  refine ⟨?_, u2, u3⟩
  rw [← u1]
  have u2' : wE (decide (a ≤ (rdS l i 0).1) && decide ((rdS l i 0).1 ≤ b)) 71 (rdS l i 0).2.2 = 0 := u2
  show (rdS l i 0).1 = if wE (decide (a ≤ (rdS l i 0).1) && decide ((rdS l i 0).1 ≤ b)) 71 (rdS l i 0).2.2 ≠ 0 then 0 else (rdS l i 0).1
  rw [u2', if_neg (by simp)]
theorem pnum_all (s : ByteArray) (i er a b : Int) (hs : s.size ≤ maxLen) (hv : Vl s.data.toList i er) :
    Ct Tryz.prog 31 #[atv s i er, .int .i64 a, .int .i64 b] (.tuple #[.int .i64 (nuS a b s.data.toList i er).1, atv s (nuS a b s.data.toList i er).2.1 (nuS a b s.data.toList i er).2.2]) := by
  by_cases he : er ≠ 0
  · unfold nuS
    rw [rdS_keep he, wE_keep he]
    exact pnum_bad s i er a b he
  · have he : er = 0 := by omega
    subst he
    obtain ⟨h0, h1⟩ := hv rfl
    have G : Cs Tryz.prog 63 #[.string s, .int .i64 i] (.tuple #[.int .i64 (getL (s.data.toList.drop i.toNat) 0 0).1, .int .i64 (i + (getL (s.data.toList.drop i.toNat) 0 0).2.1), .int .i64 (getL (s.data.toList.drop i.toNat) 0 0).2.2]) := fun W => by
      have := rget_all s i W hs
      rwa [getF, if_neg (by have : s.data.toList.length = s.size := rfl; omega)] at this
    have P := pnum_get s i a b _ _ _ G
    have e : rdS s.data.toList i 0 = ((getL (s.data.toList.drop i.toNat) 0 0).1, i + (getL (s.data.toList.drop i.toNat) 0 0).2.1, (getL (s.data.toList.drop i.toNat) 0 0).2.2) := by unfold rdS; rw [if_neg (by simp)]
    unfold nuS
    rw [e]
    simp only
    generalize (getL (s.data.toList.drop i.toNat) 0 0).1 = n at *
    generalize (getL (s.data.toList.drop i.toNat) 0 0).2.2 = x at *
    have hE : numE n x a b = wE (decide (a ≤ n) && decide (n ≤ b)) 71 x := by
      unfold numE wE
      by_cases hx : x ≠ 0
      · rw [if_pos hx, if_neg (by simp [hx])]
      · rw [if_neg hx]
        have hx : x = 0 := by omega
        subst hx
        by_cases hb : n < a ∨ b < n
        · rw [if_pos hb, if_pos ⟨rfl, by simp; omega⟩]
        · rw [if_neg hb, if_neg (by simp; omega)]
    rw [hE] at P
    exact P
theorem wE_may {o n m : Int} (er : Int) (h : mayZ o n m = true → 0 ≤ n ∧ n ≤ 281474976710656) {k : Int} (hk : k = n) : wE (mayZ o n m) 71 (wE (decide (0 ≤ k) && decide (k ≤ 281474976710656)) 71 er) = wE (mayZ o n m) 71 er := by
  subst hk
  cases hm : mayZ o k m
  · unfold wE
    by_cases he : er = 0
    · subst he
      simp
    · simp [he]
  · have := h hm
    rw [show (decide (0 ≤ k) && decide (k ≤ 281474976710656)) = true by simp; omega, wE_true]

set_option maxHeartbeats 4000000 in
set_option maxRecDepth 100000 in
theorem pins_one (s : ByteArray) (k : Nat) (hk : k < s.size) (hs : s.size ≤ maxLen) (hc : s[k].toNat ≤ 16) (n j e : Int) (m : Bool)
    (RF : Cs Tryz.prog 50 #[.int .i64 (s[k].toNat : Int)] (.int .i64 1))
    (RN : Ct Tryz.prog 31 #[atv s (k + 1) 0, .int .i64 0, .int .i64 281474976710656] (.tuple #[.int .i64 n, atv s j e]))
    (RM : Ct Tryz.prog 36 #[iv (s[k].toNat : Int) n 0] (.bool m)) : Ct Tryz.prog 64 #[atv s k 0] (.tuple #[iv (s[k].toNat : Int) n 0, atv s j (wE m 71 e)]) := fun w => by
  have h256 := s[k].toNat_lt
  have hc2 : (s[k].toNat : Int) ≤ 16 := by omega
  have hone : e ≠ 0 ∧ wE m 71 e = e ∨ (e = 0 ∧ m = true ∧ wE m 71 e = 0) ∨ (e = 0 ∧ m = false ∧ wE m 71 e = 71) := by
    by_cases he : e = 0
    · subst he
      cases m
      · exact .inr (.inr ⟨rfl, rfl, rfl⟩)
      · exact .inr (.inl ⟨rfl, rfl, rfl⟩)
    · exact .inl ⟨he, wE_keep he⟩
  unfold maxLen at hs
  have H0 : Ra w w.heap.size (w.heap.size + 1) (w.heap.size + 1 + 1) (w.heap.size + 1 + 1 + 1) s (k + 1) 0 (s[k].toNat : Int) 0 0 ((((w.alloc (.cells #[.string s, .int .i64 (k + 1), .int .i64 0] 54)).alloc (.cells #[.int .i64 0, .int .i64 0, .int .i64 0] 64)).alloc (.cells #[.string ⟨#[]⟩, .int .i64 0, .int .i64 0] 54)).alloc (.cells #[.int .i64 (s[k].toNat : Int), .int .i64 0, .int .i64 0] 64)) :=
    ⟨(((Held.new _ _ _).alloc _).alloc _).alloc _, ((Held.new1 _ _ _ _).alloc _).alloc _, (Held.new2 _ _ _ _ _).alloc _, by have := Held.new (((w.alloc (.cells #[.string s, .int .i64 (k + 1), .int .i64 0] 54)).alloc (.cells #[.int .i64 0, .int .i64 0, .int .i64 0] 64)).alloc (.cells #[.string ⟨#[]⟩, .int .i64 0, .int .i64 0] 54)) 64 #[.int .i64 (s[k].toNat : Int), .int .i64 0, .int .i64 0]; simpa using this,
      (below3 w _ _ _).alloc (by simp; omega) _, Nat.le_refl _, by omega, by omega, by omega⟩
  have H := Lib.hid H0
  clear H0
  rcases hone with ⟨he, hw⟩ | ⟨rfl, rfl, hw⟩ | ⟨rfl, rfl, hw⟩
  · rw [hw]
    have e1 : (e == 0) = false := by simpa using he
    clear he
    clear hw
    go_enter Tryz.func64, Tryz.ntmps64
    go_upto_region 12 with (first
      | (go_at_call 50; (with_reducible refine (RF.go _).mono ?_); rintro x v0 ⟨rfl, rfl⟩)
      | (go_at_call 31; (with_reducible refine (RN.go _).mono ?_); rintro x v ⟨rfl, hb⟩; have I := Lib.hid (H.out.below hb); obtain ⟨⟨x0, x1, x2, y1, y2⟩, _⟩ := I.out.cells; obtain ⟨l1, _⟩ := I.out.lt; clear hb))
    have J := Lib.hid ((I.out.setX (o' := (s[k].toNat : Int)) (a' := n) (b' := 0) 1 (.int .i64 n) rfl).alloc (.cells #[.string s, .int .i64 j, .int .i64 e] 54))
    have hz : (v.setCell ⟨w.heap.size + 1 + 1 + 1, 1, none⟩ (.int .i64 n)).heap.size = v.heap.size := by simp [World.setCell]
    have G : Held ((v.setCell ⟨w.heap.size + 1 + 1 + 1, 1, none⟩ (.int .i64 n)).alloc (.cells #[.string s, .int .i64 j, .int .i64 e] 54)) v.heap.size 54 #[.string s, .int .i64 j, .int .i64 e] := by have := Held.new (v.setCell ⟨w.heap.size + 1 + 1 + 1, 1, none⟩ (.int .i64 n)) 54 #[.string s, .int .i64 j, .int .i64 e]; rwa [hz] at this
    clear x0 x1 x2 y1 y2 l1 I hz
    generalize (World.alloc (World.setCell v _ _) _) = u at J G ⊢
    have g0 := G.cell 0
    have g1 := G.cell 1
    have g2 := G.cell 2
    simp at g0 g1 g2
    obtain ⟨_, a0, a1, a2, b0, b1, b2⟩ := J.out.cells
    clear G
    go_upto_region 13 with (fail)
    replace J := Lib.hid (((J.out.setA (i' := (k + 1)) (e' := 0) 0 (.string s) rfl).setA (i' := j) (e' := 0) 1 (.int .i64 j) rfl).setA (i' := j) (e' := e) 2 (.int .i64 e) rfl)
    clear g0 g1 g2 a0 a1 a2 b0 b1 b2
    generalize (World.setCell (World.setCell (World.setCell u _ _) _ _) _ _) = u3 at J ⊢
    obtain ⟨⟨x0, x1, x2, y1, y2⟩, a0, a1, a2, b0, b1, b2⟩ := J.out.cells
    go_upto_region 15 with (fail)
    obtain ⟨⟨r0, r1, r2, s0, s1, s2⟩, q0, q1, q2, t0, t1, t2⟩ := J.out.res
    obtain ⟨l1, l2, l3, l4⟩ := J.out.lt
    have hlo := J.out.lo
    have hls := hlo.size
    go_wp2_with (go_at_call 50; (with_reducible refine (RF.go _).mono ?_); rintro x v0 ⟨rfl, rfl⟩)
    clear l1 l2 l3 l4 hlo hls
    go_region
    all_goals (try go_wp2_with fail)
    all_goals (first | clear x0 x1 x2 y1 y2 a0 a1 a2 b0 b1 b2 r0 r1 r2 s0 s1 s2 q0 q1 q2 t0 t1 t2 | skip)
    all_goals
      obtain ⟨hR, hQ, hL⟩ := J.out.fin (.int .i64 (s[k].toNat : Int)) (.int .i64 n) (.int .i64 0) (.string s) (.int .i64 j) (.int .i64 e)
      generalize World.drew (World.setCell (World.setCell (World.setCell (World.setCell (World.setCell (World.setCell _ _ _) _ _) _ _) _ _) _ _) _ _) = W at hR hQ hL ⊢
      have z0 := hR.cell 0
      have z1 := hR.cell 1
      have z2 := hR.cell 2
      have z3 := hQ.cell 0
      have z4 := hQ.cell 1
      have z5 := hQ.cell 2
      simp at z0 z1 z2 z3 z4 z5
      exact bodyPost_ret (v := .tuple #[iv (s[k].toNat : Int) n 0, atv s j e]) (by simp [results, Tryz.results64, go_sem, z0, z1, z2, z3, z4, z5]) rfl ⟨rfl, hL⟩
  · rw [hw]
    clear hw
    go_enter Tryz.func64, Tryz.ntmps64
    go_upto_region 12 with (first
      | (go_at_call 50; (with_reducible refine (RF.go _).mono ?_); rintro x v0 ⟨rfl, rfl⟩)
      | (go_at_call 31; (with_reducible refine (RN.go _).mono ?_); rintro x v ⟨rfl, hb⟩; have I := Lib.hid (H.out.below hb); obtain ⟨⟨x0, x1, x2, y1, y2⟩, _⟩ := I.out.cells; obtain ⟨l1, _⟩ := I.out.lt; clear hb))
    have J := Lib.hid ((I.out.setX (o' := (s[k].toNat : Int)) (a' := n) (b' := 0) 1 (.int .i64 n) rfl).alloc (.cells #[.string s, .int .i64 j, .int .i64 0] 54))
    have hz : (v.setCell ⟨w.heap.size + 1 + 1 + 1, 1, none⟩ (.int .i64 n)).heap.size = v.heap.size := by simp [World.setCell]
    have G : Held ((v.setCell ⟨w.heap.size + 1 + 1 + 1, 1, none⟩ (.int .i64 n)).alloc (.cells #[.string s, .int .i64 j, .int .i64 0] 54)) v.heap.size 54 #[.string s, .int .i64 j, .int .i64 0] := by have := Held.new (v.setCell ⟨w.heap.size + 1 + 1 + 1, 1, none⟩ (.int .i64 n)) 54 #[.string s, .int .i64 j, .int .i64 0]; rwa [hz] at this
    clear x0 x1 x2 y1 y2 l1 I hz
    generalize (World.alloc (World.setCell v _ _) _) = u at J G ⊢
    have g0 := G.cell 0
    have g1 := G.cell 1
    have g2 := G.cell 2
    simp at g0 g1 g2
    obtain ⟨_, a0, a1, a2, b0, b1, b2⟩ := J.out.cells
    clear G
    go_upto_region 13 with (fail)
    replace J := Lib.hid (((J.out.setA (i' := (k + 1)) (e' := 0) 0 (.string s) rfl).setA (i' := j) (e' := 0) 1 (.int .i64 j) rfl).setA (i' := j) (e' := 0) 2 (.int .i64 0) rfl)
    clear g0 g1 g2 a0 a1 a2 b0 b1 b2
    generalize (World.setCell (World.setCell (World.setCell u _ _) _ _) _ _) = u3 at J ⊢
    obtain ⟨⟨x0, x1, x2, y1, y2⟩, a0, a1, a2, b0, b1, b2⟩ := J.out.cells
    go_upto_region 15 with (go_at_call 36; (with_reducible refine (RM.go _).mono ?_); rintro x u4 ⟨rfl, hb⟩; replace J := Lib.hid (J.out.below hb); obtain ⟨⟨x0, x1, x2, y1, y2⟩, a0, a1, a2, b0, b1, b2⟩ := J.out.cells; clear hb)
    obtain ⟨⟨r0, r1, r2, s0, s1, s2⟩, q0, q1, q2, t0, t1, t2⟩ := J.out.res
    obtain ⟨l1, l2, l3, l4⟩ := J.out.lt
    have hlo := J.out.lo
    have hls := hlo.size
    go_wp2_with (go_at_call 50; (with_reducible refine (RF.go _).mono ?_); rintro x v0 ⟨rfl, rfl⟩)
    clear l1 l2 l3 l4 hlo hls
    go_region
    all_goals (try go_wp2_with fail)
    all_goals (first | clear x0 x1 x2 y1 y2 a0 a1 a2 b0 b1 b2 r0 r1 r2 s0 s1 s2 q0 q1 q2 t0 t1 t2 | skip)
    all_goals
      obtain ⟨hR, hQ, hL⟩ := J.out.fin (.int .i64 (s[k].toNat : Int)) (.int .i64 n) (.int .i64 0) (.string s) (.int .i64 j) (.int .i64 0)
      generalize World.drew (World.setCell (World.setCell (World.setCell (World.setCell (World.setCell (World.setCell _ _ _) _ _) _ _) _ _) _ _) _ _) = W at hR hQ hL ⊢
      have z0 := hR.cell 0
      have z1 := hR.cell 1
      have z2 := hR.cell 2
      have z3 := hQ.cell 0
      have z4 := hQ.cell 1
      have z5 := hQ.cell 2
      simp at z0 z1 z2 z3 z4 z5
      exact bodyPost_ret (v := .tuple #[iv (s[k].toNat : Int) n 0, atv s j 0]) (by simp [results, Tryz.results64, go_sem, z0, z1, z2, z3, z4, z5]) rfl ⟨rfl, hL⟩
  · rw [hw]
    clear hw
    go_enter Tryz.func64, Tryz.ntmps64
    go_upto_region 12 with (first
      | (go_at_call 50; (with_reducible refine (RF.go _).mono ?_); rintro x v0 ⟨rfl, rfl⟩)
      | (go_at_call 31; (with_reducible refine (RN.go _).mono ?_); rintro x v ⟨rfl, hb⟩; have I := Lib.hid (H.out.below hb); obtain ⟨⟨x0, x1, x2, y1, y2⟩, _⟩ := I.out.cells; obtain ⟨l1, _⟩ := I.out.lt; clear hb))
    have J := Lib.hid ((I.out.setX (o' := (s[k].toNat : Int)) (a' := n) (b' := 0) 1 (.int .i64 n) rfl).alloc (.cells #[.string s, .int .i64 j, .int .i64 0] 54))
    have hz : (v.setCell ⟨w.heap.size + 1 + 1 + 1, 1, none⟩ (.int .i64 n)).heap.size = v.heap.size := by simp [World.setCell]
    have G : Held ((v.setCell ⟨w.heap.size + 1 + 1 + 1, 1, none⟩ (.int .i64 n)).alloc (.cells #[.string s, .int .i64 j, .int .i64 0] 54)) v.heap.size 54 #[.string s, .int .i64 j, .int .i64 0] := by have := Held.new (v.setCell ⟨w.heap.size + 1 + 1 + 1, 1, none⟩ (.int .i64 n)) 54 #[.string s, .int .i64 j, .int .i64 0]; rwa [hz] at this
    clear x0 x1 x2 y1 y2 l1 I hz
    generalize (World.alloc (World.setCell v _ _) _) = u at J G ⊢
    have g0 := G.cell 0
    have g1 := G.cell 1
    have g2 := G.cell 2
    simp at g0 g1 g2
    obtain ⟨_, a0, a1, a2, b0, b1, b2⟩ := J.out.cells
    clear G
    go_upto_region 13 with (fail)
    replace J := Lib.hid (((J.out.setA (i' := (k + 1)) (e' := 0) 0 (.string s) rfl).setA (i' := j) (e' := 0) 1 (.int .i64 j) rfl).setA (i' := j) (e' := 0) 2 (.int .i64 0) rfl)
    clear g0 g1 g2 a0 a1 a2 b0 b1 b2
    generalize (World.setCell (World.setCell (World.setCell u _ _) _ _) _ _) = u3 at J ⊢
    obtain ⟨⟨x0, x1, x2, y1, y2⟩, a0, a1, a2, b0, b1, b2⟩ := J.out.cells
    go_upto_region 15 with (go_at_call 36; (with_reducible refine (RM.go _).mono ?_); rintro x u4 ⟨rfl, hb⟩; replace J := Lib.hid (J.out.below hb); obtain ⟨⟨x0, x1, x2, y1, y2⟩, a0, a1, a2, b0, b1, b2⟩ := J.out.cells; clear hb)
    replace J := Lib.hid (J.out.setA (i' := j) (e' := 71) 2 (.int .i64 71) rfl)
    clear x0 x1 x2 y1 y2 a0 a1 a2 b0 b1 b2
    generalize (World.setCell u4 _ _) = u5 at J ⊢
    obtain ⟨⟨x0, x1, x2, y1, y2⟩, a0, a1, a2, b0, b1, b2⟩ := J.out.cells
    obtain ⟨⟨r0, r1, r2, s0, s1, s2⟩, q0, q1, q2, t0, t1, t2⟩ := J.out.res
    obtain ⟨l1, l2, l3, l4⟩ := J.out.lt
    have hlo := J.out.lo
    have hls := hlo.size
    go_wp2_with (go_at_call 50; (with_reducible refine (RF.go _).mono ?_); rintro x v0 ⟨rfl, rfl⟩)
    clear l1 l2 l3 l4 hlo hls
    go_region
    all_goals (try go_wp2_with fail)
    all_goals (first | clear x0 x1 x2 y1 y2 a0 a1 a2 b0 b1 b2 r0 r1 r2 s0 s1 s2 q0 q1 q2 t0 t1 t2 | skip)
    all_goals
      obtain ⟨hR, hQ, hL⟩ := J.out.fin (.int .i64 (s[k].toNat : Int)) (.int .i64 n) (.int .i64 0) (.string s) (.int .i64 j) (.int .i64 71)
      generalize World.drew (World.setCell (World.setCell (World.setCell (World.setCell (World.setCell (World.setCell _ _ _) _ _) _ _) _ _) _ _) _ _) = W at hR hQ hL ⊢
      have z0 := hR.cell 0
      have z1 := hR.cell 1
      have z2 := hR.cell 2
      have z3 := hQ.cell 0
      have z4 := hQ.cell 1
      have z5 := hQ.cell 2
      simp at z0 z1 z2 z3 z4 z5
      exact bodyPost_ret (v := .tuple #[iv (s[k].toNat : Int) n 0, atv s j 71]) (by simp [results, Tryz.results64, go_sem, z0, z1, z2, z3, z4, z5]) rfl ⟨rfl, hL⟩

set_option maxHeartbeats 8000000 in
set_option maxRecDepth 100000 in
theorem pins_two (s : ByteArray) (k : Nat) (hk : k < s.size) (hs : s.size ≤ maxLen) (hc : s[k].toNat ≤ 16) (n j e n2 j2 e2 : Int) (m m2 : Bool)
    (RF : Cs Tryz.prog 50 #[.int .i64 (s[k].toNat : Int)] (.int .i64 2))
    (RN : Ct Tryz.prog 31 #[atv s (k + 1) 0, .int .i64 0, .int .i64 281474976710656] (.tuple #[.int .i64 n, atv s j e]))
    (RM : Ct Tryz.prog 36 #[iv (s[k].toNat : Int) n 0] (.bool m))
    (RN2 : Ct Tryz.prog 31 #[atv s j (wE m 71 e), .int .i64 0, .int .i64 281474976710656] (.tuple #[.int .i64 n2, atv s j2 e2]))
    (RM2 : Ct Tryz.prog 36 #[iv (s[k].toNat : Int) n n2] (.bool m2)) (hst : wE m 71 e ≠ 0 → e2 ≠ 0) :
    Ct Tryz.prog 64 #[atv s k 0] (.tuple #[iv (s[k].toNat : Int) n n2, atv s j2 (wE m2 71 e2)]) := fun w => by
  have h256 := s[k].toNat_lt
  have hc2 : (s[k].toNat : Int) ≤ 16 := by omega
  have hone : e ≠ 0 ∧ wE m 71 e = e ∨ (e = 0 ∧ m = true ∧ wE m 71 e = 0) ∨ (e = 0 ∧ m = false ∧ wE m 71 e = 71) := by
    by_cases he : e = 0
    · subst he
      cases m
      · exact .inr (.inr ⟨rfl, rfl, rfl⟩)
      · exact .inr (.inl ⟨rfl, rfl, rfl⟩)
    · exact .inl ⟨he, wE_keep he⟩
  have htwo : e2 ≠ 0 ∧ wE m2 71 e2 = e2 ∨ (e2 = 0 ∧ m2 = true ∧ wE m2 71 e2 = 0) ∨ (e2 = 0 ∧ m2 = false ∧ wE m2 71 e2 = 71) := by
    by_cases he : e2 = 0
    · subst he
      cases m2
      · exact .inr (.inr ⟨rfl, rfl, rfl⟩)
      · exact .inr (.inl ⟨rfl, rfl, rfl⟩)
    · exact .inl ⟨he, wE_keep he⟩
  unfold maxLen at hs
  have H0 : Ra w w.heap.size (w.heap.size + 1) (w.heap.size + 1 + 1) (w.heap.size + 1 + 1 + 1) s (k + 1) 0 (s[k].toNat : Int) 0 0 ((((w.alloc (.cells #[.string s, .int .i64 (k + 1), .int .i64 0] 54)).alloc (.cells #[.int .i64 0, .int .i64 0, .int .i64 0] 64)).alloc (.cells #[.string ⟨#[]⟩, .int .i64 0, .int .i64 0] 54)).alloc (.cells #[.int .i64 (s[k].toNat : Int), .int .i64 0, .int .i64 0] 64)) :=
    ⟨(((Held.new _ _ _).alloc _).alloc _).alloc _, ((Held.new1 _ _ _ _).alloc _).alloc _, (Held.new2 _ _ _ _ _).alloc _, by have := Held.new (((w.alloc (.cells #[.string s, .int .i64 (k + 1), .int .i64 0] 54)).alloc (.cells #[.int .i64 0, .int .i64 0, .int .i64 0] 64)).alloc (.cells #[.string ⟨#[]⟩, .int .i64 0, .int .i64 0] 54)) 64 #[.int .i64 (s[k].toNat : Int), .int .i64 0, .int .i64 0]; simpa using this,
      (below3 w _ _ _).alloc (by simp; omega) _, Nat.le_refl _, by omega, by omega, by omega⟩
  have H := Lib.hid H0
  clear H0
  rcases hone with ⟨he, hw⟩ | ⟨rfl, rfl, hw⟩ | ⟨rfl, rfl, hw⟩
  · rw [hw] at hst RN2
    have hs2 := hst he
    rcases htwo with ⟨_, hw2⟩ | ⟨h, _⟩ | ⟨h, _⟩
    · rw [hw2]
      have e1 : (e == 0) = false := by simpa using he
      have e3 : (e2 == 0) = false := by simpa using hs2
      clear hst hs2 he hw hw2
      go_enter Tryz.func64, Tryz.ntmps64
      go_upto_region 12 with (first
        | (go_at_call 50; (with_reducible refine (RF.go _).mono ?_); rintro x v0 ⟨rfl, rfl⟩)
        | (go_at_call 31; (with_reducible refine (RN.go _).mono ?_); rintro x v ⟨rfl, hb⟩; have I := Lib.hid (H.out.below hb); obtain ⟨⟨x0, x1, x2, y1, y2⟩, _⟩ := I.out.cells; obtain ⟨l1, _⟩ := I.out.lt; clear hb))
      have J := Lib.hid ((I.out.setX (o' := (s[k].toNat : Int)) (a' := n) (b' := 0) 1 (.int .i64 n) rfl).alloc (.cells #[.string s, .int .i64 j, .int .i64 e] 54))
      have hz : (v.setCell ⟨w.heap.size + 1 + 1 + 1, 1, none⟩ (.int .i64 n)).heap.size = v.heap.size := by simp [World.setCell]
      have G : Held ((v.setCell ⟨w.heap.size + 1 + 1 + 1, 1, none⟩ (.int .i64 n)).alloc (.cells #[.string s, .int .i64 j, .int .i64 e] 54)) v.heap.size 54 #[.string s, .int .i64 j, .int .i64 e] := by have := Held.new (v.setCell ⟨w.heap.size + 1 + 1 + 1, 1, none⟩ (.int .i64 n)) 54 #[.string s, .int .i64 j, .int .i64 e]; rwa [hz] at this
      clear x0 x1 x2 y1 y2 l1 I hz
      generalize (World.alloc (World.setCell v _ _) _) = u at J G ⊢
      have g0 := G.cell 0
      have g1 := G.cell 1
      have g2 := G.cell 2
      simp at g0 g1 g2
      obtain ⟨_, a0, a1, a2, b0, b1, b2⟩ := J.out.cells
      clear G
      go_upto_region 13 with (fail)
      replace J := Lib.hid (((J.out.setA (i' := (k + 1)) (e' := 0) 0 (.string s) rfl).setA (i' := j) (e' := 0) 1 (.int .i64 j) rfl).setA (i' := j) (e' := e) 2 (.int .i64 e) rfl)
      clear g0 g1 g2 a0 a1 a2 b0 b1 b2
      generalize (World.setCell (World.setCell (World.setCell u _ _) _ _) _ _) = u3 at J ⊢
      obtain ⟨⟨x0, x1, x2, y1, y2⟩, a0, a1, a2, b0, b1, b2⟩ := J.out.cells
      go_upto_region 15 with (fail)
      go_upto_region 18 with (first
        | (go_at_call 50; (with_reducible refine (RF.go _).mono ?_); rintro x v0 ⟨rfl, rfl⟩)
        | (go_at_call 31; (with_reducible refine (RN2.go _).mono ?_); rintro x v2 ⟨rfl, hb⟩; have I := Lib.hid (J.out.below hb); obtain ⟨⟨x0, x1, x2, y1, y2⟩, _⟩ := I.out.cells; obtain ⟨l1, _⟩ := I.out.lt; clear hb))
      have J := Lib.hid ((I.out.setX (o' := (s[k].toNat : Int)) (a' := n) (b' := n2) 2 (.int .i64 n2) rfl).alloc (.cells #[.string s, .int .i64 j2, .int .i64 e2] 54))
      have hz : (v2.setCell ⟨w.heap.size + 1 + 1 + 1, 2, none⟩ (.int .i64 n2)).heap.size = v2.heap.size := by simp [World.setCell]
      have G : Held ((v2.setCell ⟨w.heap.size + 1 + 1 + 1, 2, none⟩ (.int .i64 n2)).alloc (.cells #[.string s, .int .i64 j2, .int .i64 e2] 54)) v2.heap.size 54 #[.string s, .int .i64 j2, .int .i64 e2] := by have := Held.new (v2.setCell ⟨w.heap.size + 1 + 1 + 1, 2, none⟩ (.int .i64 n2)) 54 #[.string s, .int .i64 j2, .int .i64 e2]; rwa [hz] at this
      clear x0 x1 x2 y1 y2 l1 I hz
      generalize (World.alloc (World.setCell v2 _ _) _) = u2 at J G ⊢
      have g0 := G.cell 0
      have g1 := G.cell 1
      have g2 := G.cell 2
      simp at g0 g1 g2
      obtain ⟨_, a0, a1, a2, b0, b1, b2⟩ := J.out.cells
      clear G
      go_upto_region 19 with (fail)
      replace J := Lib.hid (((J.out.setA (i' := j) (e' := e) 0 (.string s) rfl).setA (i' := j2) (e' := e) 1 (.int .i64 j2) rfl).setA (i' := j2) (e' := e2) 2 (.int .i64 e2) rfl)
      clear g0 g1 g2 a0 a1 a2 b0 b1 b2
      generalize (World.setCell (World.setCell (World.setCell u2 _ _) _ _) _ _) = u23 at J ⊢
      obtain ⟨⟨x0, x1, x2, y1, y2⟩, a0, a1, a2, b0, b1, b2⟩ := J.out.cells
      go_upto_region 21 with (fail)
      obtain ⟨⟨r0, r1, r2, s0, s1, s2⟩, q0, q1, q2, t0, t1, t2⟩ := J.out.res
      obtain ⟨l1, l2, l3, l4⟩ := J.out.lt
      have hlo := J.out.lo
      have hls := hlo.size
      go_wp2_with (go_at_call 50; (with_reducible refine (RF.go _).mono ?_); rintro x v0 ⟨rfl, rfl⟩)
      clear l1 l2 l3 l4 hlo hls
      go_region
      all_goals (try go_wp2_with fail)
      all_goals (first | clear x0 x1 x2 y1 y2 a0 a1 a2 b0 b1 b2 r0 r1 r2 s0 s1 s2 q0 q1 q2 t0 t1 t2 | skip)
      all_goals
        obtain ⟨hR, hQ, hL⟩ := J.out.fin (.int .i64 (s[k].toNat : Int)) (.int .i64 n) (.int .i64 n2) (.string s) (.int .i64 j2) (.int .i64 e2)
        generalize World.drew (World.setCell (World.setCell (World.setCell (World.setCell (World.setCell (World.setCell _ _ _) _ _) _ _) _ _) _ _) _ _) = W at hR hQ hL ⊢
        have z0 := hR.cell 0
        have z1 := hR.cell 1
        have z2 := hR.cell 2
        have z3 := hQ.cell 0
        have z4 := hQ.cell 1
        have z5 := hQ.cell 2
        simp at z0 z1 z2 z3 z4 z5
        exact bodyPost_ret (v := .tuple #[iv (s[k].toNat : Int) n n2, atv s j2 e2]) (by simp [results, Tryz.results64, go_sem, z0, z1, z2, z3, z4, z5]) rfl ⟨rfl, hL⟩
    · exact absurd h hs2
    · exact absurd h hs2
  · rw [hw] at RN2
    rcases htwo with ⟨he2, hw2⟩ | ⟨rfl, rfl, hw2⟩ | ⟨rfl, rfl, hw2⟩
    · rw [hw2]
      have e3 : (e2 == 0) = false := by simpa using he2
      clear hst he2 hw hw2
      go_enter Tryz.func64, Tryz.ntmps64
      go_upto_region 12 with (first
        | (go_at_call 50; (with_reducible refine (RF.go _).mono ?_); rintro x v0 ⟨rfl, rfl⟩)
        | (go_at_call 31; (with_reducible refine (RN.go _).mono ?_); rintro x v ⟨rfl, hb⟩; have I := Lib.hid (H.out.below hb); obtain ⟨⟨x0, x1, x2, y1, y2⟩, _⟩ := I.out.cells; obtain ⟨l1, _⟩ := I.out.lt; clear hb))
      have J := Lib.hid ((I.out.setX (o' := (s[k].toNat : Int)) (a' := n) (b' := 0) 1 (.int .i64 n) rfl).alloc (.cells #[.string s, .int .i64 j, .int .i64 0] 54))
      have hz : (v.setCell ⟨w.heap.size + 1 + 1 + 1, 1, none⟩ (.int .i64 n)).heap.size = v.heap.size := by simp [World.setCell]
      have G : Held ((v.setCell ⟨w.heap.size + 1 + 1 + 1, 1, none⟩ (.int .i64 n)).alloc (.cells #[.string s, .int .i64 j, .int .i64 0] 54)) v.heap.size 54 #[.string s, .int .i64 j, .int .i64 0] := by have := Held.new (v.setCell ⟨w.heap.size + 1 + 1 + 1, 1, none⟩ (.int .i64 n)) 54 #[.string s, .int .i64 j, .int .i64 0]; rwa [hz] at this
      clear x0 x1 x2 y1 y2 l1 I hz
      generalize (World.alloc (World.setCell v _ _) _) = u at J G ⊢
      have g0 := G.cell 0
      have g1 := G.cell 1
      have g2 := G.cell 2
      simp at g0 g1 g2
      obtain ⟨_, a0, a1, a2, b0, b1, b2⟩ := J.out.cells
      clear G
      go_upto_region 13 with (fail)
      replace J := Lib.hid (((J.out.setA (i' := (k + 1)) (e' := 0) 0 (.string s) rfl).setA (i' := j) (e' := 0) 1 (.int .i64 j) rfl).setA (i' := j) (e' := 0) 2 (.int .i64 0) rfl)
      clear g0 g1 g2 a0 a1 a2 b0 b1 b2
      generalize (World.setCell (World.setCell (World.setCell u _ _) _ _) _ _) = u3 at J ⊢
      obtain ⟨⟨x0, x1, x2, y1, y2⟩, a0, a1, a2, b0, b1, b2⟩ := J.out.cells
      go_upto_region 15 with (go_at_call 36; (with_reducible refine (RM.go _).mono ?_); rintro x u4 ⟨rfl, hb⟩; replace J := Lib.hid (J.out.below hb); obtain ⟨⟨x0, x1, x2, y1, y2⟩, a0, a1, a2, b0, b1, b2⟩ := J.out.cells; clear hb)
      go_upto_region 18 with (first
        | (go_at_call 50; (with_reducible refine (RF.go _).mono ?_); rintro x v0 ⟨rfl, rfl⟩)
        | (go_at_call 31; (with_reducible refine (RN2.go _).mono ?_); rintro x v2 ⟨rfl, hb⟩; have I := Lib.hid (J.out.below hb); obtain ⟨⟨x0, x1, x2, y1, y2⟩, _⟩ := I.out.cells; obtain ⟨l1, _⟩ := I.out.lt; clear hb))
      have J := Lib.hid ((I.out.setX (o' := (s[k].toNat : Int)) (a' := n) (b' := n2) 2 (.int .i64 n2) rfl).alloc (.cells #[.string s, .int .i64 j2, .int .i64 e2] 54))
      have hz : (v2.setCell ⟨w.heap.size + 1 + 1 + 1, 2, none⟩ (.int .i64 n2)).heap.size = v2.heap.size := by simp [World.setCell]
      have G : Held ((v2.setCell ⟨w.heap.size + 1 + 1 + 1, 2, none⟩ (.int .i64 n2)).alloc (.cells #[.string s, .int .i64 j2, .int .i64 e2] 54)) v2.heap.size 54 #[.string s, .int .i64 j2, .int .i64 e2] := by have := Held.new (v2.setCell ⟨w.heap.size + 1 + 1 + 1, 2, none⟩ (.int .i64 n2)) 54 #[.string s, .int .i64 j2, .int .i64 e2]; rwa [hz] at this
      clear x0 x1 x2 y1 y2 l1 I hz
      generalize (World.alloc (World.setCell v2 _ _) _) = u2 at J G ⊢
      have g0 := G.cell 0
      have g1 := G.cell 1
      have g2 := G.cell 2
      simp at g0 g1 g2
      obtain ⟨_, a0, a1, a2, b0, b1, b2⟩ := J.out.cells
      clear G
      go_upto_region 19 with (fail)
      replace J := Lib.hid (((J.out.setA (i' := j) (e' := 0) 0 (.string s) rfl).setA (i' := j2) (e' := 0) 1 (.int .i64 j2) rfl).setA (i' := j2) (e' := e2) 2 (.int .i64 e2) rfl)
      clear g0 g1 g2 a0 a1 a2 b0 b1 b2
      generalize (World.setCell (World.setCell (World.setCell u2 _ _) _ _) _ _) = u23 at J ⊢
      obtain ⟨⟨x0, x1, x2, y1, y2⟩, a0, a1, a2, b0, b1, b2⟩ := J.out.cells
      go_upto_region 21 with (fail)
      obtain ⟨⟨r0, r1, r2, s0, s1, s2⟩, q0, q1, q2, t0, t1, t2⟩ := J.out.res
      obtain ⟨l1, l2, l3, l4⟩ := J.out.lt
      have hlo := J.out.lo
      have hls := hlo.size
      go_wp2_with (go_at_call 50; (with_reducible refine (RF.go _).mono ?_); rintro x v0 ⟨rfl, rfl⟩)
      clear l1 l2 l3 l4 hlo hls
      go_region
      all_goals (try go_wp2_with fail)
      all_goals (first | clear x0 x1 x2 y1 y2 a0 a1 a2 b0 b1 b2 r0 r1 r2 s0 s1 s2 q0 q1 q2 t0 t1 t2 | skip)
      all_goals
        obtain ⟨hR, hQ, hL⟩ := J.out.fin (.int .i64 (s[k].toNat : Int)) (.int .i64 n) (.int .i64 n2) (.string s) (.int .i64 j2) (.int .i64 e2)
        generalize World.drew (World.setCell (World.setCell (World.setCell (World.setCell (World.setCell (World.setCell _ _ _) _ _) _ _) _ _) _ _) _ _) = W at hR hQ hL ⊢
        have z0 := hR.cell 0
        have z1 := hR.cell 1
        have z2 := hR.cell 2
        have z3 := hQ.cell 0
        have z4 := hQ.cell 1
        have z5 := hQ.cell 2
        simp at z0 z1 z2 z3 z4 z5
        exact bodyPost_ret (v := .tuple #[iv (s[k].toNat : Int) n n2, atv s j2 e2]) (by simp [results, Tryz.results64, go_sem, z0, z1, z2, z3, z4, z5]) rfl ⟨rfl, hL⟩
    · rw [hw2]
      clear hst hw hw2
      go_enter Tryz.func64, Tryz.ntmps64
      go_upto_region 12 with (first
        | (go_at_call 50; (with_reducible refine (RF.go _).mono ?_); rintro x v0 ⟨rfl, rfl⟩)
        | (go_at_call 31; (with_reducible refine (RN.go _).mono ?_); rintro x v ⟨rfl, hb⟩; have I := Lib.hid (H.out.below hb); obtain ⟨⟨x0, x1, x2, y1, y2⟩, _⟩ := I.out.cells; obtain ⟨l1, _⟩ := I.out.lt; clear hb))
      have J := Lib.hid ((I.out.setX (o' := (s[k].toNat : Int)) (a' := n) (b' := 0) 1 (.int .i64 n) rfl).alloc (.cells #[.string s, .int .i64 j, .int .i64 0] 54))
      have hz : (v.setCell ⟨w.heap.size + 1 + 1 + 1, 1, none⟩ (.int .i64 n)).heap.size = v.heap.size := by simp [World.setCell]
      have G : Held ((v.setCell ⟨w.heap.size + 1 + 1 + 1, 1, none⟩ (.int .i64 n)).alloc (.cells #[.string s, .int .i64 j, .int .i64 0] 54)) v.heap.size 54 #[.string s, .int .i64 j, .int .i64 0] := by have := Held.new (v.setCell ⟨w.heap.size + 1 + 1 + 1, 1, none⟩ (.int .i64 n)) 54 #[.string s, .int .i64 j, .int .i64 0]; rwa [hz] at this
      clear x0 x1 x2 y1 y2 l1 I hz
      generalize (World.alloc (World.setCell v _ _) _) = u at J G ⊢
      have g0 := G.cell 0
      have g1 := G.cell 1
      have g2 := G.cell 2
      simp at g0 g1 g2
      obtain ⟨_, a0, a1, a2, b0, b1, b2⟩ := J.out.cells
      clear G
      go_upto_region 13 with (fail)
      replace J := Lib.hid (((J.out.setA (i' := (k + 1)) (e' := 0) 0 (.string s) rfl).setA (i' := j) (e' := 0) 1 (.int .i64 j) rfl).setA (i' := j) (e' := 0) 2 (.int .i64 0) rfl)
      clear g0 g1 g2 a0 a1 a2 b0 b1 b2
      generalize (World.setCell (World.setCell (World.setCell u _ _) _ _) _ _) = u3 at J ⊢
      obtain ⟨⟨x0, x1, x2, y1, y2⟩, a0, a1, a2, b0, b1, b2⟩ := J.out.cells
      go_upto_region 15 with (go_at_call 36; (with_reducible refine (RM.go _).mono ?_); rintro x u4 ⟨rfl, hb⟩; replace J := Lib.hid (J.out.below hb); obtain ⟨⟨x0, x1, x2, y1, y2⟩, a0, a1, a2, b0, b1, b2⟩ := J.out.cells; clear hb)
      go_upto_region 18 with (first
        | (go_at_call 50; (with_reducible refine (RF.go _).mono ?_); rintro x v0 ⟨rfl, rfl⟩)
        | (go_at_call 31; (with_reducible refine (RN2.go _).mono ?_); rintro x v2 ⟨rfl, hb⟩; have I := Lib.hid (J.out.below hb); obtain ⟨⟨x0, x1, x2, y1, y2⟩, _⟩ := I.out.cells; obtain ⟨l1, _⟩ := I.out.lt; clear hb))
      have J := Lib.hid ((I.out.setX (o' := (s[k].toNat : Int)) (a' := n) (b' := n2) 2 (.int .i64 n2) rfl).alloc (.cells #[.string s, .int .i64 j2, .int .i64 0] 54))
      have hz : (v2.setCell ⟨w.heap.size + 1 + 1 + 1, 2, none⟩ (.int .i64 n2)).heap.size = v2.heap.size := by simp [World.setCell]
      have G : Held ((v2.setCell ⟨w.heap.size + 1 + 1 + 1, 2, none⟩ (.int .i64 n2)).alloc (.cells #[.string s, .int .i64 j2, .int .i64 0] 54)) v2.heap.size 54 #[.string s, .int .i64 j2, .int .i64 0] := by have := Held.new (v2.setCell ⟨w.heap.size + 1 + 1 + 1, 2, none⟩ (.int .i64 n2)) 54 #[.string s, .int .i64 j2, .int .i64 0]; rwa [hz] at this
      clear x0 x1 x2 y1 y2 l1 I hz
      generalize (World.alloc (World.setCell v2 _ _) _) = u2 at J G ⊢
      have g0 := G.cell 0
      have g1 := G.cell 1
      have g2 := G.cell 2
      simp at g0 g1 g2
      obtain ⟨_, a0, a1, a2, b0, b1, b2⟩ := J.out.cells
      clear G
      go_upto_region 19 with (fail)
      replace J := Lib.hid (((J.out.setA (i' := j) (e' := 0) 0 (.string s) rfl).setA (i' := j2) (e' := 0) 1 (.int .i64 j2) rfl).setA (i' := j2) (e' := 0) 2 (.int .i64 0) rfl)
      clear g0 g1 g2 a0 a1 a2 b0 b1 b2
      generalize (World.setCell (World.setCell (World.setCell u2 _ _) _ _) _ _) = u23 at J ⊢
      obtain ⟨⟨x0, x1, x2, y1, y2⟩, a0, a1, a2, b0, b1, b2⟩ := J.out.cells
      go_upto_region 21 with (go_at_call 36; (with_reducible refine (RM2.go _).mono ?_); rintro x u24 ⟨rfl, hb⟩; replace J := Lib.hid (J.out.below hb); obtain ⟨⟨x0, x1, x2, y1, y2⟩, a0, a1, a2, b0, b1, b2⟩ := J.out.cells; clear hb)
      obtain ⟨⟨r0, r1, r2, s0, s1, s2⟩, q0, q1, q2, t0, t1, t2⟩ := J.out.res
      obtain ⟨l1, l2, l3, l4⟩ := J.out.lt
      have hlo := J.out.lo
      have hls := hlo.size
      go_wp2_with (go_at_call 50; (with_reducible refine (RF.go _).mono ?_); rintro x v0 ⟨rfl, rfl⟩)
      clear l1 l2 l3 l4 hlo hls
      go_region
      all_goals (try go_wp2_with fail)
      all_goals (first | clear x0 x1 x2 y1 y2 a0 a1 a2 b0 b1 b2 r0 r1 r2 s0 s1 s2 q0 q1 q2 t0 t1 t2 | skip)
      all_goals
        obtain ⟨hR, hQ, hL⟩ := J.out.fin (.int .i64 (s[k].toNat : Int)) (.int .i64 n) (.int .i64 n2) (.string s) (.int .i64 j2) (.int .i64 0)
        generalize World.drew (World.setCell (World.setCell (World.setCell (World.setCell (World.setCell (World.setCell _ _ _) _ _) _ _) _ _) _ _) _ _) = W at hR hQ hL ⊢
        have z0 := hR.cell 0
        have z1 := hR.cell 1
        have z2 := hR.cell 2
        have z3 := hQ.cell 0
        have z4 := hQ.cell 1
        have z5 := hQ.cell 2
        simp at z0 z1 z2 z3 z4 z5
        exact bodyPost_ret (v := .tuple #[iv (s[k].toNat : Int) n n2, atv s j2 0]) (by simp [results, Tryz.results64, go_sem, z0, z1, z2, z3, z4, z5]) rfl ⟨rfl, hL⟩
    · rw [hw2]
      clear hst hw hw2
      go_enter Tryz.func64, Tryz.ntmps64
      go_upto_region 12 with (first
        | (go_at_call 50; (with_reducible refine (RF.go _).mono ?_); rintro x v0 ⟨rfl, rfl⟩)
        | (go_at_call 31; (with_reducible refine (RN.go _).mono ?_); rintro x v ⟨rfl, hb⟩; have I := Lib.hid (H.out.below hb); obtain ⟨⟨x0, x1, x2, y1, y2⟩, _⟩ := I.out.cells; obtain ⟨l1, _⟩ := I.out.lt; clear hb))
      have J := Lib.hid ((I.out.setX (o' := (s[k].toNat : Int)) (a' := n) (b' := 0) 1 (.int .i64 n) rfl).alloc (.cells #[.string s, .int .i64 j, .int .i64 0] 54))
      have hz : (v.setCell ⟨w.heap.size + 1 + 1 + 1, 1, none⟩ (.int .i64 n)).heap.size = v.heap.size := by simp [World.setCell]
      have G : Held ((v.setCell ⟨w.heap.size + 1 + 1 + 1, 1, none⟩ (.int .i64 n)).alloc (.cells #[.string s, .int .i64 j, .int .i64 0] 54)) v.heap.size 54 #[.string s, .int .i64 j, .int .i64 0] := by have := Held.new (v.setCell ⟨w.heap.size + 1 + 1 + 1, 1, none⟩ (.int .i64 n)) 54 #[.string s, .int .i64 j, .int .i64 0]; rwa [hz] at this
      clear x0 x1 x2 y1 y2 l1 I hz
      generalize (World.alloc (World.setCell v _ _) _) = u at J G ⊢
      have g0 := G.cell 0
      have g1 := G.cell 1
      have g2 := G.cell 2
      simp at g0 g1 g2
      obtain ⟨_, a0, a1, a2, b0, b1, b2⟩ := J.out.cells
      clear G
      go_upto_region 13 with (fail)
      replace J := Lib.hid (((J.out.setA (i' := (k + 1)) (e' := 0) 0 (.string s) rfl).setA (i' := j) (e' := 0) 1 (.int .i64 j) rfl).setA (i' := j) (e' := 0) 2 (.int .i64 0) rfl)
      clear g0 g1 g2 a0 a1 a2 b0 b1 b2
      generalize (World.setCell (World.setCell (World.setCell u _ _) _ _) _ _) = u3 at J ⊢
      obtain ⟨⟨x0, x1, x2, y1, y2⟩, a0, a1, a2, b0, b1, b2⟩ := J.out.cells
      go_upto_region 15 with (go_at_call 36; (with_reducible refine (RM.go _).mono ?_); rintro x u4 ⟨rfl, hb⟩; replace J := Lib.hid (J.out.below hb); obtain ⟨⟨x0, x1, x2, y1, y2⟩, a0, a1, a2, b0, b1, b2⟩ := J.out.cells; clear hb)
      go_upto_region 18 with (first
        | (go_at_call 50; (with_reducible refine (RF.go _).mono ?_); rintro x v0 ⟨rfl, rfl⟩)
        | (go_at_call 31; (with_reducible refine (RN2.go _).mono ?_); rintro x v2 ⟨rfl, hb⟩; have I := Lib.hid (J.out.below hb); obtain ⟨⟨x0, x1, x2, y1, y2⟩, _⟩ := I.out.cells; obtain ⟨l1, _⟩ := I.out.lt; clear hb))
      have J := Lib.hid ((I.out.setX (o' := (s[k].toNat : Int)) (a' := n) (b' := n2) 2 (.int .i64 n2) rfl).alloc (.cells #[.string s, .int .i64 j2, .int .i64 0] 54))
      have hz : (v2.setCell ⟨w.heap.size + 1 + 1 + 1, 2, none⟩ (.int .i64 n2)).heap.size = v2.heap.size := by simp [World.setCell]
      have G : Held ((v2.setCell ⟨w.heap.size + 1 + 1 + 1, 2, none⟩ (.int .i64 n2)).alloc (.cells #[.string s, .int .i64 j2, .int .i64 0] 54)) v2.heap.size 54 #[.string s, .int .i64 j2, .int .i64 0] := by have := Held.new (v2.setCell ⟨w.heap.size + 1 + 1 + 1, 2, none⟩ (.int .i64 n2)) 54 #[.string s, .int .i64 j2, .int .i64 0]; rwa [hz] at this
      clear x0 x1 x2 y1 y2 l1 I hz
      generalize (World.alloc (World.setCell v2 _ _) _) = u2 at J G ⊢
      have g0 := G.cell 0
      have g1 := G.cell 1
      have g2 := G.cell 2
      simp at g0 g1 g2
      obtain ⟨_, a0, a1, a2, b0, b1, b2⟩ := J.out.cells
      clear G
      go_upto_region 19 with (fail)
      replace J := Lib.hid (((J.out.setA (i' := j) (e' := 0) 0 (.string s) rfl).setA (i' := j2) (e' := 0) 1 (.int .i64 j2) rfl).setA (i' := j2) (e' := 0) 2 (.int .i64 0) rfl)
      clear g0 g1 g2 a0 a1 a2 b0 b1 b2
      generalize (World.setCell (World.setCell (World.setCell u2 _ _) _ _) _ _) = u23 at J ⊢
      obtain ⟨⟨x0, x1, x2, y1, y2⟩, a0, a1, a2, b0, b1, b2⟩ := J.out.cells
      go_upto_region 21 with (go_at_call 36; (with_reducible refine (RM2.go _).mono ?_); rintro x u24 ⟨rfl, hb⟩; replace J := Lib.hid (J.out.below hb); obtain ⟨⟨x0, x1, x2, y1, y2⟩, a0, a1, a2, b0, b1, b2⟩ := J.out.cells; clear hb)
      replace J := Lib.hid (J.out.setA (i' := j2) (e' := 71) 2 (.int .i64 71) rfl)
      clear x0 x1 x2 y1 y2 a0 a1 a2 b0 b1 b2
      generalize (World.setCell u24 _ _) = u25 at J ⊢
      obtain ⟨⟨x0, x1, x2, y1, y2⟩, a0, a1, a2, b0, b1, b2⟩ := J.out.cells
      obtain ⟨⟨r0, r1, r2, s0, s1, s2⟩, q0, q1, q2, t0, t1, t2⟩ := J.out.res
      obtain ⟨l1, l2, l3, l4⟩ := J.out.lt
      have hlo := J.out.lo
      have hls := hlo.size
      go_wp2_with (go_at_call 50; (with_reducible refine (RF.go _).mono ?_); rintro x v0 ⟨rfl, rfl⟩)
      clear l1 l2 l3 l4 hlo hls
      go_region
      all_goals (try go_wp2_with fail)
      all_goals (first | clear x0 x1 x2 y1 y2 a0 a1 a2 b0 b1 b2 r0 r1 r2 s0 s1 s2 q0 q1 q2 t0 t1 t2 | skip)
      all_goals
        obtain ⟨hR, hQ, hL⟩ := J.out.fin (.int .i64 (s[k].toNat : Int)) (.int .i64 n) (.int .i64 n2) (.string s) (.int .i64 j2) (.int .i64 71)
        generalize World.drew (World.setCell (World.setCell (World.setCell (World.setCell (World.setCell (World.setCell _ _ _) _ _) _ _) _ _) _ _) _ _) = W at hR hQ hL ⊢
        have z0 := hR.cell 0
        have z1 := hR.cell 1
        have z2 := hR.cell 2
        have z3 := hQ.cell 0
        have z4 := hQ.cell 1
        have z5 := hQ.cell 2
        simp at z0 z1 z2 z3 z4 z5
        exact bodyPost_ret (v := .tuple #[iv (s[k].toNat : Int) n n2, atv s j2 71]) (by simp [results, Tryz.results64, go_sem, z0, z1, z2, z3, z4, z5]) rfl ⟨rfl, hL⟩
  · rw [hw] at hst RN2
    have hs2 := hst (by decide)
    rcases htwo with ⟨_, hw2⟩ | ⟨h, _⟩ | ⟨h, _⟩
    · rw [hw2]
      have e3 : (e2 == 0) = false := by simpa using hs2
      clear hst hs2 hw hw2
      go_enter Tryz.func64, Tryz.ntmps64
      go_upto_region 12 with (first
        | (go_at_call 50; (with_reducible refine (RF.go _).mono ?_); rintro x v0 ⟨rfl, rfl⟩)
        | (go_at_call 31; (with_reducible refine (RN.go _).mono ?_); rintro x v ⟨rfl, hb⟩; have I := Lib.hid (H.out.below hb); obtain ⟨⟨x0, x1, x2, y1, y2⟩, _⟩ := I.out.cells; obtain ⟨l1, _⟩ := I.out.lt; clear hb))
      have J := Lib.hid ((I.out.setX (o' := (s[k].toNat : Int)) (a' := n) (b' := 0) 1 (.int .i64 n) rfl).alloc (.cells #[.string s, .int .i64 j, .int .i64 0] 54))
      have hz : (v.setCell ⟨w.heap.size + 1 + 1 + 1, 1, none⟩ (.int .i64 n)).heap.size = v.heap.size := by simp [World.setCell]
      have G : Held ((v.setCell ⟨w.heap.size + 1 + 1 + 1, 1, none⟩ (.int .i64 n)).alloc (.cells #[.string s, .int .i64 j, .int .i64 0] 54)) v.heap.size 54 #[.string s, .int .i64 j, .int .i64 0] := by have := Held.new (v.setCell ⟨w.heap.size + 1 + 1 + 1, 1, none⟩ (.int .i64 n)) 54 #[.string s, .int .i64 j, .int .i64 0]; rwa [hz] at this
      clear x0 x1 x2 y1 y2 l1 I hz
      generalize (World.alloc (World.setCell v _ _) _) = u at J G ⊢
      have g0 := G.cell 0
      have g1 := G.cell 1
      have g2 := G.cell 2
      simp at g0 g1 g2
      obtain ⟨_, a0, a1, a2, b0, b1, b2⟩ := J.out.cells
      clear G
      go_upto_region 13 with (fail)
      replace J := Lib.hid (((J.out.setA (i' := (k + 1)) (e' := 0) 0 (.string s) rfl).setA (i' := j) (e' := 0) 1 (.int .i64 j) rfl).setA (i' := j) (e' := 0) 2 (.int .i64 0) rfl)
      clear g0 g1 g2 a0 a1 a2 b0 b1 b2
      generalize (World.setCell (World.setCell (World.setCell u _ _) _ _) _ _) = u3 at J ⊢
      obtain ⟨⟨x0, x1, x2, y1, y2⟩, a0, a1, a2, b0, b1, b2⟩ := J.out.cells
      go_upto_region 15 with (go_at_call 36; (with_reducible refine (RM.go _).mono ?_); rintro x u4 ⟨rfl, hb⟩; replace J := Lib.hid (J.out.below hb); obtain ⟨⟨x0, x1, x2, y1, y2⟩, a0, a1, a2, b0, b1, b2⟩ := J.out.cells; clear hb)
      replace J := Lib.hid (J.out.setA (i' := j) (e' := 71) 2 (.int .i64 71) rfl)
      clear x0 x1 x2 y1 y2 a0 a1 a2 b0 b1 b2
      generalize (World.setCell u4 _ _) = u5 at J ⊢
      obtain ⟨⟨x0, x1, x2, y1, y2⟩, a0, a1, a2, b0, b1, b2⟩ := J.out.cells
      go_upto_region 18 with (first
        | (go_at_call 50; (with_reducible refine (RF.go _).mono ?_); rintro x v0 ⟨rfl, rfl⟩)
        | (go_at_call 31; (with_reducible refine (RN2.go _).mono ?_); rintro x v2 ⟨rfl, hb⟩; have I := Lib.hid (J.out.below hb); obtain ⟨⟨x0, x1, x2, y1, y2⟩, _⟩ := I.out.cells; obtain ⟨l1, _⟩ := I.out.lt; clear hb))
      have J := Lib.hid ((I.out.setX (o' := (s[k].toNat : Int)) (a' := n) (b' := n2) 2 (.int .i64 n2) rfl).alloc (.cells #[.string s, .int .i64 j2, .int .i64 e2] 54))
      have hz : (v2.setCell ⟨w.heap.size + 1 + 1 + 1, 2, none⟩ (.int .i64 n2)).heap.size = v2.heap.size := by simp [World.setCell]
      have G : Held ((v2.setCell ⟨w.heap.size + 1 + 1 + 1, 2, none⟩ (.int .i64 n2)).alloc (.cells #[.string s, .int .i64 j2, .int .i64 e2] 54)) v2.heap.size 54 #[.string s, .int .i64 j2, .int .i64 e2] := by have := Held.new (v2.setCell ⟨w.heap.size + 1 + 1 + 1, 2, none⟩ (.int .i64 n2)) 54 #[.string s, .int .i64 j2, .int .i64 e2]; rwa [hz] at this
      clear x0 x1 x2 y1 y2 l1 I hz
      generalize (World.alloc (World.setCell v2 _ _) _) = u2 at J G ⊢
      have g0 := G.cell 0
      have g1 := G.cell 1
      have g2 := G.cell 2
      simp at g0 g1 g2
      obtain ⟨_, a0, a1, a2, b0, b1, b2⟩ := J.out.cells
      clear G
      go_upto_region 19 with (fail)
      replace J := Lib.hid (((J.out.setA (i' := j) (e' := 71) 0 (.string s) rfl).setA (i' := j2) (e' := 71) 1 (.int .i64 j2) rfl).setA (i' := j2) (e' := e2) 2 (.int .i64 e2) rfl)
      clear g0 g1 g2 a0 a1 a2 b0 b1 b2
      generalize (World.setCell (World.setCell (World.setCell u2 _ _) _ _) _ _) = u23 at J ⊢
      obtain ⟨⟨x0, x1, x2, y1, y2⟩, a0, a1, a2, b0, b1, b2⟩ := J.out.cells
      go_upto_region 21 with (fail)
      obtain ⟨⟨r0, r1, r2, s0, s1, s2⟩, q0, q1, q2, t0, t1, t2⟩ := J.out.res
      obtain ⟨l1, l2, l3, l4⟩ := J.out.lt
      have hlo := J.out.lo
      have hls := hlo.size
      go_wp2_with (go_at_call 50; (with_reducible refine (RF.go _).mono ?_); rintro x v0 ⟨rfl, rfl⟩)
      clear l1 l2 l3 l4 hlo hls
      go_region
      all_goals (try go_wp2_with fail)
      all_goals (first | clear x0 x1 x2 y1 y2 a0 a1 a2 b0 b1 b2 r0 r1 r2 s0 s1 s2 q0 q1 q2 t0 t1 t2 | skip)
      all_goals
        obtain ⟨hR, hQ, hL⟩ := J.out.fin (.int .i64 (s[k].toNat : Int)) (.int .i64 n) (.int .i64 n2) (.string s) (.int .i64 j2) (.int .i64 e2)
        generalize World.drew (World.setCell (World.setCell (World.setCell (World.setCell (World.setCell (World.setCell _ _ _) _ _) _ _) _ _) _ _) _ _) = W at hR hQ hL ⊢
        have z0 := hR.cell 0
        have z1 := hR.cell 1
        have z2 := hR.cell 2
        have z3 := hQ.cell 0
        have z4 := hQ.cell 1
        have z5 := hQ.cell 2
        simp at z0 z1 z2 z3 z4 z5
        exact bodyPost_ret (v := .tuple #[iv (s[k].toNat : Int) n n2, atv s j2 e2]) (by simp [results, Tryz.results64, go_sem, z0, z1, z2, z3, z4, z5]) rfl ⟨rfl, hL⟩
    · exact absurd h hs2
    · exact absurd h hs2
end Go.Proofs.YtcfdbciooimjmaaGreatDoor

