/- Layer 11: the document's Half. -/
import Derived.Test.YthmnaclmbglkdaaNq
namespace Go.Proofs.Ythmnaclmbglkdaa
set_option linter.unusedVariables false
set_option linter.unusedSimpArgs false
open Go.RowKit Go.ChangeShapes Go.WideShapes Go.ChangeAt Go.Sort

theorem tyRG : 33 ≠ 24 := by decide
theorem held_ne0 {W : World} {g k : Nat} {t u : TypeId} {a b : Array Value} (h : Held W g t a) (h2 : Held W k u b) (hne : t ≠ u) : g ≠ k := by
  rintro rfl
  rw [Held] at h h2
  rw [h] at h2
  simp at h2
  exact hne h2.2
theorem stealN_succ : ∀ (n : Nat) (r : Rng), stealN (n + 1) r = (stealR (stealN n r)).1
  | 0, _ => rfl
  | n + 1, r => by
    show stealN (n + 1) (stealR r).1 = (stealR (stealN n (stealR r).1)).1
    exact stealN_succ n _
theorem steal_at {r : Rng} (h : mayR r = true) {j : Nat} (hj : j < (itemsR r).length) : (stealR (stealN j r)).2.1 = (itemsR r).getD j (0, 0) ∧ (stealN j r).buf = r.buf ∧ mayR (stealN j r) = true := by
  obtain ⟨q1, q2, q3, q4⟩ := stealN_ok j h (by omega)
  have h0 : 0 < (itemsR (stealN j r)).length := by rw [q2, List.length_drop]; omega
  obtain ⟨s1, s2, _⟩ := steal_ok q1 h0
  refine ⟨?_, q4, q1⟩
  rw [q2, List.drop_eq_getElem_cons hj] at s2
  rw [List.getD_eq_getElem?_getD, List.getElem?_eq_getElem hj]
  exact (List.cons.inj s2).1.symm
/-- On the way: the ring in its block, the result's cell, what was stolen. -/
structure HaS (w : World) (A : Option Addr) (n c : Nat) (R : Rng) (A9 : Option Addr) (c9 : Nat) (K : List P2) (j : Nat) (W : World) : Prop where
  g : Held W w.heap.size 24 (rgc A n c R.head R.many R.most)
  g2 : Held W (w.heap.size + 1) 24 rz0
  o : OwnR W (w.heap.size + 2) (.slice A9 j c9) K
  b : Below w.heap.size w W
theorem HaS.below {w : World} {A : Option Addr} {n c : Nat} {R : Rng} {A9 : Option Addr} {c9 : Nat} {K : List P2} {j : Nat} {W W' : World} (h : HaS w A n c R A9 c9 K j W) (hb : Below W.heap.size W W') : HaS w A n c R A9 c9 K j W' :=
  ⟨h.g.below hb, h.g2.below hb, r_later h.o hb, Below.step h.b hb⟩
set_option maxHeartbeats 4000000 in
set_option maxRecDepth 100000 in
theorem rhalf_any {A : Option Addr} {r : Rng} {B : Nat} (c : Nat) (w : World) (hp : PAt w B A r.buf) (hB : B ≤ w.heap.size) (hs : (itemsR r).length ≤ 1024) :
    Calls Try.prog 18 #[rgv A r.buf.length c r.head r.many r.most] w fun e w' => ∃ A' c', e = .returned (.tuple #[rgv A r.buf.length c (halfR r).1.head (halfR r).1.many (halfR r).1.most, .slice A' (halfR r).2.length c']) ∧ OwnR w' w.heap.size (.slice A' (halfR r).2.length c') (halfR r).2 ∧ Below w.heap.size w w' := by
  have hb0 := below2 w (.cells (rgc A r.buf.length c r.head r.many r.most) 24) (.cells rz0 24)
  have g1 := (Held.new w 24 (rgc A r.buf.length c r.head r.many r.most)).alloc (.cells rz0 24)
  have g2 := Held.new1 w (.cells (rgc A r.buf.length c r.head r.many r.most) 24) 24 rz0
  have CI := ritems_any c _ (hp.below hb0 hB) (Nat.le_trans hB hb0.size)
  obtain ⟨N, hN⟩ : ∃ N, N = halfN r := ⟨_, rfl⟩
  have hNl : N ≤ (itemsR r).length ∧ N = ((itemsR r).length + 1) / 2 := by rw [hN]; unfold halfN; omega
  have hmay : 0 < N → mayR r = true := fun h0 => by
    cases hm : mayR r with
    | true => rfl
    | false =>
      have : (itemsR r).length = 0 := by unfold itemsR; rw [hm]; rfl
      omega
  have hhalf : halfR r = (stealN N r, (itemsR r).take N) := by rw [hN]; rfl
  have HSA := Lib.hid (fun j (hj : j < N) => steal_at (hmay (by omega)) (j := j) (by omega))
  have HP := Lib.hid (fun W (hb : Below w.heap.size w W) => hp.below hb hB)
  have HB := Lib.hid hB
  rw [hhalf]
  simp only
  have hlN : ((itemsR r).take N).length = N := by rw [List.length_take]; omega
  rw [hlN]
  have HNL := Lib.hid hNl
  have hq : Int.tdiv (((itemsR r).length : Int) + 1) 2 = N := by
    rw [Int.tdiv_eq_ediv_of_nonneg (by omega)]
    omega
  have hs2 : ((itemsR r).length : Int) ≤ 1024 := by omega
  have hN0 : (0 : Int) ≤ (N : Int) := Int.natCast_nonneg _
  have hN1 : (N : Int) ≤ 1024 := by omega
  have hL0 : (0 : Int) ≤ ((itemsR r).length : Int) := Int.natCast_nonneg _
  clear hp hB hN hmay hhalf hs hNl hlN
  generalize hL : itemsR r = L at *
  go_enter Try.func18, Try.ntmps18
  go_upto_region 1 with (fail)
  generalize (w.alloc (.cells (rgc A r.buf.length c r.head r.many r.most) 24)).alloc (.cells rz0 24) = W0 at *
  have x0 := g1.cell 0
  have x1 := g1.cell 1
  have x2 := g1.cell 2
  have x3 := g1.cell 3
  simp at x0 x1 x2 x3
  go_upto_region 3 with (go_at_call 24; (with_reducible refine CI.mono ?_); rintro _ u ⟨A9, c9, rfl, hol, hb⟩)
  have hbe : Below u.heap.size u (u.alloc (.cells #[] 33)) := (Below.refl _ _).alloc (Nat.le_refl _) _
  have hS0 : HaS w A r.buf.length c (stealN 0 r) (some ⟨u.heap.size, 0, none⟩) 0 (L.take 0) 0 (u.alloc (.cells #[] 33)) :=
    ⟨(g1.below hb).below hbe, (g2.below hb).below hbe, r_mono (Own2.made 33 u) (by have := g2.lt; have := hb.size; omega), Below.step (Below.step hb0 hb) hbe⟩
  have HS0 := Lib.hid hS0
  clear hS0 hbe hol hb CI g1 g2 hb0 x0 x1 x2 x3 hq
  generalize hn : r.buf.length = n at *
  go_wp2_with fail
  go_loopw [6, 5] (fun iv sv wr => ∃ (j : Nat) (A8 : Option Addr) (c8 : Nat), iv = .int .i64 j ∧ sv = .slice A8 j c8 ∧ j ≤ N ∧ HaS w A n c (stealN j r) A8 c8 (L.take j) j wr) (fun iv _ _ => N - (intOf iv).toNat)
  case atStart => exact ⟨0, _, _, rfl, rfl, Nat.zero_le _, HS0.out⟩
  case round =>
    obtain ⟨j, A8, c8, rfl, rfl, hj, hS⟩ := hrel
    by_cases hlt : j < N
    · have hlt2 : (j : Int) < N := by omega
      have hj0 : (0 : Int) ≤ j := Int.natCast_nonneg j
      obtain ⟨e1, e2, e3⟩ := HSA.out j hlt
      have hjL : j < L.length := Nat.lt_of_lt_of_le hlt HNL.out.1
      have CS := rsteal_any (r := stealN j r) c wr (by rw [e2]; exact HP.out wr hS.b) (Nat.le_trans HB.out hS.b.size)
      unfold StealQ at CS
      rw [← stealN_succ, e1, e2, hn] at CS
      obtain ⟨sb, hsb⟩ : ∃ sb, sb = (stealR (stealN j r)).2.2 := ⟨_, rfl⟩
      rw [← hsb] at CS
      have HTK := Lib.hid (show L.take (j + 1) = L.take j ++ [L.getD j (0, 0)] by rw [List.take_succ_eq_append_getElem hjL, List.getD_eq_getElem?_getD, List.getElem?_eq_getElem hjL]; rfl)
      have HTL := Lib.hid (show (L.take j).length = j by rw [List.length_take]; omega)
      generalize L.getD j (0, 0) = x at *
      obtain ⟨xa, xb⟩ := x
      simp only at CS
      clear e1 e2 e3 hsb hjL
      have HCS := Lib.hid CS
      clear CS
      generalize stealN j r = R1 at *
      generalize hR2 : stealN (j + 1) r = R2 at *
      have HR2 := Lib.hid hR2
      clear hR2
      generalize hK : L.take j = K at *
      have h1 := hS.g
      go_upto_region 7 with (first
        | (guard_target = wpList _ _ _ (Oper.mk _ (Op.load 24 (.tmp 1)) _ _ _ none :: _) _ _; refine wpList_load_row rfl 24 _ rfl w.heap.size rfl _ _ _ _ h1 Try.underlying24 rfl (by kernel_rfl) ?_)
        | (go_at_call 16; (with_reducible refine HCS.out.mono ?_); rintro _ u7 ⟨rfl, hb7⟩; have f7 := (Held.new u7 24 rz0).alloc (.cells #[.int .i64 0, .int .i64 0] 33); have f8 := Held.new1 u7 (.cells rz0 24) 33 #[.int .i64 0, .int .i64 0])
        | (guard_target = wpList _ _ _ (Oper.mk _ (Op.alloc 24) _ _ _ none :: _) _ _; refine wpList_alloc_arr rfl 24 rfl rz0 (by kernel_rfl) ?_)
        | (guard_target = wpList _ _ _ (Oper.mk _ (Op.alloc 33) _ _ _ none :: _) _ _; refine wpList_alloc_arr rfl 33 rfl #[.int .i64 0, .int .i64 0] (by kernel_rfl) ?_)
        | (guard_target = wpList _ _ _ (Oper.mk _ (Op.store 24 (.tmp 7) _) _ _ _ none :: _) _ _; refine wpList_store_row rfl 24 _ _ rfl u7.heap.size (rgc A n c R2.head R2.many R2.most) rfl rfl _ _ f7 (by kernel_rfl) rfl (by simp [Value.oneCell']) ?_; have k8 := held_row f8 (Nat.succ_ne_self u7.heap.size) (rgc A n c R2.head R2.many R2.most))
        | (guard_target = wpList _ _ _ (Oper.mk _ (Op.store 33 (.tmp 8) _) _ _ _ none :: _) _ _; refine wpList_store_row rfl 33 _ _ rfl (u7.heap.size + 1) #[.int .i64 xa, .int .i64 xb] rfl rfl _ _ k8 (by kernel_rfl) rfl (by simp [Value.oneCell']) ?_))
      have k7 := held_row (held_rowSelf f7 (rgc A n c R2.head R2.many R2.most)) (Nat.succ_ne_self u7.heap.size).symm #[.int .i64 xa, .int .i64 xb]
      have k9 := held_rowSelf k8 #[.int .i64 xa, .int .i64 xb]
      have hb8 : Below u7.heap.size u7 ((((u7.alloc (.cells rz0 24)).alloc (.cells #[.int .i64 0, .int .i64 0] 33)).setRow u7.heap.size (rgc A n c R2.head R2.many R2.most)).setRow (u7.heap.size + 1) #[.int .i64 xa, .int .i64 xb]) := below_setRow (below_setRow (below2 u7 _ _) (Nat.le_refl _) _) (Nat.le_succ _) _
      have hS8 := hS.below (Below.step hb7 hb8)
      generalize ((((u7.alloc (.cells rz0 24)).alloc (.cells #[.int .i64 0, .int .i64 0] 33)).setRow u7.heap.size (rgc A n c R2.head R2.many R2.most)).setRow (u7.heap.size + 1) #[.int .i64 xa, .int .i64 xb]) = W7 at *
      generalize u7.heap.size = g7 at *
      clear f7 f8 k8 hb7 hb8 HCS h1 hS
      have h1 := hS8.g
      go_upto_region 8 with (first
        | (guard_target = wpList _ _ _ (Oper.mk _ (Op.load 24 (.tmp 7)) _ _ _ none :: _) _ _; refine wpList_load_row rfl 24 _ rfl g7 rfl _ _ _ _ k7 Try.underlying24 rfl (by kernel_rfl) ?_)
        | (guard_target = wpList _ _ _ (Oper.mk _ (Op.store 24 (.tmp 1) _) _ _ _ none :: _) _ _; refine wpList_store_row rfl 24 _ _ rfl w.heap.size (rgc A n c R2.head R2.many R2.most) rfl rfl _ _ h1 (by kernel_rfl) rfl (by simp [Value.oneCell']) ?_))
      have hne8 := held_ne0 k9 h1 tyRG
      have k10 := held_row k9 hne8 (rgc A n c R2.head R2.many R2.most)
      have hS9 : HaS w A n c R2 A8 c8 K j (W7.setRow w.heap.size (rgc A n c R2.head R2.many R2.most)) := ⟨held_rowSelf h1 _, held_row hS8.g2 (Nat.succ_ne_self _) _, r_same hS8.o fun q e => row_far0 _ _ _ q (r_apart hS8.o h1 tyGR q e), below_setRow hS8.b (Nat.le_refl _) _⟩
      generalize W7.setRow w.heap.size (rgc A n c R2.head R2.many R2.most) = W8 at *
      clear k9 k7 h1 hS8 hne8
      have y0 := k10.cell 0
      have y1 := k10.cell 1
      simp at y0 y1
      have hbA : Below W8.heap.size W8 (W8.alloc (.cells #[.int .i64 xa, .int .i64 xb] 33)) := (Below.refl _ _).alloc (Nat.le_refl _) _
      have HSA9 := Lib.hid (hS9.below hbA)
      have HVA := Lib.hid (one2_at (t := 33) (w := W8) xa xb)
      have HB2 := Lib.hid (show w.heap.size + 2 ≤ (W8.alloc (.cells #[.int .i64 xa, .int .i64 xb] 33)).heap.size by have := HSA9.out.g2.lt; omega)
      have HLE := Lib.hid (show K.length + 1 ≤ 1000000 by rw [HTL.out]; omega)
      have HKL := Lib.hid (show (K ++ [(xa, xb)]).length = j + 1 by rw [List.length_append, HTL.out]; rfl)
      clear hbA hS9 k10
      go_wp2_with (at_builtin; refine wpList_append_rs (k := [(xa, xb)]) (n := 1) rfl _ _ rfl (w.heap.size + 2) _ K rfl HSA9.out.o rfl rfl HVA.out (Nat.le_refl _) HLE.out HB2.out ?_; intro v' u6 k1 k2 k3; obtain ⟨A', c', rfl, _⟩ := k1.lies; have K1 := Lib.hid k1; have K2 := Lib.hid k2; clear k1 k2 k3)
      go_roundw
      case rel =>
        refine ⟨j + 1, A', c', by go_num, by first | rw [HKL.out] | rw [HTL.out], by omega, ?_⟩
        have n1 : (Value.slice A8 j c8).ownBlock ≠ some w.heap.size := fun e => r_apart HSA9.out.o HSA9.out.g tyGR _ e rfl
        have n2 : (Value.slice A8 j c8).ownBlock ≠ some (w.heap.size + 1) := fun e => r_apart HSA9.out.o HSA9.out.g2 tyGR _ e rfl
        have h9 := K1.out
        rw [HKL.out] at h9
        rw [HTK.out, HR2.out]
        exact ⟨held_grown HSA9.out.g K2.out n1, held_grown HSA9.out.g2 K2.out n2, h9, HSA9.out.b.grown K2.out HSA9.out.b.size (fun q e => Nat.le_trans (Nat.le_add_right _ 2) (HSA9.out.o.lt q e).1)⟩
      case measure => simp [intOf]; omega
    · obtain rfl : j = N := by omega
      have hend : decide ((j : Int) < j) = false := by simp
      have h1 := hS.g
      have h2 := hS.g2
      have ho := hS.o
      have hbw := hS.b
      have hlen : (L.take j).length = j := by rw [List.length_take]; have := HNL.out.1; omega
      generalize hR1 : stealN j r = R1 at *
      clear hS hlt hj
      go_wp2_with (first
        | (guard_target = wpList _ _ _ (Oper.mk _ (Op.load 24 (.tmp 1)) _ _ _ none :: _) _ _; refine wpList_load_row rfl 24 _ rfl w.heap.size rfl _ _ _ _ h1 Try.underlying24 rfl (by kernel_rfl) ?_)
        | (guard_target = wpList _ _ _ (Oper.mk _ (Op.store 24 (.tmp 2) _) _ _ _ none :: _) _ _; refine wpList_store_row rfl 24 _ _ rfl (w.heap.size + 1) (rgc A n c R1.head R1.many R1.most) rfl rfl _ _ h2 (by kernel_rfl) rfl (by simp [Value.oneCell']) ?_))
      refine bodyPost_ret (results_ct0 rfl _ _ rfl rfl (load_ring (held_rowSelf h2 (rgc A n c R1.head R1.many R1.most)) rfl)) rfl ⟨A8, c8, by rw [hR1, hn]; first | done | rfl, ?_, below_setRow hbw (Nat.le_succ _) _⟩
      exact r_mono (r_same ho fun q e => row_far0 _ _ _ q (r_apart ho h2 tyGR q e)) (Nat.le_add_right _ 2)
end Go.Proofs.Ythmnaclmbglkdaa
