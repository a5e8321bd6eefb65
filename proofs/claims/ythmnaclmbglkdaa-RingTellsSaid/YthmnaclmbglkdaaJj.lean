/- Layer 11: the calls whose answers the document fixes. -/
import Derived.Test.YthmnaclmbglkdaaJl
namespace Go.Proofs.Ythmnaclmbglkdaa
set_option linter.unusedVariables false
set_option linter.unusedSimpArgs false
open Go.RowKit Go.ChangeShapes Go.WideShapes Go.ChangeAt Go.Sort

def q0 : Rng := ⟨[(0, 0), (0, 0)], 0, 0, 5⟩
def qz : Rng := ⟨[], 0, 0, 0⟩
def q1 : Rng := ⟨[(1, 0), (2, 0), (3, 4), (0, 0)], 0, 3, 5⟩
def q2 : Rng := ⟨[(1, 0), (2, 0), (3, 4), (0, 0)], 0, 2, 5⟩
def q3 : Rng := ⟨[(1, 0), (2, 0), (3, 4), (0, 0)], 1, 2, 5⟩
def q4 : Rng := ⟨[(1, 0), (2, 0), (3, 4), (0, 0)], 2, 1, 5⟩
def q5 : Rng := ⟨[(2, 0), (3, 4), (1, 0), (1, 0), (1, 0)], 0, 5, 5⟩
theorem fx0 : newR 2 5 = (q0, true) := by kernel_rfl
theorem fxz : newR 3 2 = (qz, false) := by kernel_rfl
theorem fx1 : pushR q0 [(1, 0), (2, 0), (3, 4)] = (q1, 0) := by kernel_rfl
theorem fx2 : popR q1 = (q2, (3, 4), true) := by kernel_rfl
theorem fx3 : stealR q1 = (q3, (1, 0), true) := by kernel_rfl
theorem fx4 : halfR q1 = (q4, [(1, 0), (2, 0)]) := by kernel_rfl
theorem fx5 : pushR q3 [(1, 0), (1, 0), (1, 0)] = (q5, 0) := by kernel_rfl
theorem fx6 : pushR q5 [(1, 0)] = (q5, 110) := by kernel_rfl
theorem fx7 : pushR qz [(1, 0)] = (qz, 1) := by kernel_rfl
theorem fi4 : itemsR q4 = [(3, 4)] := by kernel_rfl
theorem fi2 : itemsR q2 = [(1, 0), (2, 0)] := by kernel_rfl
theorem fi3 : itemsR q3 = [(2, 0), (3, 4)] := by kernel_rfl
theorem fi5 : itemsR q5 = [(2, 0), (3, 4), (1, 0), (1, 0), (1, 0)] := by kernel_rfl
theorem fm5 : mayR q5 = true := by kernel_rfl
theorem fmz : mayR qz = false := by kernel_rfl
theorem fl0 : q0.buf.length ≤ 100000 := by decide
theorem fl1 : q1.buf.length ≤ 100000 := by decide
theorem fl3 : q3.buf.length ≤ 100000 := by decide
theorem fl5 : q5.buf.length ≤ 100000 := by decide
theorem fn1 : (q1.buf.length : Int) = 4 := by decide
theorem fn5 : (q5.buf.length : Int) = 5 := by decide
set_option maxHeartbeats 100000000 in
set_option maxRecDepth 100000 in
theorem fixed_true (w : World) : Calls Try.prog 10 #[] w fun e w' => e = .returned (.bool true) ∧ Below w.heap.size w w' := by
  go_enter Try.func10, Try.ntmps10
  go_upto_region 2 with (first
    | (go_at_call 19; (with_reducible refine (new_c fx0 _).mono ?_); rintro _ u ⟨v, rfl, ⟨A1, c1, rfl, ho⟩, hb⟩; have hn := Held.new u 24 rz0)
    | (guard_target = wpList _ _ _ (Oper.mk _ (Op.store 24 (.tmp 1) _) _ _ _ none :: _) _ _; refine wpList_store_row rfl 24 _ _ rfl u.heap.size (rgc A1 q0.buf.length c1 q0.head q0.many q0.most) rfl rfl _ _ hn (by kernel_rfl) rfl (by simp [Value.oneCell']) ?_))
  obtain ⟨v1, hB⟩ := new_o1 hb ho
  have hg1 := hb.size
  clear hb ho hn
  generalize (u.alloc _).setRow u.heap.size _ = W1 at *
  generalize u.heap.size = g1 at *
  go_upto_region 3 with (first
    | (go_at_call 19; (with_reducible refine (new_c fxz _).mono ?_); rintro _ u ⟨v, rfl, ⟨Az, cz, rfl, ho⟩, hb⟩; have hn := Held.new u 24 rz0)
    | (guard_target = wpList _ _ _ (Oper.mk _ (Op.store 24 (.tmp 3) _) _ _ _ none :: _) _ _; refine wpList_store_row rfl 24 _ _ rfl u.heap.size (rgc Az qz.buf.length cz qz.head qz.many qz.most) rfl rfl _ _ hn (by kernel_rfl) rfl (by simp [Value.oneCell']) ?_))
  obtain ⟨-, hbW⟩ := new_o1 hb ho
  clear hb ho hn
  generalize (u.alloc _).setRow u.heap.size _ = W2 at *
  generalize u.heap.size = g3 at *
  replace v1 := v1.below hbW
  replace hB := Below.step hB hbW
  clear hbW
  go_upto_region 4 with (fail)
  have ra := ((Held.new W2 33 (rfc (1, 0))).alloc (.cells (rfc (2, 0)) 33)).alloc (.cells (rfc (3, 4)) 33)
  have rb := (Held.new1 W2 (.cells (rfc (1, 0)) 33) 33 (rfc (2, 0))).alloc (.cells (rfc (3, 4)) 33)
  have rc := Held.new2 W2 (.cells (rfc (1, 0)) 33) (.cells (rfc (2, 0)) 33) 33 (rfc (3, 4))
  have hbW := below3 W2 (.cells (rfc (1, 0)) 33) (.cells (rfc (2, 0)) 33) (.cells (rfc (3, 4)) 33)
  have hlt := v1.x.lt
  have n5 : W2.heap.size ≠ g1 := by omega
  have n6 : W2.heap.size + 1 ≠ g1 := by omega
  have n7 : W2.heap.size + 1 + 1 ≠ g1 := by omega
  replace v1 := v1.below hbW
  replace hB := Below.step hB hbW
  clear hbW hlt
  generalize World.alloc _ (.cells (rfc (3, 4)) 33) = W3 at *
  generalize W2.heap.size + 1 + 1 = g7 at *
  generalize W2.heap.size + 1 = g6 at *
  generalize W2.heap.size = g5 at *
  have hL : PAt (W3.alloc (.cells #[.int .i64 1, .int .i64 0, .int .i64 2, .int .i64 0, .int .i64 3, .int .i64 4] 33)) _ (some ⟨W3.heap.size, 0, none⟩) [(1, 0), (2, 0), (3, 4)] := pat_held (l := [(1, 0), (2, 0), (3, 4)]) (Held.new W3 33 #[.int .i64 1, .int .i64 0, .int .i64 2, .int .i64 0, .int .i64 3, .int .i64 4])
  have hbL : Below W3.heap.size W3 (W3.alloc (.cells #[.int .i64 1, .int .i64 0, .int .i64 2, .int .i64 0, .int .i64 3, .int .i64 4] 33)) := (Below.refl _ _).alloc (Nat.le_refl _) _
  have CP := push_c (n := 3) fx1 rfl fl0 (by decide) c1 3 _ (v1.below hbL).read.p hL
  go_upto_region 5 with (first
    | (guard_target = wpList _ _ _ (Oper.mk (some 35) _ _ _ _ none :: _) _ _; refine wpList_load_row rfl 24 _ rfl g1 rfl _ _ _ _ v1.x Try.underlying24 rfl (by kernel_rfl) ?_)
    | (guard_target = wpList _ _ _ (Oper.mk (some 36) _ _ _ _ none :: _) _ _; refine wpList_load_row rfl 33 _ rfl g5 rfl _ _ _ _ ra Try.underlying33 rfl (by kernel_rfl) ?_)
    | (guard_target = wpList _ _ _ (Oper.mk (some 37) _ _ _ _ none :: _) _ _; refine wpList_load_row rfl 33 _ rfl g6 rfl _ _ _ _ rb Try.underlying33 rfl (by kernel_rfl) ?_)
    | (guard_target = wpList _ _ _ (Oper.mk (some 38) _ _ _ _ none :: _) _ _; refine wpList_load_row rfl 33 _ rfl g7 rfl _ _ _ _ rc Try.underlying33 rfl (by kernel_rfl) ?_)
    | (go_at_call 11; (with_reducible refine (CP).mono ?_); rintro _ u ⟨v, rfl, ⟨A9, c9, rfl, ho⟩, hb⟩; replace hb := Below.step hbL hb; have v1u := (v1.below hb).x)
    | (guard_target = wpList _ _ _ (Oper.mk _ (Op.store 24 (.tmp 1) _) _ _ _ none :: _) _ _; refine wpList_store_row rfl 24 _ _ rfl g1 (rgc A9 q1.buf.length c9 q1.head q1.many q1.most) rfl rfl _ _ v1u (by kernel_rfl) rfl (by simp [Value.oneCell']) ?_))
  have v2 := rgo_set (r := q1) v1u ho
  have ra2 := held_row (ra.below hb) n5 (rgc A9 q1.buf.length c9 q1.head q1.many q1.most)
  have rb2 := held_row (rb.below hb) n6 (rgc A9 q1.buf.length c9 q1.head q1.many q1.most)
  have rc2 := held_row (rc.below hb) n7 (rgc A9 q1.buf.length c9 q1.head q1.many q1.most)
  have hB2 := below_setRow (Below.step hB hb) hg1 (rgc A9 q1.buf.length c9 q1.head q1.many q1.most)
  clear v1 ra rb rc hB hb v1u ho hL hbL CP n5 n6 n7 hg1
  generalize u.setRow g1 (rgc A9 q1.buf.length c9 q1.head q1.many q1.most) = W4 at *
  go_upto_region 6 with (first
    | (guard_target = wpList _ _ _ (Oper.mk (some 44) _ _ _ _ none :: _) _ _; refine wpList_load_row rfl 24 _ rfl g1 rfl _ _ _ _ v2.x Try.underlying24 rfl (by kernel_rfl) ?_)
    | (go_at_call 13; (with_reducible refine (pop_c fx2 fl1 _ _ v2.read.p).mono ?_); rintro _ u ⟨v, rfl, ⟨A2, c2, rfl, ho⟩, hb⟩; have hn := (Held.new u 24 rz0).alloc (.cells rf0 33); have hm := Held.new1 u (.cells rz0 24) 33 rf0)
    | (guard_target = wpList _ _ _ (Oper.mk _ (Op.store 24 (.tmp 9) _) _ _ _ none :: _) _ _; refine wpList_store_row rfl 24 _ _ rfl u.heap.size (rgc A2 q2.buf.length c2 q2.head q2.many q2.most) rfl rfl _ _ hn (by kernel_rfl) rfl (by simp [Value.oneCell']) ?_; have hm2 := held_row hm (Nat.succ_ne_self u.heap.size) (rgc A2 q2.buf.length c2 q2.head q2.many q2.most))
    | (guard_target = wpList _ _ _ (Oper.mk _ (Op.store 33 (.tmp 10) _) _ _ _ none :: _) _ _; refine wpList_store_row rfl 33 _ _ rfl (u.heap.size + 1) (rfc (3, 4)) rfl rfl _ _ hm2 (by kernel_rfl) rfl (by simp [Value.oneCell']) ?_))
  obtain ⟨v3, rx, hbW⟩ := new_o2 (r := q2) (c := c2) (x := (3, 4)) hb ho
  clear hb ho hn hm hm2
  replace v2 := v2.below hbW
  replace ra2 := Held.below ra2 hbW
  replace rb2 := Held.below rb2 hbW
  replace rc2 := Held.below rc2 hbW
  replace hB2 := Below.step hB2 hbW
  clear hbW
  generalize World.setRow _ (u.heap.size + 1) _ = W5 at *
  generalize u.heap.size + 1 = g9r at *
  generalize u.heap.size = g9 at *
  go_upto_region 7 with (first
    | (guard_target = wpList _ _ _ (Oper.mk (some 50) _ _ _ _ none :: _) _ _; refine wpList_load_row rfl 24 _ rfl g1 rfl _ _ _ _ v2.x Try.underlying24 rfl (by kernel_rfl) ?_)
    | (go_at_call 15; (with_reducible refine (steal_c fx3 fl1 _ _ v2.read.p).mono ?_); rintro _ u ⟨v, rfl, ⟨A3, c3, rfl, ho⟩, hb⟩; have hn := (Held.new u 24 rz0).alloc (.cells rf0 33); have hm := Held.new1 u (.cells rz0 24) 33 rf0)
    | (guard_target = wpList _ _ _ (Oper.mk _ (Op.store 24 (.tmp 12) _) _ _ _ none :: _) _ _; refine wpList_store_row rfl 24 _ _ rfl u.heap.size (rgc A3 q3.buf.length c3 q3.head q3.many q3.most) rfl rfl _ _ hn (by kernel_rfl) rfl (by simp [Value.oneCell']) ?_; have hm2 := held_row hm (Nat.succ_ne_self u.heap.size) (rgc A3 q3.buf.length c3 q3.head q3.many q3.most))
    | (guard_target = wpList _ _ _ (Oper.mk _ (Op.store 33 (.tmp 13) _) _ _ _ none :: _) _ _; refine wpList_store_row rfl 33 _ _ rfl (u.heap.size + 1) (rfc (1, 0)) rfl rfl _ _ hm2 (by kernel_rfl) rfl (by simp [Value.oneCell']) ?_))
  obtain ⟨v4, ry, hbW⟩ := new_o2 (r := q3) (c := c3) (x := (1, 0)) hb ho
  clear hb ho hn hm hm2
  replace v2 := v2.below hbW
  replace ra2 := Held.below ra2 hbW
  replace rb2 := Held.below rb2 hbW
  replace rc2 := Held.below rc2 hbW
  replace rx := Held.below rx hbW
  replace v3 := v3.below hbW
  replace hB2 := Below.step hB2 hbW
  clear hbW
  generalize World.setRow _ (u.heap.size + 1) _ = W6 at *
  generalize u.heap.size + 1 = g12r at *
  generalize u.heap.size = g12 at *
  go_upto_region 8 with (first
    | (guard_target = wpList _ _ _ (Oper.mk (some 56) _ _ _ _ none :: _) _ _; refine wpList_load_row rfl 24 _ rfl g1 rfl _ _ _ _ v2.x Try.underlying24 rfl (by kernel_rfl) ?_)
    | (go_at_call 17; (with_reducible refine (half_c (n := 2) fx4 rfl fl1 _ _ v2.read.p).mono ?_); rintro _ u ⟨v, Al, cl, rfl, ⟨A4, c4, rfl, ho⟩, hol, hb⟩; have hn := Held.new u 24 rz0)
    | (guard_target = wpList _ _ _ (Oper.mk _ (Op.store 24 (.tmp 15) _) _ _ _ none :: _) _ _; refine wpList_store_row rfl 24 _ _ rfl u.heap.size (rgc A4 q4.buf.length c4 q4.head q4.many q4.most) rfl rfl _ _ hn (by kernel_rfl) rfl (by simp [Value.oneCell']) ?_))
  obtain ⟨v5, hbW⟩ := new_o1 (r := q4) (c := c4) hb ho
  have wl := own_later (r_mono hol (Nat.zero_le _) : OwnR u 0 (.slice Al 2 cl) [(1, 0), (2, 0)]) (below_new1 (Below.refl _ u) rz0 (rgc A4 q4.buf.length c4 q4.head q4.many q4.most) 24)
  clear hol
  clear hb ho hn
  replace v2 := v2.below hbW
  replace ra2 := Held.below ra2 hbW
  replace rb2 := Held.below rb2 hbW
  replace rc2 := Held.below rc2 hbW
  replace rx := Held.below rx hbW
  replace v3 := v3.below hbW
  replace ry := Held.below ry hbW
  replace v4 := v4.below hbW
  replace hB2 := Below.step hB2 hbW
  clear hbW
  generalize World.setRow _ u.heap.size _ = W7 at *
  generalize u.heap.size = g15 at *
  have hL : PAt (W7.alloc (.cells #[.int .i64 1, .int .i64 0, .int .i64 1, .int .i64 0, .int .i64 1, .int .i64 0] 33)) _ (some ⟨W7.heap.size, 0, none⟩) [(1, 0), (1, 0), (1, 0)] := pat_held (l := [(1, 0), (1, 0), (1, 0)]) (Held.new W7 33 #[.int .i64 1, .int .i64 0, .int .i64 1, .int .i64 0, .int .i64 1, .int .i64 0])
  have hbL : Below W7.heap.size W7 (W7.alloc (.cells #[.int .i64 1, .int .i64 0, .int .i64 1, .int .i64 0, .int .i64 1, .int .i64 0] 33)) := (Below.refl _ _).alloc (Nat.le_refl _) _
  have CP := push_c (n := 3) fx5 rfl fl3 (by decide) c3 3 _ (v4.below hbL).read.p hL
  go_upto_region 9 with (first
    | (guard_target = wpList _ _ _ (Oper.mk (some 61) _ _ _ _ none :: _) _ _; refine wpList_load_row rfl 24 _ rfl g12 rfl _ _ _ _ v4.x Try.underlying24 rfl (by kernel_rfl) ?_)
    | (guard_target = wpList _ _ _ (Oper.mk (some 62) _ _ _ _ none :: _) _ _; refine wpList_load_row rfl 33 _ rfl g5 rfl _ _ _ _ ra2 Try.underlying33 rfl (by kernel_rfl) ?_)
    | (guard_target = wpList _ _ _ (Oper.mk (some 63) _ _ _ _ none :: _) _ _; refine wpList_load_row rfl 33 _ rfl g5 rfl _ _ _ _ ra2 Try.underlying33 rfl (by kernel_rfl) ?_)
    | (guard_target = wpList _ _ _ (Oper.mk (some 64) _ _ _ _ none :: _) _ _; refine wpList_load_row rfl 33 _ rfl g5 rfl _ _ _ _ ra2 Try.underlying33 rfl (by kernel_rfl) ?_)
    | (go_at_call 11; (with_reducible refine (CP).mono ?_); rintro _ u ⟨v, rfl, ⟨A5, c5, rfl, ho⟩, hb⟩; have hn := Held.new u 24 rz0; replace hb := Below.step hbL hb; replace ho := r_mono ho (Below.size hbL))
    | (guard_target = wpList _ _ _ (Oper.mk _ (Op.store 24 (.tmp 17) _) _ _ _ none :: _) _ _; refine wpList_store_row rfl 24 _ _ rfl u.heap.size (rgc A5 q5.buf.length c5 q5.head q5.many q5.most) rfl rfl _ _ hn (by kernel_rfl) rfl (by simp [Value.oneCell']) ?_))
  obtain ⟨v6, hbW⟩ := new_o1 (r := q5) (c := c5) hb ho
  clear hb ho hn
  replace v2 := v2.below hbW
  replace ra2 := Held.below ra2 hbW
  replace rb2 := Held.below rb2 hbW
  replace rc2 := Held.below rc2 hbW
  replace rx := Held.below rx hbW
  replace v3 := v3.below hbW
  replace ry := Held.below ry hbW
  replace v4 := v4.below hbW
  replace v5 := v5.below hbW
  replace wl := own_later wl hbW
  replace hB2 := Below.step hB2 hbW
  clear hbW
  generalize World.setRow _ u.heap.size _ = W8 at *
  generalize u.heap.size = g17 at *
  clear hbL hL CP
  have hL : PAt (W8.alloc (.cells #[.int .i64 1, .int .i64 0] 33)) _ (some ⟨W8.heap.size, 0, none⟩) [(1, 0)] := pat_held (l := [(1, 0)]) (Held.new W8 33 #[.int .i64 1, .int .i64 0])
  have hbL : Below W8.heap.size W8 (W8.alloc (.cells #[.int .i64 1, .int .i64 0] 33)) := (Below.refl _ _).alloc (Nat.le_refl _) _
  have CP := push_c (n := 1) fx6 rfl fl5 (by decide) c5 1 _ (v6.below hbL).read.p hL
  go_upto_region 10 with (first
    | (guard_target = wpList _ _ _ (Oper.mk (some 70) _ _ _ _ none :: _) _ _; refine wpList_load_row rfl 24 _ rfl g17 rfl _ _ _ _ v6.x Try.underlying24 rfl (by kernel_rfl) ?_)
    | (guard_target = wpList _ _ _ (Oper.mk (some 71) _ _ _ _ none :: _) _ _; refine wpList_load_row rfl 33 _ rfl g5 rfl _ _ _ _ ra2 Try.underlying33 rfl (by kernel_rfl) ?_)
    | (go_at_call 11; (with_reducible refine (CP).mono ?_); rintro _ u ⟨v, rfl, ⟨A6, c6, rfl, ho⟩, hb⟩; have hn := Held.new u 24 rz0; replace hb := Below.step hbL hb; replace ho := r_mono ho (Below.size hbL))
    | (guard_target = wpList _ _ _ (Oper.mk _ (Op.store 24 (.tmp 19) _) _ _ _ none :: _) _ _; refine wpList_store_row rfl 24 _ _ rfl u.heap.size (rgc A6 q5.buf.length c6 q5.head q5.many q5.most) rfl rfl _ _ hn (by kernel_rfl) rfl (by simp [Value.oneCell']) ?_))
  obtain ⟨v7, hbW⟩ := new_o1 (r := q5) (c := c6) hb ho
  clear hb ho hn
  replace v2 := v2.below hbW
  replace ra2 := Held.below ra2 hbW
  replace rb2 := Held.below rb2 hbW
  replace rc2 := Held.below rc2 hbW
  replace rx := Held.below rx hbW
  replace v3 := v3.below hbW
  replace ry := Held.below ry hbW
  replace v4 := v4.below hbW
  replace v5 := v5.below hbW
  replace wl := own_later wl hbW
  replace v6 := v6.below hbW
  replace hB2 := Below.step hB2 hbW
  clear hbW
  generalize World.setRow _ u.heap.size _ = W9 at *
  generalize u.heap.size = g19 at *
  clear v7 hbL hL CP
  have hL : PAt (W9.alloc (.cells #[.int .i64 1, .int .i64 0] 33)) _ (some ⟨W9.heap.size, 0, none⟩) [(1, 0)] := pat_held (l := [(1, 0)]) (Held.new W9 33 #[.int .i64 1, .int .i64 0])
  have hbL : Below W9.heap.size W9 (W9.alloc (.cells #[.int .i64 1, .int .i64 0] 33)) := (Below.refl _ _).alloc (Nat.le_refl _) _
  have CP : Calls Try.prog 11 #[.agg #[.slice none 0 0, .int .i64 0, .int .i64 0, .int .i64 0], .slice (some ⟨W9.heap.size, 0, none⟩) 1 1] _ (RingQ _ qz (.int .i64 1)) := push_c (n := 1) (r := qz) (A := none) fx7 rfl (by decide) (by decide) 0 1 _ (PAt.nil _ _ _) hL
  have CZ : ∀ W, Calls Try.prog 25 #[.agg #[.slice none 0 0, .int .i64 0, .int .i64 0, .int .i64 0]] W fun e w' => e = .returned (.bool false) ∧ Below W.heap.size W w' := fun W => may_c (r := qz) fmz none 0 W
  replace ra2 : Held W9 g5 33 #[.int .i64 1, .int .i64 0] := ra2
  replace rb2 : Held W9 g6 33 #[.int .i64 2, .int .i64 0] := rb2
  replace rc2 : Held W9 g7 33 #[.int .i64 3, .int .i64 4] := rc2
  replace rx : Held W9 g9r 33 #[.int .i64 3, .int .i64 4] := rx
  replace ry : Held W9 g12r 33 #[.int .i64 1, .int .i64 0] := ry
  obtain ⟨gl, cl2, el⟩ := r_form wl (by decide)
  simp only [Value.slice.injEq] at el
  obtain ⟨rfl, -, rfl⟩ := el
  have E1 := fun W => eqr_run 3 4 3 4 W
  have E2 := fun W => eqr_run 1 0 1 0 W
  have E3 := fun W => eqr_run 2 0 2 0 W
  simp only [decide_true] at E1 E2 E3
  have k1 := fn1
  have k5 := fn5
  have HN := Lib.hid (And.intro k1 k5)
  clear k1 k5
  go_upto_region 11 with (first
    | (guard_target = wpList _ _ _ (Oper.mk (some 78) _ _ _ _ none :: _) _ _; refine wpList_load_row rfl 33 _ rfl g5 rfl _ _ _ _ ra2 Try.underlying33 rfl (by kernel_rfl) ?_)
    | (go_at_call 11; (with_reducible refine (CP).mono ?_); rintro _ u ⟨v, rfl, ⟨A7, c7, rfl, ho⟩, hb⟩; replace hb := Below.step hbL hb; replace ho := r_mono ho (Below.size hbL); have hn := Held.new u 24 rz0)
    | (guard_target = wpList _ _ _ (Oper.mk _ (Op.store 24 (.tmp 21) _) _ _ _ none :: _) _ _; refine wpList_store_row rfl 24 _ _ rfl u.heap.size (rgc A7 qz.buf.length c7 qz.head qz.many qz.most) rfl rfl _ _ hn (by kernel_rfl) rfl (by simp [Value.oneCell']) ?_))
  obtain ⟨-, hbW⟩ := new_o1 hb ho
  clear hb ho hn hbL hL CP
  replace v2 := v2.below hbW
  replace ra2 := Held.below ra2 hbW
  replace rb2 := Held.below rb2 hbW
  replace rc2 := Held.below rc2 hbW
  replace rx := Held.below rx hbW
  replace v3 := v3.below hbW
  replace ry := Held.below ry hbW
  replace v4 := v4.below hbW
  replace v5 := v5.below hbW
  replace wl := own_later wl hbW
  replace v6 := v6.below hbW
  replace hB2 := Below.step hB2 hbW
  clear hbW
  generalize World.setRow _ u.heap.size _ = W10 at *
  generalize u.heap.size = g21 at *
  have v2d := v2.below ((Below.refl W10.heap.size W10).drew)
  have ra2d := Held.below ra2 ((Below.refl W10.heap.size W10).drew)
  have rb2d := Held.below rb2 ((Below.refl W10.heap.size W10).drew)
  have rc2d := Held.below rc2 ((Below.refl W10.heap.size W10).drew)
  have rxd := Held.below rx ((Below.refl W10.heap.size W10).drew)
  have v3d := v3.below ((Below.refl W10.heap.size W10).drew)
  have ryd := Held.below ry ((Below.refl W10.heap.size W10).drew)
  have v4d := v4.below ((Below.refl W10.heap.size W10).drew)
  have v5d := v5.below ((Below.refl W10.heap.size W10).drew)
  have wld := own_later wl ((Below.refl W10.heap.size W10).drew)
  have v6d := v6.below ((Below.refl W10.heap.size W10).drew)
  have hBd := Below.step hB2 ((Below.refl W10.heap.size W10).drew)
  clear v2 ra2 rb2 rc2 rx v3 ry v4 v5 wl v6 hB2
  simp only [List.append_eq, List.cons_append, List.nil_append]
  refine wp_region_held_drew (S := fun W => Below W10.drew.heap.size W10.drew W) (by kernel_rfl) (Below.refl _ _) (fun hS => ?_)
  generalize W10.drew = W11 at *
  show wpAnyH _ _ _ _ _ 112 #[false, false, false, false, false, false, false, false, false, false, false, false, false, false, false, false, false, false, false, false, false, false, false, false, false, false, false, false, false, false, false, false, false, false, false, false, false, false, false, false, false, false, false, false, false, false, false, false, false, false, false, false, false, false, false, false, false, false, false, false, false, false, false, false, false, false, false, false, false, false, false, false, false, false, false, false, false, false, false, false, false, false, false, false, false, false, false, false, false, false, false, false, false, false, false, false, false, false, false, false, false, false, false, false, false, false, false, false, false, false, false, false] _ _
  refine wpAnyH_begin (by kernel_rfl) (fun HNS => ?_)
  obtain ⟨y0, y1, -, -⟩ := own2_cells wld (k := 0) (by decide)
  obtain ⟨y2, y3, -, -⟩ := own2_cells wld (k := 1) (by decide)
  simp at y0 y1 y2 y3
  have hgl := block_lt_of_cell y0
  simp only at hgl
  refine wpAnyH_takeS HNS (i := 0) (v := .bool true) rfl (by kernel_rfl) (by kernel_rfl) (fun _ _ _ h => h) (Or.inl ⟨by kernel_rfl, fun W hW => ?_⟩) hS ?_
  · go_simp
  simp only [Act.put, List.getElem_toArray, List.getElem_cons_succ, List.getElem_cons_zero, List.setIfInBounds_toArray, List.set_cons_zero, List.set_cons_succ]
  refine wpAnyH_takeS HNS (i := 1) (v := .bool true) rfl (by kernel_rfl) (by kernel_rfl) (fun _ _ _ h => h) (Or.inl ⟨by kernel_rfl, fun W hW => ?_⟩) hS ?_
  · go_simp
  simp only [Act.put, List.getElem_toArray, List.getElem_cons_succ, List.getElem_cons_zero, List.setIfInBounds_toArray, List.set_cons_zero, List.set_cons_succ]
  refine wpAnyH_takeS HNS (i := 2) (v := .bool false) rfl (by kernel_rfl) (by kernel_rfl) (fun _ _ _ h => h) (Or.inl ⟨by kernel_rfl, fun W hW => ?_⟩) hS ?_
  · go_simp
  simp only [Act.put, List.getElem_toArray, List.getElem_cons_succ, List.getElem_cons_zero, List.setIfInBounds_toArray, List.set_cons_zero, List.set_cons_succ]
  refine wpAnyH_takeS HNS (i := 3) (v := .bool true) rfl (by kernel_rfl) (by kernel_rfl) (fun _ _ _ h => h) (Or.inl ⟨by kernel_rfl, fun W hW => ?_⟩) hS ?_
  · go_simp
  simp only [Act.put, List.getElem_toArray, List.getElem_cons_succ, List.getElem_cons_zero, List.setIfInBounds_toArray, List.set_cons_zero, List.set_cons_succ]
  refine wpAnyH_takeS HNS (i := 4) (v := .bool true) rfl (by kernel_rfl) (by kernel_rfl) (fun _ _ _ h => h) (Or.inl ⟨by kernel_rfl, fun W hW => ?_⟩) hS ?_
  · go_simp
  simp only [Act.put, List.getElem_toArray, List.getElem_cons_succ, List.getElem_cons_zero, List.setIfInBounds_toArray, List.set_cons_zero, List.set_cons_succ]
  refine wpAnyH_takeS HNS (i := 5) (v := .bool true) rfl (by kernel_rfl) (by kernel_rfl) (fun _ _ _ h => h) (Or.inl ⟨by kernel_rfl, fun W hW => ?_⟩) hS ?_
  · go_simp
  simp only [Act.put, List.getElem_toArray, List.getElem_cons_succ, List.getElem_cons_zero, List.setIfInBounds_toArray, List.set_cons_zero, List.set_cons_succ]
  refine wpAnyH_takeS HNS (i := 6) (v := .int .i64 0) rfl (by kernel_rfl) (by kernel_rfl) (fun _ _ _ h => h) (Or.inl ⟨by kernel_rfl, fun W hW => ?_⟩) hS ?_
  · go_simp
  simp only [Act.put, List.getElem_toArray, List.getElem_cons_succ, List.getElem_cons_zero, List.setIfInBounds_toArray, List.set_cons_zero, List.set_cons_succ]
  refine wpAnyH_takeS HNS (i := 7) (v := .bool true) rfl (by kernel_rfl) (by kernel_rfl) (fun _ _ _ h => h) (Or.inl ⟨by kernel_rfl, fun W hW => ?_⟩) hS ?_
  · go_simp
  simp only [Act.put, List.getElem_toArray, List.getElem_cons_succ, List.getElem_cons_zero, List.setIfInBounds_toArray, List.set_cons_zero, List.set_cons_succ]
  refine wpAnyH_takeS HNS (i := 8) (v := .bool true) rfl (by kernel_rfl) (by kernel_rfl) (fun _ _ _ h => h) (Or.inl ⟨by kernel_rfl, fun W hW => ?_⟩) hS ?_
  · go_simp
  simp only [Act.put, List.getElem_toArray, List.getElem_cons_succ, List.getElem_cons_zero, List.setIfInBounds_toArray, List.set_cons_zero, List.set_cons_succ]
  refine wpAnyH_takeS HNS (i := 9) (v := .bool true) rfl (by kernel_rfl) (by kernel_rfl) (fun _ _ _ h => h) (Or.inl ⟨by kernel_rfl, fun W hW => ?_⟩) hS ?_
  · go_simp
  simp only [Act.put, List.getElem_toArray, List.getElem_cons_succ, List.getElem_cons_zero, List.setIfInBounds_toArray, List.set_cons_zero, List.set_cons_succ]
  as_aux_lemma =>
    refine wpAnyH_takeS HNS (i := 10) (v := .bool true) rfl (by kernel_rfl) (by kernel_rfl) (fun _ _ _ h => h) (Or.inl ⟨by kernel_rfl, fun W hW => ?_⟩) hS ?_
    · go_simp
    simp only [Act.put, List.getElem_toArray, List.getElem_cons_succ, List.getElem_cons_zero, List.setIfInBounds_toArray, List.set_cons_zero, List.set_cons_succ]
    refine wpAnyH_takeS HNS (i := 11) (v := .bool true) rfl (by kernel_rfl) (by kernel_rfl) (fun _ _ _ h => h) (Or.inl ⟨by kernel_rfl, fun W hW => ?_⟩) hS ?_
    · go_simp
    simp only [Act.put, List.getElem_toArray, List.getElem_cons_succ, List.getElem_cons_zero, List.setIfInBounds_toArray, List.set_cons_zero, List.set_cons_succ]
    refine wpAnyH_takeS HNS (i := 12) (v := .bool true) rfl (by kernel_rfl) (by kernel_rfl) (fun _ _ _ h => h) (Or.inl ⟨by kernel_rfl, fun W hW => ?_⟩) hS ?_
    · go_simp
    simp only [Act.put, List.getElem_toArray, List.getElem_cons_succ, List.getElem_cons_zero, List.setIfInBounds_toArray, List.set_cons_zero, List.set_cons_succ]
    refine wpAnyH_takeS HNS (i := 13) (v := .agg #[.int .i64 3, .int .i64 4]) rfl (by kernel_rfl) (by kernel_rfl) (fun _ _ _ h => h) (Or.inl ⟨by kernel_rfl, fun W hW => ?_⟩) hS ?_
    · (have hz := Held.below rxd hW; have z0 := hz.cell 0; have z1 := hz.cell 1; simp at z0 z1; go_simp)
    simp only [Act.put, List.getElem_toArray, List.getElem_cons_succ, List.getElem_cons_zero, List.setIfInBounds_toArray, List.set_cons_zero, List.set_cons_succ]
    refine wpAnyH_takeS HNS (i := 14) (v := .agg #[.int .i64 3, .int .i64 4]) rfl (by kernel_rfl) (by kernel_rfl) (fun _ _ _ h => h) (Or.inl ⟨by kernel_rfl, fun W hW => ?_⟩) hS ?_
    · (have hz := Held.below rc2d hW; have z0 := hz.cell 0; have z1 := hz.cell 1; simp at z0 z1; go_simp)
    simp only [Act.put, List.getElem_toArray, List.getElem_cons_succ, List.getElem_cons_zero, List.setIfInBounds_toArray, List.set_cons_zero, List.set_cons_succ]
    refine wpAnyH_takeS HNS (i := 15) (v := .bool true) rfl (by kernel_rfl) (by kernel_rfl) (fun _ _ _ h => h) (Or.inl ⟨by kernel_rfl, fun W hW => ?_⟩) hS ?_
    · go_simp
    simp only [Act.put, List.getElem_toArray, List.getElem_cons_succ, List.getElem_cons_zero, List.setIfInBounds_toArray, List.set_cons_zero, List.set_cons_succ]
    refine wpAnyH_takeS HNS (i := 16) (v := .bool true) rfl (by kernel_rfl) (by kernel_rfl) (fun _ _ _ h => h) (Or.inl ⟨by kernel_rfl, fun W hW => ?_⟩) hS ?_
    · go_simp
    simp only [Act.put, List.getElem_toArray, List.getElem_cons_succ, List.getElem_cons_zero, List.setIfInBounds_toArray, List.set_cons_zero, List.set_cons_succ]
    refine wpAnyH_takeS HNS (i := 17) (v := .bool true) rfl (by kernel_rfl) (by kernel_rfl) (fun _ _ _ h => h) (Or.inl ⟨by kernel_rfl, fun W hW => ?_⟩) hS ?_
    · go_simp
    simp only [Act.put, List.getElem_toArray, List.getElem_cons_succ, List.getElem_cons_zero, List.setIfInBounds_toArray, List.set_cons_zero, List.set_cons_succ]
    refine wpAnyH_takeS HNS (i := 18) (v := .bool true) rfl (by kernel_rfl) (by kernel_rfl) (fun _ _ _ h => h) (Or.inl ⟨by kernel_rfl, fun W hW => ?_⟩) hS ?_
    · go_simp
    simp only [Act.put, List.getElem_toArray, List.getElem_cons_succ, List.getElem_cons_zero, List.setIfInBounds_toArray, List.set_cons_zero, List.set_cons_succ]
    refine wpAnyH_takeS HNS (i := 19) (v := .bool true) rfl (by kernel_rfl) (by kernel_rfl) (fun _ _ _ h => h) (Or.inl ⟨by kernel_rfl, fun W hW => ?_⟩) hS ?_
    · go_simp
    simp only [Act.put, List.getElem_toArray, List.getElem_cons_succ, List.getElem_cons_zero, List.setIfInBounds_toArray, List.set_cons_zero, List.set_cons_succ]
    as_aux_lemma =>
      refine wpAnyH_takeS HNS (i := 20) (v := .bool true) rfl (by kernel_rfl) (by kernel_rfl) (fun _ _ _ h => h) (Or.inl ⟨by kernel_rfl, fun W hW => ?_⟩) hS ?_
      · go_simp
      simp only [Act.put, List.getElem_toArray, List.getElem_cons_succ, List.getElem_cons_zero, List.setIfInBounds_toArray, List.set_cons_zero, List.set_cons_succ]
      refine wpAnyH_takeS HNS (i := 21) (v := .agg #[.int .i64 1, .int .i64 0]) rfl (by kernel_rfl) (by kernel_rfl) (fun _ _ _ h => h) (Or.inl ⟨by kernel_rfl, fun W hW => ?_⟩) hS ?_
      · (have hz := Held.below ryd hW; have z0 := hz.cell 0; have z1 := hz.cell 1; simp at z0 z1; go_simp)
      simp only [Act.put, List.getElem_toArray, List.getElem_cons_succ, List.getElem_cons_zero, List.setIfInBounds_toArray, List.set_cons_zero, List.set_cons_succ]
      refine wpAnyH_takeS HNS (i := 22) (v := .agg #[.int .i64 1, .int .i64 0]) rfl (by kernel_rfl) (by kernel_rfl) (fun _ _ _ h => h) (Or.inl ⟨by kernel_rfl, fun W hW => ?_⟩) hS ?_
      · (have hz := Held.below ra2d hW; have z0 := hz.cell 0; have z1 := hz.cell 1; simp at z0 z1; go_simp)
      simp only [Act.put, List.getElem_toArray, List.getElem_cons_succ, List.getElem_cons_zero, List.setIfInBounds_toArray, List.set_cons_zero, List.set_cons_succ]
      refine wpAnyH_takeS HNS (i := 23) (v := .bool true) rfl (by kernel_rfl) (by kernel_rfl) (fun _ _ _ h => h) (Or.inl ⟨by kernel_rfl, fun W hW => ?_⟩) hS ?_
      · go_simp
      simp only [Act.put, List.getElem_toArray, List.getElem_cons_succ, List.getElem_cons_zero, List.setIfInBounds_toArray, List.set_cons_zero, List.set_cons_succ]
      refine wpAnyH_takeS HNS (i := 24) (v := .bool true) rfl (by kernel_rfl) (by kernel_rfl) (fun _ _ _ h => h) (Or.inl ⟨by kernel_rfl, fun W hW => ?_⟩) hS ?_
      · go_simp
      simp only [Act.put, List.getElem_toArray, List.getElem_cons_succ, List.getElem_cons_zero, List.setIfInBounds_toArray, List.set_cons_zero, List.set_cons_succ]
      refine wpAnyH_takeS HNS (i := 25) (v := .bool true) rfl (by kernel_rfl) (by kernel_rfl) (fun _ _ _ h => h) (Or.inl ⟨by kernel_rfl, fun W hW => ?_⟩) hS ?_
      · go_simp
      simp only [Act.put, List.getElem_toArray, List.getElem_cons_succ, List.getElem_cons_zero, List.setIfInBounds_toArray, List.set_cons_zero, List.set_cons_succ]
      refine wpAnyH_takeS HNS (i := 26) (v := .slice (some ⟨gl, 0, none⟩) 2 cl) rfl (by kernel_rfl) (by kernel_rfl) (fun _ _ _ h => h) (Or.inl ⟨by kernel_rfl, fun W hW => ?_⟩) hS ?_
      · go_simp
      simp only [Act.put, List.getElem_toArray, List.getElem_cons_succ, List.getElem_cons_zero, List.setIfInBounds_toArray, List.set_cons_zero, List.set_cons_succ]
      refine wpAnyH_takeS HNS (i := 27) (v := .int .i64 (2 : Nat)) rfl (by kernel_rfl) (by kernel_rfl) (fun _ _ _ h => h) (Or.inl ⟨by kernel_rfl, fun W hW => ?_⟩) hS ?_
      · go_simp
      simp only [Act.put, List.getElem_toArray, List.getElem_cons_succ, List.getElem_cons_zero, List.setIfInBounds_toArray, List.set_cons_zero, List.set_cons_succ]
      refine wpAnyH_takeS HNS (i := 28) (v := .bool true) rfl (by kernel_rfl) (by kernel_rfl) (fun _ _ _ h => h) (Or.inl ⟨by kernel_rfl, fun W hW => ?_⟩) hS ?_
      · go_simp
      simp only [Act.put, List.getElem_toArray, List.getElem_cons_succ, List.getElem_cons_zero, List.setIfInBounds_toArray, List.set_cons_zero, List.set_cons_succ]
      refine wpAnyH_takeS HNS (i := 29) (v := .bool true) rfl (by kernel_rfl) (by kernel_rfl) (fun _ _ _ h => h) (Or.inl ⟨by kernel_rfl, fun W hW => ?_⟩) hS ?_
      · go_simp
      simp only [Act.put, List.getElem_toArray, List.getElem_cons_succ, List.getElem_cons_zero, List.setIfInBounds_toArray, List.set_cons_zero, List.set_cons_succ]
      as_aux_lemma =>
        refine wpAnyH_takeS HNS (i := 30) (v := .bool true) rfl (by kernel_rfl) (by kernel_rfl) (fun _ _ _ h => h) (Or.inl ⟨by kernel_rfl, fun W hW => ?_⟩) hS ?_
        · go_simp
        simp only [Act.put, List.getElem_toArray, List.getElem_cons_succ, List.getElem_cons_zero, List.setIfInBounds_toArray, List.set_cons_zero, List.set_cons_succ]
        refine wpAnyH_takeS HNS (i := 31) (v := .slice (some ⟨gl, 0, none⟩) 2 cl) rfl (by kernel_rfl) (by kernel_rfl) (fun _ _ _ h => h) (Or.inl ⟨by kernel_rfl, fun W hW => ?_⟩) hS ?_
        · go_simp
        simp only [Act.put, List.getElem_toArray, List.getElem_cons_succ, List.getElem_cons_zero, List.setIfInBounds_toArray, List.set_cons_zero, List.set_cons_succ]
        refine wpAnyH_takeS HNS (i := 32) (v := .pointer (some ⟨gl, 0, none⟩)) rfl (by kernel_rfl) (by kernel_rfl) (fun _ _ _ h => h) (Or.inl ⟨by kernel_rfl, fun W hW => ?_⟩) hS ?_
        · go_simp
        simp only [Act.put, List.getElem_toArray, List.getElem_cons_succ, List.getElem_cons_zero, List.setIfInBounds_toArray, List.set_cons_zero, List.set_cons_succ]
        refine wpAnyH_takeS HNS (i := 33) (v := .agg #[.int .i64 1, .int .i64 0]) rfl (by kernel_rfl) (by kernel_rfl) (fun _ _ _ h => h) (Or.inl ⟨by kernel_rfl, fun W hW => ?_⟩) hS ?_
        · (have z0 := (hW.cell (p := ⟨gl, _, none⟩) hgl).trans y0; have z1 := (hW.cell (p := ⟨gl, _, none⟩) hgl).trans y1; go_simp)
        simp only [Act.put, List.getElem_toArray, List.getElem_cons_succ, List.getElem_cons_zero, List.setIfInBounds_toArray, List.set_cons_zero, List.set_cons_succ]
        refine wpAnyH_takeS HNS (i := 34) (v := .agg #[.int .i64 1, .int .i64 0]) rfl (by kernel_rfl) (by kernel_rfl) (fun _ _ _ h => h) (Or.inl ⟨by kernel_rfl, fun W hW => ?_⟩) hS ?_
        · (have hz := Held.below ra2d hW; have z0 := hz.cell 0; have z1 := hz.cell 1; simp at z0 z1; go_simp)
        simp only [Act.put, List.getElem_toArray, List.getElem_cons_succ, List.getElem_cons_zero, List.setIfInBounds_toArray, List.set_cons_zero, List.set_cons_succ]
        refine wpAnyH_takeS HNS (i := 35) (v := .bool true) rfl (by kernel_rfl) (by kernel_rfl) (fun _ _ _ h => h) (Or.inl ⟨by kernel_rfl, fun W hW => ?_⟩) hS ?_
        · go_simp
        simp only [Act.put, List.getElem_toArray, List.getElem_cons_succ, List.getElem_cons_zero, List.setIfInBounds_toArray, List.set_cons_zero, List.set_cons_succ]
        refine wpAnyH_takeS HNS (i := 36) (v := .bool true) rfl (by kernel_rfl) (by kernel_rfl) (fun _ _ _ h => h) (Or.inl ⟨by kernel_rfl, fun W hW => ?_⟩) hS ?_
        · go_simp
        simp only [Act.put, List.getElem_toArray, List.getElem_cons_succ, List.getElem_cons_zero, List.setIfInBounds_toArray, List.set_cons_zero, List.set_cons_succ]
        refine wpAnyH_takeS HNS (i := 37) (v := .bool true) rfl (by kernel_rfl) (by kernel_rfl) (fun _ _ _ h => h) (Or.inl ⟨by kernel_rfl, fun W hW => ?_⟩) hS ?_
        · go_simp
        simp only [Act.put, List.getElem_toArray, List.getElem_cons_succ, List.getElem_cons_zero, List.setIfInBounds_toArray, List.set_cons_zero, List.set_cons_succ]
        refine wpAnyH_takeS HNS (i := 38) (v := .slice (some ⟨gl, 0, none⟩) 2 cl) rfl (by kernel_rfl) (by kernel_rfl) (fun _ _ _ h => h) (Or.inl ⟨by kernel_rfl, fun W hW => ?_⟩) hS ?_
        · go_simp
        simp only [Act.put, List.getElem_toArray, List.getElem_cons_succ, List.getElem_cons_zero, List.setIfInBounds_toArray, List.set_cons_zero, List.set_cons_succ]
        refine wpAnyH_takeS HNS (i := 39) (v := .pointer (some ⟨gl, 2, none⟩)) rfl (by kernel_rfl) (by kernel_rfl) (fun _ _ _ h => h) (Or.inl ⟨by kernel_rfl, fun W hW => ?_⟩) hS ?_
        · go_simp
        simp only [Act.put, List.getElem_toArray, List.getElem_cons_succ, List.getElem_cons_zero, List.setIfInBounds_toArray, List.set_cons_zero, List.set_cons_succ]
        as_aux_lemma =>
          refine wpAnyH_takeS HNS (i := 40) (v := .agg #[.int .i64 2, .int .i64 0]) rfl (by kernel_rfl) (by kernel_rfl) (fun _ _ _ h => h) (Or.inl ⟨by kernel_rfl, fun W hW => ?_⟩) hS ?_
          · (have z0 := (hW.cell (p := ⟨gl, _, none⟩) hgl).trans y2; have z1 := (hW.cell (p := ⟨gl, _, none⟩) hgl).trans y3; go_simp)
          simp only [Act.put, List.getElem_toArray, List.getElem_cons_succ, List.getElem_cons_zero, List.setIfInBounds_toArray, List.set_cons_zero, List.set_cons_succ]
          refine wpAnyH_takeS HNS (i := 41) (v := .agg #[.int .i64 2, .int .i64 0]) rfl (by kernel_rfl) (by kernel_rfl) (fun _ _ _ h => h) (Or.inl ⟨by kernel_rfl, fun W hW => ?_⟩) hS ?_
          · (have hz := Held.below rb2d hW; have z0 := hz.cell 0; have z1 := hz.cell 1; simp at z0 z1; go_simp)
          simp only [Act.put, List.getElem_toArray, List.getElem_cons_succ, List.getElem_cons_zero, List.setIfInBounds_toArray, List.set_cons_zero, List.set_cons_succ]
          refine wpAnyH_takeS HNS (i := 42) (v := .bool true) rfl (by kernel_rfl) (by kernel_rfl) (fun _ _ _ h => h) (Or.inl ⟨by kernel_rfl, fun W hW => ?_⟩) hS ?_
          · go_simp
          simp only [Act.put, List.getElem_toArray, List.getElem_cons_succ, List.getElem_cons_zero, List.setIfInBounds_toArray, List.set_cons_zero, List.set_cons_succ]
          refine wpAnyH_takeS HNS (i := 43) (v := .bool true) rfl (by kernel_rfl) (by kernel_rfl) (fun _ _ _ h => h) (Or.inl ⟨by kernel_rfl, fun W hW => ?_⟩) hS ?_
          · go_simp
          simp only [Act.put, List.getElem_toArray, List.getElem_cons_succ, List.getElem_cons_zero, List.setIfInBounds_toArray, List.set_cons_zero, List.set_cons_succ]
          refine wpAnyH_takeS HNS (i := 44) (v := .bool true) rfl (by kernel_rfl) (by kernel_rfl) (fun _ _ _ h => h) (Or.inl ⟨by kernel_rfl, fun W hW => ?_⟩) hS ?_
          · go_simp
          simp only [Act.put, List.getElem_toArray, List.getElem_cons_succ, List.getElem_cons_zero, List.setIfInBounds_toArray, List.set_cons_zero, List.set_cons_succ]
          refine wpAnyH_takeS HNS (i := 45) (v := .agg (rgc A4 q4.buf.length c4 q4.head q4.many q4.most)) rfl (by kernel_rfl) (by kernel_rfl) (fun _ _ _ h => h) (Or.inl ⟨by kernel_rfl, fun W hW => ?_⟩) hS ?_
          · (have hz := Held.below v5d.x hW; have z0 := hz.cell 0; have z1 := hz.cell 1; have z2 := hz.cell 2; have z3 := hz.cell 3; simp at z0 z1 z2 z3; go_simp)
          simp only [Act.put, List.getElem_toArray, List.getElem_cons_succ, List.getElem_cons_zero, List.setIfInBounds_toArray, List.set_cons_zero, List.set_cons_succ]
          refine wpAnyH_takeS HNS (i := 47) (v := .agg #[.int .i64 3, .int .i64 4]) rfl (by kernel_rfl) (by kernel_rfl) (fun _ _ _ h => h) (Or.inl ⟨by kernel_rfl, fun W hW => ?_⟩) hS ?_
          · (have hz := Held.below rc2d hW; have z0 := hz.cell 0; have z1 := hz.cell 1; simp at z0 z1; go_simp)
          simp only [Act.put, List.getElem_toArray, List.getElem_cons_succ, List.getElem_cons_zero, List.setIfInBounds_toArray, List.set_cons_zero, List.set_cons_succ]
          refine' join2 (S := _) (H := fun Wj1 _ _  => Below W11.heap.size W11 Wj1) ?both ?key
          case both =>
            intro key
            refine wpAnyH_ready (rs := [46, 48]) (by kernel_rfl) (by simp) ?_
            refine (AllReadyH.cons rfl (fun K hK => ?_) (AllReadyH.cons rfl (fun K hK => ?_) AllReadyH.nil))
            · rw [if_pos (by kernel_rfl)]
              go_simp
              go_at_call 23
              (with_reducible refine (items_c (n := 1) fi4 rfl c4 _ (v5d.read.below hS).p).mono ?_)
              rintro _ ui1 ⟨Ai1, ci1, rfl, wi1, hb1⟩
              have hpI := own2_at wi1
              replace hS := Below.step hS hb1
              (repeat (first | go_skip | go_guarded | go_step | go_upon))
              refine hK.out _ _ hS (fun _ => ?_)
              clear hK K
              (try simp only [Act.put, List.getElem_toArray, List.getElem_cons_succ, List.getElem_cons_zero, List.setIfInBounds_toArray, List.set_cons_zero, List.set_cons_succ])
              refine wpAnyH_ready (rs := [48]) (by kernel_rfl) (by simp) ?_
              refine (AllReadyH.cons rfl (fun K hK => ?_) AllReadyH.nil)
              · rw [if_pos (by kernel_rfl)]
                refine wp_build1R rfl rfl ?_
                have hbA := ((Below.refl _ _).alloc (Nat.le_refl _) _ : Below ui1.heap.size ui1 (ui1.alloc (.cells #[.int .i64 3, .int .i64 4] 33)))
                have hpB := pat_held (l := [(3, 4)]) (Held.new ui1 33 #[.int .i64 3, .int .i64 4])
                replace hpI := pat_later hpI hbA
                replace hS := Below.step hS hbA
                clear hbA
                generalize ui1.alloc (.cells #[.int .i64 3, .int .i64 4] 33) = ub2 at *
                refine hK.out _ _ hS (fun _ => ?_)
                clear hK K
                (try simp only [Act.put, List.getElem_toArray, List.getElem_cons_succ, List.getElem_cons_zero, List.setIfInBounds_toArray, List.set_cons_zero, List.set_cons_succ])
                refine wpAnyH_ready (rs := [49]) (by kernel_rfl) (by simp) ?_
                refine (AllReadyH.cons rfl (fun K hK => ?_) AllReadyH.nil)
                · rw [if_pos (by kernel_rfl)]
                  go_simp
                  go_at_call 22
                  (with_reducible refine (refs_c (n := 1) (m := 1) (l := [(3, 4)]) (k := [(3, 4)]) (R := true) rfl rfl (by decide) (by decide) (by decide) _ _ _ hpI hpB).mono ?_)
                  rintro _ ur3 ⟨rfl, hb3⟩
                  replace hS := Below.step hS hb3
                  (repeat (first | go_skip | go_guarded | go_step | go_upon))
                  refine hK.out _ _ hS (fun _ => ?_)
                  clear hK K
                  (try simp only [Act.put, List.getElem_toArray, List.getElem_cons_succ, List.getElem_cons_zero, List.setIfInBounds_toArray, List.set_cons_zero, List.set_cons_succ])
                  generalize (.slice Ai1 1 ci1 : Value) = x1y0
                  generalize (.slice (some ⟨ui1.heap.size, 0, none⟩) 1 1 : Value) = x1y1
                  exact key ur3 x1y0 x1y1 hS
            · rw [if_pos (by kernel_rfl)]
              refine wp_build1R rfl rfl ?_
              have hbA := ((Below.refl _ _).alloc (Nat.le_refl _) _ : Below W11.heap.size W11 (W11.alloc (.cells #[.int .i64 3, .int .i64 4] 33)))
              have hpB := pat_held (l := [(3, 4)]) (Held.new W11 33 #[.int .i64 3, .int .i64 4])
              replace hS := Below.step hS hbA
              clear hbA
              generalize W11.alloc (.cells #[.int .i64 3, .int .i64 4] 33) = ub4 at *
              refine hK.out _ _ hS (fun _ => ?_)
              clear hK K
              (try simp only [Act.put, List.getElem_toArray, List.getElem_cons_succ, List.getElem_cons_zero, List.setIfInBounds_toArray, List.set_cons_zero, List.set_cons_succ])
              refine wpAnyH_ready (rs := [46]) (by kernel_rfl) (by simp) ?_
              refine (AllReadyH.cons rfl (fun K hK => ?_) AllReadyH.nil)
              · rw [if_pos (by kernel_rfl)]
                go_simp
                go_at_call 23
                (with_reducible refine (items_c (n := 1) fi4 rfl c4 _ (v5d.read.below hS).p).mono ?_)
                rintro _ ui5 ⟨Ai5, ci5, rfl, wi5, hb5⟩
                have hpI := own2_at wi5
                replace hpB := pat_later hpB hb5
                replace hS := Below.step hS hb5
                (repeat (first | go_skip | go_guarded | go_step | go_upon))
                refine hK.out _ _ hS (fun _ => ?_)
                clear hK K
                (try simp only [Act.put, List.getElem_toArray, List.getElem_cons_succ, List.getElem_cons_zero, List.setIfInBounds_toArray, List.set_cons_zero, List.set_cons_succ])
                refine wpAnyH_ready (rs := [49]) (by kernel_rfl) (by simp) ?_
                refine (AllReadyH.cons rfl (fun K hK => ?_) AllReadyH.nil)
                · rw [if_pos (by kernel_rfl)]
                  go_simp
                  go_at_call 22
                  (with_reducible refine (refs_c (n := 1) (m := 1) (l := [(3, 4)]) (k := [(3, 4)]) (R := true) rfl rfl (by decide) (by decide) (by decide) _ _ _ hpI hpB).mono ?_)
                  rintro _ ur6 ⟨rfl, hb6⟩
                  replace hS := Below.step hS hb6
                  (repeat (first | go_skip | go_guarded | go_step | go_upon))
                  refine hK.out _ _ hS (fun _ => ?_)
                  clear hK K
                  (try simp only [Act.put, List.getElem_toArray, List.getElem_cons_succ, List.getElem_cons_zero, List.setIfInBounds_toArray, List.set_cons_zero, List.set_cons_succ])
                  generalize (.slice Ai5 1 ci5 : Value) = x1y0
                  generalize (.slice (some ⟨W11.heap.size, 0, none⟩) 1 1 : Value) = x1y1
                  exact key ur6 x1y0 x1y1 hS
          case key =>
            intro Wj1 x1y0 x1y1 hS
            as_aux_lemma =>
              refine wpAnyH_takeS HNS (i := 50) (v := .bool true) rfl (by kernel_rfl) (by kernel_rfl) (fun _ _ _ h => h) (Or.inl ⟨by kernel_rfl, fun W hW => ?_⟩) hS ?_
              · go_simp
              simp only [Act.put, List.getElem_toArray, List.getElem_cons_succ, List.getElem_cons_zero, List.setIfInBounds_toArray, List.set_cons_zero, List.set_cons_succ]
              refine wpAnyH_takeS HNS (i := 51) (v := .bool true) rfl (by kernel_rfl) (by kernel_rfl) (fun _ _ _ h => h) (Or.inl ⟨by kernel_rfl, fun W hW => ?_⟩) hS ?_
              · go_simp
              simp only [Act.put, List.getElem_toArray, List.getElem_cons_succ, List.getElem_cons_zero, List.setIfInBounds_toArray, List.set_cons_zero, List.set_cons_succ]
              refine wpAnyH_takeS HNS (i := 52) (v := .agg (rgc A2 q2.buf.length c2 q2.head q2.many q2.most)) rfl (by kernel_rfl) (by kernel_rfl) (fun _ _ _ h => h) (Or.inl ⟨by kernel_rfl, fun W hW => ?_⟩) hS ?_
              · (have hz := Held.below v3d.x hW; have z0 := hz.cell 0; have z1 := hz.cell 1; have z2 := hz.cell 2; have z3 := hz.cell 3; simp at z0 z1 z2 z3; go_simp)
              simp only [Act.put, List.getElem_toArray, List.getElem_cons_succ, List.getElem_cons_zero, List.setIfInBounds_toArray, List.set_cons_zero, List.set_cons_succ]
              refine wpAnyH_takeS HNS (i := 54) (v := .agg #[.int .i64 1, .int .i64 0]) rfl (by kernel_rfl) (by kernel_rfl) (fun _ _ _ h => h) (Or.inl ⟨by kernel_rfl, fun W hW => ?_⟩) hS ?_
              · (have hz := Held.below ra2d hW; have z0 := hz.cell 0; have z1 := hz.cell 1; simp at z0 z1; go_simp)
              simp only [Act.put, List.getElem_toArray, List.getElem_cons_succ, List.getElem_cons_zero, List.setIfInBounds_toArray, List.set_cons_zero, List.set_cons_succ]
              refine wpAnyH_takeS HNS (i := 55) (v := .agg #[.int .i64 2, .int .i64 0]) rfl (by kernel_rfl) (by kernel_rfl) (fun _ _ _ h => h) (Or.inl ⟨by kernel_rfl, fun W hW => ?_⟩) hS ?_
              · (have hz := Held.below rb2d hW; have z0 := hz.cell 0; have z1 := hz.cell 1; simp at z0 z1; go_simp)
              simp only [Act.put, List.getElem_toArray, List.getElem_cons_succ, List.getElem_cons_zero, List.setIfInBounds_toArray, List.set_cons_zero, List.set_cons_succ]
              refine' join2 (S := _) (H := fun Wj2 _ _  => Below W11.heap.size W11 Wj2) ?both ?key
              case both =>
                intro key
                refine wpAnyH_ready (rs := [53, 56]) (by kernel_rfl) (by simp) ?_
                refine (AllReadyH.cons rfl (fun K hK => ?_) (AllReadyH.cons rfl (fun K hK => ?_) AllReadyH.nil))
                · rw [if_pos (by kernel_rfl)]
                  go_simp
                  go_at_call 23
                  (with_reducible refine (items_c (n := 2) fi2 rfl c2 _ (v3d.read.below hS).p).mono ?_)
                  rintro _ ui7 ⟨Ai7, ci7, rfl, wi7, hb7⟩
                  have hpI := own2_at wi7
                  replace hS := Below.step hS hb7
                  (repeat (first | go_skip | go_guarded | go_step | go_upon))
                  refine hK.out _ _ hS (fun _ => ?_)
                  clear hK K
                  (try simp only [Act.put, List.getElem_toArray, List.getElem_cons_succ, List.getElem_cons_zero, List.setIfInBounds_toArray, List.set_cons_zero, List.set_cons_succ])
                  refine wpAnyH_ready (rs := [56]) (by kernel_rfl) (by simp) ?_
                  refine (AllReadyH.cons rfl (fun K hK => ?_) AllReadyH.nil)
                  · rw [if_pos (by kernel_rfl)]
                    refine wp_build2R rfl rfl rfl ?_
                    have hbA := ((Below.refl _ _).alloc (Nat.le_refl _) _ : Below ui7.heap.size ui7 (ui7.alloc (.cells #[.int .i64 1, .int .i64 0, .int .i64 2, .int .i64 0] 33)))
                    have hpB := pat_held (l := [(1, 0), (2, 0)]) (Held.new ui7 33 #[.int .i64 1, .int .i64 0, .int .i64 2, .int .i64 0])
                    replace hpI := pat_later hpI hbA
                    replace hS := Below.step hS hbA
                    clear hbA
                    generalize ui7.alloc (.cells #[.int .i64 1, .int .i64 0, .int .i64 2, .int .i64 0] 33) = ub8 at *
                    refine hK.out _ _ hS (fun _ => ?_)
                    clear hK K
                    (try simp only [Act.put, List.getElem_toArray, List.getElem_cons_succ, List.getElem_cons_zero, List.setIfInBounds_toArray, List.set_cons_zero, List.set_cons_succ])
                    refine wpAnyH_ready (rs := [57]) (by kernel_rfl) (by simp) ?_
                    refine (AllReadyH.cons rfl (fun K hK => ?_) AllReadyH.nil)
                    · rw [if_pos (by kernel_rfl)]
                      go_simp
                      go_at_call 22
                      (with_reducible refine (refs_c (n := 2) (m := 2) (l := [(1, 0), (2, 0)]) (k := [(1, 0), (2, 0)]) (R := true) rfl rfl (by decide) (by decide) (by decide) _ _ _ hpI hpB).mono ?_)
                      rintro _ ur9 ⟨rfl, hb9⟩
                      replace hS := Below.step hS hb9
                      (repeat (first | go_skip | go_guarded | go_step | go_upon))
                      refine hK.out _ _ hS (fun _ => ?_)
                      clear hK K
                      (try simp only [Act.put, List.getElem_toArray, List.getElem_cons_succ, List.getElem_cons_zero, List.setIfInBounds_toArray, List.set_cons_zero, List.set_cons_succ])
                      generalize (.slice Ai7 2 ci7 : Value) = x2y0
                      generalize (.slice (some ⟨ui7.heap.size, 0, none⟩) 2 2 : Value) = x2y1
                      exact key ur9 x2y0 x2y1 hS
                · rw [if_pos (by kernel_rfl)]
                  refine wp_build2R rfl rfl rfl ?_
                  have hbA := ((Below.refl _ _).alloc (Nat.le_refl _) _ : Below Wj1.heap.size Wj1 (Wj1.alloc (.cells #[.int .i64 1, .int .i64 0, .int .i64 2, .int .i64 0] 33)))
                  have hpB := pat_held (l := [(1, 0), (2, 0)]) (Held.new Wj1 33 #[.int .i64 1, .int .i64 0, .int .i64 2, .int .i64 0])
                  replace hS := Below.step hS hbA
                  clear hbA
                  generalize Wj1.alloc (.cells #[.int .i64 1, .int .i64 0, .int .i64 2, .int .i64 0] 33) = ub10 at *
                  refine hK.out _ _ hS (fun _ => ?_)
                  clear hK K
                  (try simp only [Act.put, List.getElem_toArray, List.getElem_cons_succ, List.getElem_cons_zero, List.setIfInBounds_toArray, List.set_cons_zero, List.set_cons_succ])
                  refine wpAnyH_ready (rs := [53]) (by kernel_rfl) (by simp) ?_
                  refine (AllReadyH.cons rfl (fun K hK => ?_) AllReadyH.nil)
                  · rw [if_pos (by kernel_rfl)]
                    go_simp
                    go_at_call 23
                    (with_reducible refine (items_c (n := 2) fi2 rfl c2 _ (v3d.read.below hS).p).mono ?_)
                    rintro _ ui11 ⟨Ai11, ci11, rfl, wi11, hb11⟩
                    have hpI := own2_at wi11
                    replace hpB := pat_later hpB hb11
                    replace hS := Below.step hS hb11
                    (repeat (first | go_skip | go_guarded | go_step | go_upon))
                    refine hK.out _ _ hS (fun _ => ?_)
                    clear hK K
                    (try simp only [Act.put, List.getElem_toArray, List.getElem_cons_succ, List.getElem_cons_zero, List.setIfInBounds_toArray, List.set_cons_zero, List.set_cons_succ])
                    refine wpAnyH_ready (rs := [57]) (by kernel_rfl) (by simp) ?_
                    refine (AllReadyH.cons rfl (fun K hK => ?_) AllReadyH.nil)
                    · rw [if_pos (by kernel_rfl)]
                      go_simp
                      go_at_call 22
                      (with_reducible refine (refs_c (n := 2) (m := 2) (l := [(1, 0), (2, 0)]) (k := [(1, 0), (2, 0)]) (R := true) rfl rfl (by decide) (by decide) (by decide) _ _ _ hpI hpB).mono ?_)
                      rintro _ ur12 ⟨rfl, hb12⟩
                      replace hS := Below.step hS hb12
                      (repeat (first | go_skip | go_guarded | go_step | go_upon))
                      refine hK.out _ _ hS (fun _ => ?_)
                      clear hK K
                      (try simp only [Act.put, List.getElem_toArray, List.getElem_cons_succ, List.getElem_cons_zero, List.setIfInBounds_toArray, List.set_cons_zero, List.set_cons_succ])
                      generalize (.slice Ai11 2 ci11 : Value) = x2y0
                      generalize (.slice (some ⟨Wj1.heap.size, 0, none⟩) 2 2 : Value) = x2y1
                      exact key ur12 x2y0 x2y1 hS
              case key =>
                intro Wj2 x2y0 x2y1 hS
                as_aux_lemma =>
                  refine wpAnyH_takeS HNS (i := 58) (v := .bool true) rfl (by kernel_rfl) (by kernel_rfl) (fun _ _ _ h => h) (Or.inl ⟨by kernel_rfl, fun W hW => ?_⟩) hS ?_
                  · go_simp
                  simp only [Act.put, List.getElem_toArray, List.getElem_cons_succ, List.getElem_cons_zero, List.setIfInBounds_toArray, List.set_cons_zero, List.set_cons_succ]
                  refine wpAnyH_takeS HNS (i := 59) (v := .bool true) rfl (by kernel_rfl) (by kernel_rfl) (fun _ _ _ h => h) (Or.inl ⟨by kernel_rfl, fun W hW => ?_⟩) hS ?_
                  · go_simp
                  simp only [Act.put, List.getElem_toArray, List.getElem_cons_succ, List.getElem_cons_zero, List.setIfInBounds_toArray, List.set_cons_zero, List.set_cons_succ]
                  refine wpAnyH_takeS HNS (i := 60) (v := .agg (rgc A3 q3.buf.length c3 q3.head q3.many q3.most)) rfl (by kernel_rfl) (by kernel_rfl) (fun _ _ _ h => h) (Or.inl ⟨by kernel_rfl, fun W hW => ?_⟩) hS ?_
                  · (have hz := Held.below v4d.x hW; have z0 := hz.cell 0; have z1 := hz.cell 1; have z2 := hz.cell 2; have z3 := hz.cell 3; simp at z0 z1 z2 z3; go_simp)
                  simp only [Act.put, List.getElem_toArray, List.getElem_cons_succ, List.getElem_cons_zero, List.setIfInBounds_toArray, List.set_cons_zero, List.set_cons_succ]
                  refine wpAnyH_takeS HNS (i := 62) (v := .agg #[.int .i64 2, .int .i64 0]) rfl (by kernel_rfl) (by kernel_rfl) (fun _ _ _ h => h) (Or.inl ⟨by kernel_rfl, fun W hW => ?_⟩) hS ?_
                  · (have hz := Held.below rb2d hW; have z0 := hz.cell 0; have z1 := hz.cell 1; simp at z0 z1; go_simp)
                  simp only [Act.put, List.getElem_toArray, List.getElem_cons_succ, List.getElem_cons_zero, List.setIfInBounds_toArray, List.set_cons_zero, List.set_cons_succ]
                  refine wpAnyH_takeS HNS (i := 63) (v := .agg #[.int .i64 3, .int .i64 4]) rfl (by kernel_rfl) (by kernel_rfl) (fun _ _ _ h => h) (Or.inl ⟨by kernel_rfl, fun W hW => ?_⟩) hS ?_
                  · (have hz := Held.below rc2d hW; have z0 := hz.cell 0; have z1 := hz.cell 1; simp at z0 z1; go_simp)
                  simp only [Act.put, List.getElem_toArray, List.getElem_cons_succ, List.getElem_cons_zero, List.setIfInBounds_toArray, List.set_cons_zero, List.set_cons_succ]
                  refine' join2 (S := _) (H := fun Wj3 _ _  => Below W11.heap.size W11 Wj3) ?both ?key
                  case both =>
                    intro key
                    refine wpAnyH_ready (rs := [61, 64]) (by kernel_rfl) (by simp) ?_
                    refine (AllReadyH.cons rfl (fun K hK => ?_) (AllReadyH.cons rfl (fun K hK => ?_) AllReadyH.nil))
                    · rw [if_pos (by kernel_rfl)]
                      go_simp
                      go_at_call 23
                      (with_reducible refine (items_c (n := 2) fi3 rfl c3 _ (v4d.read.below hS).p).mono ?_)
                      rintro _ ui13 ⟨Ai13, ci13, rfl, wi13, hb13⟩
                      have hpI := own2_at wi13
                      replace hS := Below.step hS hb13
                      (repeat (first | go_skip | go_guarded | go_step | go_upon))
                      refine hK.out _ _ hS (fun _ => ?_)
                      clear hK K
                      (try simp only [Act.put, List.getElem_toArray, List.getElem_cons_succ, List.getElem_cons_zero, List.setIfInBounds_toArray, List.set_cons_zero, List.set_cons_succ])
                      refine wpAnyH_ready (rs := [64]) (by kernel_rfl) (by simp) ?_
                      refine (AllReadyH.cons rfl (fun K hK => ?_) AllReadyH.nil)
                      · rw [if_pos (by kernel_rfl)]
                        refine wp_build2R rfl rfl rfl ?_
                        have hbA := ((Below.refl _ _).alloc (Nat.le_refl _) _ : Below ui13.heap.size ui13 (ui13.alloc (.cells #[.int .i64 2, .int .i64 0, .int .i64 3, .int .i64 4] 33)))
                        have hpB := pat_held (l := [(2, 0), (3, 4)]) (Held.new ui13 33 #[.int .i64 2, .int .i64 0, .int .i64 3, .int .i64 4])
                        replace hpI := pat_later hpI hbA
                        replace hS := Below.step hS hbA
                        clear hbA
                        generalize ui13.alloc (.cells #[.int .i64 2, .int .i64 0, .int .i64 3, .int .i64 4] 33) = ub14 at *
                        refine hK.out _ _ hS (fun _ => ?_)
                        clear hK K
                        (try simp only [Act.put, List.getElem_toArray, List.getElem_cons_succ, List.getElem_cons_zero, List.setIfInBounds_toArray, List.set_cons_zero, List.set_cons_succ])
                        refine wpAnyH_ready (rs := [65]) (by kernel_rfl) (by simp) ?_
                        refine (AllReadyH.cons rfl (fun K hK => ?_) AllReadyH.nil)
                        · rw [if_pos (by kernel_rfl)]
                          go_simp
                          go_at_call 22
                          (with_reducible refine (refs_c (n := 2) (m := 2) (l := [(2, 0), (3, 4)]) (k := [(2, 0), (3, 4)]) (R := true) rfl rfl (by decide) (by decide) (by decide) _ _ _ hpI hpB).mono ?_)
                          rintro _ ur15 ⟨rfl, hb15⟩
                          replace hS := Below.step hS hb15
                          (repeat (first | go_skip | go_guarded | go_step | go_upon))
                          refine hK.out _ _ hS (fun _ => ?_)
                          clear hK K
                          (try simp only [Act.put, List.getElem_toArray, List.getElem_cons_succ, List.getElem_cons_zero, List.setIfInBounds_toArray, List.set_cons_zero, List.set_cons_succ])
                          generalize (.slice Ai13 2 ci13 : Value) = x3y0
                          generalize (.slice (some ⟨ui13.heap.size, 0, none⟩) 2 2 : Value) = x3y1
                          exact key ur15 x3y0 x3y1 hS
                    · rw [if_pos (by kernel_rfl)]
                      refine wp_build2R rfl rfl rfl ?_
                      have hbA := ((Below.refl _ _).alloc (Nat.le_refl _) _ : Below Wj2.heap.size Wj2 (Wj2.alloc (.cells #[.int .i64 2, .int .i64 0, .int .i64 3, .int .i64 4] 33)))
                      have hpB := pat_held (l := [(2, 0), (3, 4)]) (Held.new Wj2 33 #[.int .i64 2, .int .i64 0, .int .i64 3, .int .i64 4])
                      replace hS := Below.step hS hbA
                      clear hbA
                      generalize Wj2.alloc (.cells #[.int .i64 2, .int .i64 0, .int .i64 3, .int .i64 4] 33) = ub16 at *
                      refine hK.out _ _ hS (fun _ => ?_)
                      clear hK K
                      (try simp only [Act.put, List.getElem_toArray, List.getElem_cons_succ, List.getElem_cons_zero, List.setIfInBounds_toArray, List.set_cons_zero, List.set_cons_succ])
                      refine wpAnyH_ready (rs := [61]) (by kernel_rfl) (by simp) ?_
                      refine (AllReadyH.cons rfl (fun K hK => ?_) AllReadyH.nil)
                      · rw [if_pos (by kernel_rfl)]
                        go_simp
                        go_at_call 23
                        (with_reducible refine (items_c (n := 2) fi3 rfl c3 _ (v4d.read.below hS).p).mono ?_)
                        rintro _ ui17 ⟨Ai17, ci17, rfl, wi17, hb17⟩
                        have hpI := own2_at wi17
                        replace hpB := pat_later hpB hb17
                        replace hS := Below.step hS hb17
                        (repeat (first | go_skip | go_guarded | go_step | go_upon))
                        refine hK.out _ _ hS (fun _ => ?_)
                        clear hK K
                        (try simp only [Act.put, List.getElem_toArray, List.getElem_cons_succ, List.getElem_cons_zero, List.setIfInBounds_toArray, List.set_cons_zero, List.set_cons_succ])
                        refine wpAnyH_ready (rs := [65]) (by kernel_rfl) (by simp) ?_
                        refine (AllReadyH.cons rfl (fun K hK => ?_) AllReadyH.nil)
                        · rw [if_pos (by kernel_rfl)]
                          go_simp
                          go_at_call 22
                          (with_reducible refine (refs_c (n := 2) (m := 2) (l := [(2, 0), (3, 4)]) (k := [(2, 0), (3, 4)]) (R := true) rfl rfl (by decide) (by decide) (by decide) _ _ _ hpI hpB).mono ?_)
                          rintro _ ur18 ⟨rfl, hb18⟩
                          replace hS := Below.step hS hb18
                          (repeat (first | go_skip | go_guarded | go_step | go_upon))
                          refine hK.out _ _ hS (fun _ => ?_)
                          clear hK K
                          (try simp only [Act.put, List.getElem_toArray, List.getElem_cons_succ, List.getElem_cons_zero, List.setIfInBounds_toArray, List.set_cons_zero, List.set_cons_succ])
                          generalize (.slice Ai17 2 ci17 : Value) = x3y0
                          generalize (.slice (some ⟨Wj2.heap.size, 0, none⟩) 2 2 : Value) = x3y1
                          exact key ur18 x3y0 x3y1 hS
                  case key =>
                    intro Wj3 x3y0 x3y1 hS
                    as_aux_lemma =>
                      refine wpAnyH_takeS HNS (i := 66) (v := .bool true) rfl (by kernel_rfl) (by kernel_rfl) (fun _ _ _ h => h) (Or.inl ⟨by kernel_rfl, fun W hW => ?_⟩) hS ?_
                      · go_simp
                      simp only [Act.put, List.getElem_toArray, List.getElem_cons_succ, List.getElem_cons_zero, List.setIfInBounds_toArray, List.set_cons_zero, List.set_cons_succ]
                      refine wpAnyH_takeS HNS (i := 67) (v := .bool true) rfl (by kernel_rfl) (by kernel_rfl) (fun _ _ _ h => h) (Or.inl ⟨by kernel_rfl, fun W hW => ?_⟩) hS ?_
                      · go_simp
                      simp only [Act.put, List.getElem_toArray, List.getElem_cons_succ, List.getElem_cons_zero, List.setIfInBounds_toArray, List.set_cons_zero, List.set_cons_succ]
                      refine wpAnyH_takeS HNS (i := 68) (v := .int .i64 0) rfl (by kernel_rfl) (by kernel_rfl) (fun _ _ _ h => h) (Or.inl ⟨by kernel_rfl, fun W hW => ?_⟩) hS ?_
                      · go_simp
                      simp only [Act.put, List.getElem_toArray, List.getElem_cons_succ, List.getElem_cons_zero, List.setIfInBounds_toArray, List.set_cons_zero, List.set_cons_succ]
                      refine wpAnyH_takeS HNS (i := 69) (v := .bool true) rfl (by kernel_rfl) (by kernel_rfl) (fun _ _ _ h => h) (Or.inl ⟨by kernel_rfl, fun W hW => ?_⟩) hS ?_
                      · go_simp
                      simp only [Act.put, List.getElem_toArray, List.getElem_cons_succ, List.getElem_cons_zero, List.setIfInBounds_toArray, List.set_cons_zero, List.set_cons_succ]
                      refine wpAnyH_takeS HNS (i := 70) (v := .bool true) rfl (by kernel_rfl) (by kernel_rfl) (fun _ _ _ h => h) (Or.inl ⟨by kernel_rfl, fun W hW => ?_⟩) hS ?_
                      · go_simp
                      simp only [Act.put, List.getElem_toArray, List.getElem_cons_succ, List.getElem_cons_zero, List.setIfInBounds_toArray, List.set_cons_zero, List.set_cons_succ]
                      refine wpAnyH_takeS HNS (i := 71) (v := .bool true) rfl (by kernel_rfl) (by kernel_rfl) (fun _ _ _ h => h) (Or.inl ⟨by kernel_rfl, fun W hW => ?_⟩) hS ?_
                      · go_simp
                      simp only [Act.put, List.getElem_toArray, List.getElem_cons_succ, List.getElem_cons_zero, List.setIfInBounds_toArray, List.set_cons_zero, List.set_cons_succ]
                      refine wpAnyH_takeS HNS (i := 72) (v := .agg (rgc A5 q5.buf.length c5 q5.head q5.many q5.most)) rfl (by kernel_rfl) (by kernel_rfl) (fun _ _ _ h => h) (Or.inl ⟨by kernel_rfl, fun W hW => ?_⟩) hS ?_
                      · (have hz := Held.below v6d.x hW; have z0 := hz.cell 0; have z1 := hz.cell 1; have z2 := hz.cell 2; have z3 := hz.cell 3; simp at z0 z1 z2 z3; go_simp)
                      simp only [Act.put, List.getElem_toArray, List.getElem_cons_succ, List.getElem_cons_zero, List.setIfInBounds_toArray, List.set_cons_zero, List.set_cons_succ]
                      refine wpAnyH_takeS HNS (i := 74) (v := .agg #[.int .i64 2, .int .i64 0]) rfl (by kernel_rfl) (by kernel_rfl) (fun _ _ _ h => h) (Or.inl ⟨by kernel_rfl, fun W hW => ?_⟩) hS ?_
                      · (have hz := Held.below rb2d hW; have z0 := hz.cell 0; have z1 := hz.cell 1; simp at z0 z1; go_simp)
                      simp only [Act.put, List.getElem_toArray, List.getElem_cons_succ, List.getElem_cons_zero, List.setIfInBounds_toArray, List.set_cons_zero, List.set_cons_succ]
                      refine wpAnyH_takeS HNS (i := 75) (v := .agg #[.int .i64 3, .int .i64 4]) rfl (by kernel_rfl) (by kernel_rfl) (fun _ _ _ h => h) (Or.inl ⟨by kernel_rfl, fun W hW => ?_⟩) hS ?_
                      · (have hz := Held.below rc2d hW; have z0 := hz.cell 0; have z1 := hz.cell 1; simp at z0 z1; go_simp)
                      simp only [Act.put, List.getElem_toArray, List.getElem_cons_succ, List.getElem_cons_zero, List.setIfInBounds_toArray, List.set_cons_zero, List.set_cons_succ]
                      refine wpAnyH_takeS HNS (i := 76) (v := .agg #[.int .i64 1, .int .i64 0]) rfl (by kernel_rfl) (by kernel_rfl) (fun _ _ _ h => h) (Or.inl ⟨by kernel_rfl, fun W hW => ?_⟩) hS ?_
                      · (have hz := Held.below ra2d hW; have z0 := hz.cell 0; have z1 := hz.cell 1; simp at z0 z1; go_simp)
                      simp only [Act.put, List.getElem_toArray, List.getElem_cons_succ, List.getElem_cons_zero, List.setIfInBounds_toArray, List.set_cons_zero, List.set_cons_succ]
                      as_aux_lemma =>
                        refine wpAnyH_takeS HNS (i := 77) (v := .agg #[.int .i64 1, .int .i64 0]) rfl (by kernel_rfl) (by kernel_rfl) (fun _ _ _ h => h) (Or.inl ⟨by kernel_rfl, fun W hW => ?_⟩) hS ?_
                        · (have hz := Held.below ra2d hW; have z0 := hz.cell 0; have z1 := hz.cell 1; simp at z0 z1; go_simp)
                        simp only [Act.put, List.getElem_toArray, List.getElem_cons_succ, List.getElem_cons_zero, List.setIfInBounds_toArray, List.set_cons_zero, List.set_cons_succ]
                        refine wpAnyH_takeS HNS (i := 78) (v := .agg #[.int .i64 1, .int .i64 0]) rfl (by kernel_rfl) (by kernel_rfl) (fun _ _ _ h => h) (Or.inl ⟨by kernel_rfl, fun W hW => ?_⟩) hS ?_
                        · (have hz := Held.below ra2d hW; have z0 := hz.cell 0; have z1 := hz.cell 1; simp at z0 z1; go_simp)
                        simp only [Act.put, List.getElem_toArray, List.getElem_cons_succ, List.getElem_cons_zero, List.setIfInBounds_toArray, List.set_cons_zero, List.set_cons_succ]
                        refine' join2 (S := _) (H := fun Wj4 _ _  => Below W11.heap.size W11 Wj4) ?both ?key
                        case both =>
                          intro key
                          refine wpAnyH_ready (rs := [73, 79]) (by kernel_rfl) (by simp) ?_
                          refine (AllReadyH.cons rfl (fun K hK => ?_) (AllReadyH.cons rfl (fun K hK => ?_) AllReadyH.nil))
                          · rw [if_pos (by kernel_rfl)]
                            go_simp
                            go_at_call 23
                            (with_reducible refine (items_c (n := 5) fi5 rfl c5 _ (v6d.read.below hS).p).mono ?_)
                            rintro _ ui19 ⟨Ai19, ci19, rfl, wi19, hb19⟩
                            have hpI := own2_at wi19
                            replace hS := Below.step hS hb19
                            (repeat (first | go_skip | go_guarded | go_step | go_upon))
                            refine hK.out _ _ hS (fun _ => ?_)
                            clear hK K
                            (try simp only [Act.put, List.getElem_toArray, List.getElem_cons_succ, List.getElem_cons_zero, List.setIfInBounds_toArray, List.set_cons_zero, List.set_cons_succ])
                            refine wpAnyH_ready (rs := [79]) (by kernel_rfl) (by simp) ?_
                            refine (AllReadyH.cons rfl (fun K hK => ?_) AllReadyH.nil)
                            · rw [if_pos (by kernel_rfl)]
                              refine wp_build5R rfl rfl rfl rfl rfl rfl ?_
                              have hbA := ((Below.refl _ _).alloc (Nat.le_refl _) _ : Below ui19.heap.size ui19 (ui19.alloc (.cells #[.int .i64 2, .int .i64 0, .int .i64 3, .int .i64 4, .int .i64 1, .int .i64 0, .int .i64 1, .int .i64 0, .int .i64 1, .int .i64 0] 33)))
                              have hpB := pat_held (l := [(2, 0), (3, 4), (1, 0), (1, 0), (1, 0)]) (Held.new ui19 33 #[.int .i64 2, .int .i64 0, .int .i64 3, .int .i64 4, .int .i64 1, .int .i64 0, .int .i64 1, .int .i64 0, .int .i64 1, .int .i64 0])
                              replace hpI := pat_later hpI hbA
                              replace hS := Below.step hS hbA
                              clear hbA
                              generalize ui19.alloc (.cells #[.int .i64 2, .int .i64 0, .int .i64 3, .int .i64 4, .int .i64 1, .int .i64 0, .int .i64 1, .int .i64 0, .int .i64 1, .int .i64 0] 33) = ub20 at *
                              refine hK.out _ _ hS (fun _ => ?_)
                              clear hK K
                              (try simp only [Act.put, List.getElem_toArray, List.getElem_cons_succ, List.getElem_cons_zero, List.setIfInBounds_toArray, List.set_cons_zero, List.set_cons_succ])
                              refine wpAnyH_ready (rs := [80]) (by kernel_rfl) (by simp) ?_
                              refine (AllReadyH.cons rfl (fun K hK => ?_) AllReadyH.nil)
                              · rw [if_pos (by kernel_rfl)]
                                go_simp
                                go_at_call 22
                                (with_reducible refine (refs_c (n := 5) (m := 5) (l := [(2, 0), (3, 4), (1, 0), (1, 0), (1, 0)]) (k := [(2, 0), (3, 4), (1, 0), (1, 0), (1, 0)]) (R := true) rfl rfl (by decide) (by decide) (by decide) _ _ _ hpI hpB).mono ?_)
                                rintro _ ur21 ⟨rfl, hb21⟩
                                replace hS := Below.step hS hb21
                                (repeat (first | go_skip | go_guarded | go_step | go_upon))
                                refine hK.out _ _ hS (fun _ => ?_)
                                clear hK K
                                (try simp only [Act.put, List.getElem_toArray, List.getElem_cons_succ, List.getElem_cons_zero, List.setIfInBounds_toArray, List.set_cons_zero, List.set_cons_succ])
                                generalize (.slice Ai19 5 ci19 : Value) = x4y0
                                generalize (.slice (some ⟨ui19.heap.size, 0, none⟩) 5 5 : Value) = x4y1
                                exact key ur21 x4y0 x4y1 hS
                          · rw [if_pos (by kernel_rfl)]
                            refine wp_build5R rfl rfl rfl rfl rfl rfl ?_
                            have hbA := ((Below.refl _ _).alloc (Nat.le_refl _) _ : Below Wj3.heap.size Wj3 (Wj3.alloc (.cells #[.int .i64 2, .int .i64 0, .int .i64 3, .int .i64 4, .int .i64 1, .int .i64 0, .int .i64 1, .int .i64 0, .int .i64 1, .int .i64 0] 33)))
                            have hpB := pat_held (l := [(2, 0), (3, 4), (1, 0), (1, 0), (1, 0)]) (Held.new Wj3 33 #[.int .i64 2, .int .i64 0, .int .i64 3, .int .i64 4, .int .i64 1, .int .i64 0, .int .i64 1, .int .i64 0, .int .i64 1, .int .i64 0])
                            replace hS := Below.step hS hbA
                            clear hbA
                            generalize Wj3.alloc (.cells #[.int .i64 2, .int .i64 0, .int .i64 3, .int .i64 4, .int .i64 1, .int .i64 0, .int .i64 1, .int .i64 0, .int .i64 1, .int .i64 0] 33) = ub22 at *
                            refine hK.out _ _ hS (fun _ => ?_)
                            clear hK K
                            (try simp only [Act.put, List.getElem_toArray, List.getElem_cons_succ, List.getElem_cons_zero, List.setIfInBounds_toArray, List.set_cons_zero, List.set_cons_succ])
                            refine wpAnyH_ready (rs := [73]) (by kernel_rfl) (by simp) ?_
                            refine (AllReadyH.cons rfl (fun K hK => ?_) AllReadyH.nil)
                            · rw [if_pos (by kernel_rfl)]
                              go_simp
                              go_at_call 23
                              (with_reducible refine (items_c (n := 5) fi5 rfl c5 _ (v6d.read.below hS).p).mono ?_)
                              rintro _ ui23 ⟨Ai23, ci23, rfl, wi23, hb23⟩
                              have hpI := own2_at wi23
                              replace hpB := pat_later hpB hb23
                              replace hS := Below.step hS hb23
                              (repeat (first | go_skip | go_guarded | go_step | go_upon))
                              refine hK.out _ _ hS (fun _ => ?_)
                              clear hK K
                              (try simp only [Act.put, List.getElem_toArray, List.getElem_cons_succ, List.getElem_cons_zero, List.setIfInBounds_toArray, List.set_cons_zero, List.set_cons_succ])
                              refine wpAnyH_ready (rs := [80]) (by kernel_rfl) (by simp) ?_
                              refine (AllReadyH.cons rfl (fun K hK => ?_) AllReadyH.nil)
                              · rw [if_pos (by kernel_rfl)]
                                go_simp
                                go_at_call 22
                                (with_reducible refine (refs_c (n := 5) (m := 5) (l := [(2, 0), (3, 4), (1, 0), (1, 0), (1, 0)]) (k := [(2, 0), (3, 4), (1, 0), (1, 0), (1, 0)]) (R := true) rfl rfl (by decide) (by decide) (by decide) _ _ _ hpI hpB).mono ?_)
                                rintro _ ur24 ⟨rfl, hb24⟩
                                replace hS := Below.step hS hb24
                                (repeat (first | go_skip | go_guarded | go_step | go_upon))
                                refine hK.out _ _ hS (fun _ => ?_)
                                clear hK K
                                (try simp only [Act.put, List.getElem_toArray, List.getElem_cons_succ, List.getElem_cons_zero, List.setIfInBounds_toArray, List.set_cons_zero, List.set_cons_succ])
                                generalize (.slice Ai23 5 ci23 : Value) = x4y0
                                generalize (.slice (some ⟨Wj3.heap.size, 0, none⟩) 5 5 : Value) = x4y1
                                exact key ur24 x4y0 x4y1 hS
                        case key =>
                          intro Wj4 x4y0 x4y1 hS
                          as_aux_lemma =>
                            refine wpAnyH_takeS HNS (i := 81) (v := .bool true) rfl (by kernel_rfl) (by kernel_rfl) (fun _ _ _ h => h) (Or.inl ⟨by kernel_rfl, fun W hW => ?_⟩) hS ?_
                            · go_simp
                            simp only [Act.put, List.getElem_toArray, List.getElem_cons_succ, List.getElem_cons_zero, List.setIfInBounds_toArray, List.set_cons_zero, List.set_cons_succ]
                            refine wpAnyH_takeS HNS (i := 82) (v := .bool true) rfl (by kernel_rfl) (by kernel_rfl) (fun _ _ _ h => h) (Or.inl ⟨by kernel_rfl, fun W hW => ?_⟩) hS ?_
                            · go_simp
                            simp only [Act.put, List.getElem_toArray, List.getElem_cons_succ, List.getElem_cons_zero, List.setIfInBounds_toArray, List.set_cons_zero, List.set_cons_succ]
                            refine wpAnyH_takeS HNS (i := 83) (v := .int .i64 110) rfl (by kernel_rfl) (by kernel_rfl) (fun _ _ _ h => h) (Or.inl ⟨by kernel_rfl, fun W hW => ?_⟩) hS ?_
                            · go_simp
                            simp only [Act.put, List.getElem_toArray, List.getElem_cons_succ, List.getElem_cons_zero, List.setIfInBounds_toArray, List.set_cons_zero, List.set_cons_succ]
                            refine wpAnyH_takeS HNS (i := 84) (v := .bool true) rfl (by kernel_rfl) (by kernel_rfl) (fun _ _ _ h => h) (Or.inl ⟨by kernel_rfl, fun W hW => ?_⟩) hS ?_
                            · go_simp
                            simp only [Act.put, List.getElem_toArray, List.getElem_cons_succ, List.getElem_cons_zero, List.setIfInBounds_toArray, List.set_cons_zero, List.set_cons_succ]
                            refine wpAnyH_takeS HNS (i := 85) (v := .bool true) rfl (by kernel_rfl) (by kernel_rfl) (fun _ _ _ h => h) (Or.inl ⟨by kernel_rfl, fun W hW => ?_⟩) hS ?_
                            · go_simp
                            simp only [Act.put, List.getElem_toArray, List.getElem_cons_succ, List.getElem_cons_zero, List.setIfInBounds_toArray, List.set_cons_zero, List.set_cons_succ]
                            refine wpAnyH_takeS HNS (i := 86) (v := .bool true) rfl (by kernel_rfl) (by kernel_rfl) (fun _ _ _ h => h) (Or.inl ⟨by kernel_rfl, fun W hW => ?_⟩) hS ?_
                            · go_simp
                            simp only [Act.put, List.getElem_toArray, List.getElem_cons_succ, List.getElem_cons_zero, List.setIfInBounds_toArray, List.set_cons_zero, List.set_cons_succ]
                            refine wpAnyH_takeS HNS (i := 87) (v := .int .i64 1) rfl (by kernel_rfl) (by kernel_rfl) (fun _ _ _ h => h) (Or.inl ⟨by kernel_rfl, fun W hW => ?_⟩) hS ?_
                            · go_simp
                            simp only [Act.put, List.getElem_toArray, List.getElem_cons_succ, List.getElem_cons_zero, List.setIfInBounds_toArray, List.set_cons_zero, List.set_cons_succ]
                            refine wpAnyH_takeS HNS (i := 88) (v := .bool true) rfl (by kernel_rfl) (by kernel_rfl) (fun _ _ _ h => h) (Or.inl ⟨by kernel_rfl, fun W hW => ?_⟩) hS ?_
                            · go_simp
                            simp only [Act.put, List.getElem_toArray, List.getElem_cons_succ, List.getElem_cons_zero, List.setIfInBounds_toArray, List.set_cons_zero, List.set_cons_succ]
                            refine wpAnyH_takeS HNS (i := 89) (v := .bool true) rfl (by kernel_rfl) (by kernel_rfl) (fun _ _ _ h => h) (Or.inl ⟨by kernel_rfl, fun W hW => ?_⟩) hS ?_
                            · go_simp
                            simp only [Act.put, List.getElem_toArray, List.getElem_cons_succ, List.getElem_cons_zero, List.setIfInBounds_toArray, List.set_cons_zero, List.set_cons_succ]
                            refine wpAnyH_takeS HNS (i := 90) (v := .bool true) rfl (by kernel_rfl) (by kernel_rfl) (fun _ _ _ h => h) (Or.inl ⟨by kernel_rfl, fun W hW => ?_⟩) hS ?_
                            · go_simp
                            simp only [Act.put, List.getElem_toArray, List.getElem_cons_succ, List.getElem_cons_zero, List.setIfInBounds_toArray, List.set_cons_zero, List.set_cons_succ]
                            as_aux_lemma =>
                              refine wpAnyH_takeS HNS (i := 91) (v := .agg (rgc A5 q5.buf.length c5 q5.head q5.many q5.most)) rfl (by kernel_rfl) (by kernel_rfl) (fun _ _ _ h => h) (Or.inl ⟨by kernel_rfl, fun W hW => ?_⟩) hS ?_
                              · (have hz := Held.below v6d.x hW; have z0 := hz.cell 0; have z1 := hz.cell 1; have z2 := hz.cell 2; have z3 := hz.cell 3; simp at z0 z1 z2 z3; go_simp)
                              simp only [Act.put, List.getElem_toArray, List.getElem_cons_succ, List.getElem_cons_zero, List.setIfInBounds_toArray, List.set_cons_zero, List.set_cons_succ]
                              refine wpAnyH_ready (rs := [92]) (by kernel_rfl) (by simp) ?_
                              refine (AllReadyH.cons rfl (fun K hK => ?_) AllReadyH.nil)
                              · rw [if_pos (by kernel_rfl)]
                                go_simp
                                go_at_call 25
                                (with_reducible refine (may_c fm5 _ _ _).mono ?_)
                                rintro _ um25 ⟨rfl, hb25⟩
                                replace hS := Below.step hS hb25
                                (repeat (first | go_skip | go_guarded | go_step | go_upon))
                                refine hK.out _ _ hS (fun _ => ?_)
                                clear hK K
                                (try simp only [Act.put, List.getElem_toArray, List.getElem_cons_succ, List.getElem_cons_zero, List.setIfInBounds_toArray, List.set_cons_zero, List.set_cons_succ])
                                refine wpAnyH_takeS HNS (i := 93) (v := .bool true) rfl (by kernel_rfl) (by kernel_rfl) (fun _ _ _ h => h) (Or.inl ⟨by kernel_rfl, fun W hW => ?_⟩) hS ?_
                                · go_simp
                                simp only [Act.put, List.getElem_toArray, List.getElem_cons_succ, List.getElem_cons_zero, List.setIfInBounds_toArray, List.set_cons_zero, List.set_cons_succ]
                                refine wpAnyH_takeS HNS (i := 94) (v := .bool true) rfl (by kernel_rfl) (by kernel_rfl) (fun _ _ _ h => h) (Or.inl ⟨by kernel_rfl, fun W hW => ?_⟩) hS ?_
                                · go_simp
                                simp only [Act.put, List.getElem_toArray, List.getElem_cons_succ, List.getElem_cons_zero, List.setIfInBounds_toArray, List.set_cons_zero, List.set_cons_succ]
                                refine wpAnyH_takeS HNS (i := 95) (v := .agg #[.slice none 0 0, .int .i64 0, .int .i64 0, .int .i64 0]) rfl (by kernel_rfl) (by kernel_rfl) (fun _ _ _ h => h) (Or.inl ⟨by kernel_rfl, fun W hW => ?_⟩) hS ?_
                                · go_simp
                                simp only [Act.put, List.getElem_toArray, List.getElem_cons_succ, List.getElem_cons_zero, List.setIfInBounds_toArray, List.set_cons_zero, List.set_cons_succ]
                                refine wpAnyH_ready (rs := [96]) (by kernel_rfl) (by simp) ?_
                                refine (AllReadyH.cons rfl (fun K hK => ?_) AllReadyH.nil)
                                · rw [if_pos (by kernel_rfl)]
                                  go_simp
                                  go_at_call 25
                                  (with_reducible refine (CZ _).mono ?_)
                                  rintro _ um26 ⟨rfl, hb26⟩
                                  replace hS := Below.step hS hb26
                                  (repeat (first | go_skip | go_guarded | go_step | go_upon))
                                  refine hK.out _ _ hS (fun _ => ?_)
                                  clear hK K
                                  (try simp only [Act.put, List.getElem_toArray, List.getElem_cons_succ, List.getElem_cons_zero, List.setIfInBounds_toArray, List.set_cons_zero, List.set_cons_succ])
                                  refine wpAnyH_takeS HNS (i := 97) (v := .bool true) rfl (by kernel_rfl) (by kernel_rfl) (fun _ _ _ h => h) (Or.inl ⟨by kernel_rfl, fun W hW => ?_⟩) hS ?_
                                  · go_simp
                                  simp only [Act.put, List.getElem_toArray, List.getElem_cons_succ, List.getElem_cons_zero, List.setIfInBounds_toArray, List.set_cons_zero, List.set_cons_succ]
                                  refine wpAnyH_takeS HNS (i := 98) (v := .bool true) rfl (by kernel_rfl) (by kernel_rfl) (fun _ _ _ h => h) (Or.inl ⟨by kernel_rfl, fun W hW => ?_⟩) hS ?_
                                  · go_simp
                                  simp only [Act.put, List.getElem_toArray, List.getElem_cons_succ, List.getElem_cons_zero, List.setIfInBounds_toArray, List.set_cons_zero, List.set_cons_succ]
                                  refine wpAnyH_takeS HNS (i := 99) (v := .bool true) rfl (by kernel_rfl) (by kernel_rfl) (fun _ _ _ h => h) (Or.inl ⟨by kernel_rfl, fun W hW => ?_⟩) hS ?_
                                  · go_simp
                                  simp only [Act.put, List.getElem_toArray, List.getElem_cons_succ, List.getElem_cons_zero, List.setIfInBounds_toArray, List.set_cons_zero, List.set_cons_succ]
                                  refine wpAnyH_takeS HNS (i := 100) (v := .pointer (some ⟨g1, 0, none⟩)) rfl (by kernel_rfl) (by kernel_rfl) (fun _ _ _ h => h) (Or.inl ⟨by kernel_rfl, fun W hW => ?_⟩) hS ?_
                                  · go_simp
                                  simp only [Act.put, List.getElem_toArray, List.getElem_cons_succ, List.getElem_cons_zero, List.setIfInBounds_toArray, List.set_cons_zero, List.set_cons_succ]
                                  refine wpAnyH_takeS HNS (i := 101) (v := .slice A9 q1.buf.length c9) rfl (by kernel_rfl) (by kernel_rfl) (fun _ _ _ h => h) (Or.inl ⟨by kernel_rfl, fun W hW => ?_⟩) hS ?_
                                  · (have hz := Held.below v2d.x hW; have z0 := hz.cell 0; simp at z0; go_simp)
                                  simp only [Act.put, List.getElem_toArray, List.getElem_cons_succ, List.getElem_cons_zero, List.setIfInBounds_toArray, List.set_cons_zero, List.set_cons_succ]
                                  refine wpAnyH_takeS HNS (i := 102) (v := .int .i64 (q1.buf.length : Nat)) rfl (by kernel_rfl) (by kernel_rfl) (fun _ _ _ h => h) (Or.inl ⟨by kernel_rfl, fun W hW => ?_⟩) hS ?_
                                  · go_simp
                                  simp only [Act.put, List.getElem_toArray, List.getElem_cons_succ, List.getElem_cons_zero, List.setIfInBounds_toArray, List.set_cons_zero, List.set_cons_succ]
                                  refine wpAnyH_takeS HNS (i := 103) (v := .bool true) rfl (by kernel_rfl) (by kernel_rfl) (fun _ _ _ h => h) (Or.inl ⟨by kernel_rfl, fun W hW => ?_⟩) hS ?_
                                  · (obtain ⟨k1, k5⟩ := HN.out; go_simp)
                                  simp only [Act.put, List.getElem_toArray, List.getElem_cons_succ, List.getElem_cons_zero, List.setIfInBounds_toArray, List.set_cons_zero, List.set_cons_succ]
                                  refine wpAnyH_takeS HNS (i := 104) (v := .bool true) rfl (by kernel_rfl) (by kernel_rfl) (fun _ _ _ h => h) (Or.inl ⟨by kernel_rfl, fun W hW => ?_⟩) hS ?_
                                  · go_simp
                                  simp only [Act.put, List.getElem_toArray, List.getElem_cons_succ, List.getElem_cons_zero, List.setIfInBounds_toArray, List.set_cons_zero, List.set_cons_succ]
                                  refine wpAnyH_takeS HNS (i := 105) (v := .bool true) rfl (by kernel_rfl) (by kernel_rfl) (fun _ _ _ h => h) (Or.inl ⟨by kernel_rfl, fun W hW => ?_⟩) hS ?_
                                  · go_simp
                                  simp only [Act.put, List.getElem_toArray, List.getElem_cons_succ, List.getElem_cons_zero, List.setIfInBounds_toArray, List.set_cons_zero, List.set_cons_succ]
                                  refine wpAnyH_takeS HNS (i := 106) (v := .pointer (some ⟨g17, 0, none⟩)) rfl (by kernel_rfl) (by kernel_rfl) (fun _ _ _ h => h) (Or.inl ⟨by kernel_rfl, fun W hW => ?_⟩) hS ?_
                                  · go_simp
                                  simp only [Act.put, List.getElem_toArray, List.getElem_cons_succ, List.getElem_cons_zero, List.setIfInBounds_toArray, List.set_cons_zero, List.set_cons_succ]
                                  as_aux_lemma =>
                                    refine wpAnyH_takeS HNS (i := 107) (v := .slice A5 q5.buf.length c5) rfl (by kernel_rfl) (by kernel_rfl) (fun _ _ _ h => h) (Or.inl ⟨by kernel_rfl, fun W hW => ?_⟩) hS ?_
                                    · (have hz := Held.below v6d.x hW; have z0 := hz.cell 0; simp at z0; go_simp)
                                    simp only [Act.put, List.getElem_toArray, List.getElem_cons_succ, List.getElem_cons_zero, List.setIfInBounds_toArray, List.set_cons_zero, List.set_cons_succ]
                                    refine wpAnyH_takeS HNS (i := 108) (v := .int .i64 (q5.buf.length : Nat)) rfl (by kernel_rfl) (by kernel_rfl) (fun _ _ _ h => h) (Or.inl ⟨by kernel_rfl, fun W hW => ?_⟩) hS ?_
                                    · go_simp
                                    simp only [Act.put, List.getElem_toArray, List.getElem_cons_succ, List.getElem_cons_zero, List.setIfInBounds_toArray, List.set_cons_zero, List.set_cons_succ]
                                    refine wpAnyH_takeS HNS (i := 109) (v := .bool true) rfl (by kernel_rfl) (by kernel_rfl) (fun _ _ _ h => h) (Or.inl ⟨by kernel_rfl, fun W hW => ?_⟩) hS ?_
                                    · (obtain ⟨k1, k5⟩ := HN.out; go_simp)
                                    simp only [Act.put, List.getElem_toArray, List.getElem_cons_succ, List.getElem_cons_zero, List.setIfInBounds_toArray, List.set_cons_zero, List.set_cons_succ]
                                    refine wpAnyH_takeS HNS (i := 110) (v := .bool true) rfl (by kernel_rfl) (by kernel_rfl) (fun _ _ _ h => h) (Or.inl ⟨by kernel_rfl, fun W hW => ?_⟩) hS ?_
                                    · go_simp
                                    simp only [Act.put, List.getElem_toArray, List.getElem_cons_succ, List.getElem_cons_zero, List.setIfInBounds_toArray, List.set_cons_zero, List.set_cons_succ]
                                    refine wpAnyH_takeS HNS (i := 111) (v := .bool true) rfl (by kernel_rfl) (by kernel_rfl) (fun _ _ _ h => h) (Or.inl ⟨by kernel_rfl, fun W hW => ?_⟩) hS ?_
                                    · go_simp
                                    simp only [Act.put, List.getElem_toArray, List.getElem_cons_succ, List.getElem_cons_zero, List.setIfInBounds_toArray, List.set_cons_zero, List.set_cons_succ]
                                    refine wpAnyH_done (by kernel_rfl) ?_ _
                                    (repeat (first | go_skip | go_guarded | go_step | go_upon))
                                    go_ret
                                    exact ⟨rfl, Below.step hBd hS⟩
end Go.Proofs.Ythmnaclmbglkdaa
