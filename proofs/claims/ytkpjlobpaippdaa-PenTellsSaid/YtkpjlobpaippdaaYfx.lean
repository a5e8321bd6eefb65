/- Layer 12: the calls whose answers the document fixes. -/
import Derived.Test.YtkpjlobpaippdaaYfl
namespace Go.Proofs.Ytkpjlobpaippdaa
set_option linter.unusedVariables false
set_option linter.unusedSimpArgs false
open Go.RowKit Go.ChangeShapes Go.WideShapes Go.ChangeAt Go.Sort

set_option maxHeartbeats 8000000 in
set_option maxRecDepth 100000 in
theorem fixed_true (w : World) : Calls Try.prog 11 #[] w fun e w' => e = .returned (.bool true) ∧ Below w.heap.size w w' := by
  have hB : Below w.heap.size w w := Below.refl _ _
  have L0 : LenZ x0 := x_len (by simp)
  have L1 : LenZ x1 := x_len (by simp)
  have L2 : LenZ x2 := x_len (by simp)
  have Lq : LenZ xq := x_len (by simp)
  have Ls : LenZ xs := x_len (by simp)
  have Lt : LenZ xt := x_len (by simp)
  have Lz : LenZ zp0 := x_len (by simp)
  go_enter Try.func11, Try.ntmps11
  go_upto_region 2 with (first
    | (go_at_call 20; (with_reducible refine (new_c fx_new _).mono ?_); rintro _ u ⟨rfl, ho, hb⟩; have hn := Held.new u 25 pz0)
    | (guard_target = wpList _ _ _ (Oper.mk _ (Op.store 25 (.tmp 1) _) _ _ _ none :: _) _ _; refine wpList_store_row rfl 25 _ _ rfl u.heap.size (pc none x0.cells.length 0 none x0.free.length 0 x0.most) rfl rfl _ _ hn (by kernel_rfl) rfl (by simp [Value.oneCell']) ?_))
  have hgu := hb.size
  obtain ⟨v1, hbW⟩ := new_p1 (c := 0) (c2 := 0) (P := x0) hb ho
  clear hb ho hn
  replace hB := Below.step hB hbW
  clear hbW
  generalize World.setRow _ u.heap.size _ = W1 at *
  generalize hg : u.heap.size = g1 at *
  have HGB : Hid (w.heap.size ≤ g1) := Lib.hid hgu
  clear hg hgu
  go_upto_region 3 with (first
    | (go_at_call 20; (with_reducible refine (new_c fx_new2 _).mono ?_); rintro _ u ⟨rfl, ho, hb⟩; have hn := Held.new u 25 pz0)
    | (guard_target = wpList _ _ _ (Oper.mk _ (Op.store 25 (.tmp 3) _) _ _ _ none :: _) _ _; refine wpList_store_row rfl 25 _ _ rfl u.heap.size (pc none zp0.cells.length 0 none zp0.free.length 0 zp0.most) rfl rfl _ _ hn (by kernel_rfl) rfl (by simp [Value.oneCell']) ?_))
  obtain ⟨v3, hbW⟩ := new_p1 (c := 0) (c2 := 0) (P := zp0) hb ho
  clear hb ho hn
  replace v1 := v1.below hbW
  replace hB := Below.step hB hbW
  clear hbW
  generalize World.setRow _ u.heap.size _ = W2 at *
  generalize hg : u.heap.size = g3 at *
  clear hg
  have k5 := (Held.new W2 35 fzc).alloc (.cells fzc 35)
  have k6 := Held.new1 W2 (.cells fzc 35) 35 fzc
  go_upto_region 4 with (first
    | (guard_target = wpList _ _ _ (Oper.mk _ (Op.store 35 (.tmp 5) _) _ _ _ none :: _) _ _; refine wpList_store_row rfl 35 _ _ rfl W2.heap.size ffc rfl rfl _ _ k5 (by kernel_rfl) rfl (by simp [Value.oneCell']) ?_; have k6b := held_row k6 (Nat.succ_ne_self W2.heap.size) ffc)
    | (guard_target = wpList _ _ _ (Oper.mk _ (Op.store 35 (.tmp 6) _) _ _ _ none :: _) _ _; refine wpList_store_row rfl 35 _ _ rfl (W2.heap.size + 1) fgc rfl rfl _ _ k6b (by kernel_rfl) rfl (by simp [Value.oneCell']) ?_))
  have hbW : Below W2.heap.size W2 ((((W2.alloc (.cells fzc 35)).alloc (.cells fzc 35)).setRow W2.heap.size ffc).setRow (W2.heap.size + 1) fgc) := below_setRow (below_setRow (below2 _ _ _) (Nat.le_refl _) _) (Nat.le_succ _) _
  have v5 := held_row (held_rowSelf k5 ffc) (show W2.heap.size ≠ W2.heap.size + 1 by omega) fgc
  have v6 := held_rowSelf k6b fgc
  clear k5 k6 k6b
  replace v1 := v1.below hbW
  replace v3 := v3.below hbW
  replace hB := Below.step hB hbW
  clear hbW
  generalize World.setRow _ (W2.heap.size + 1) _ = W3 at *
  generalize W2.heap.size + 1 = g6 at *
  generalize W2.heap.size = g5 at *
  clear v3
  have hgB : w.heap.size ≤ g1 := HGB.out
  have ho1 := v1.x
  go_upto_region 5 with (first
    | (guard_target = wpList _ _ _ (Oper.mk (some 40) _ _ _ _ none :: _) _ _; refine wpList_load_row rfl 25 _ rfl g1 rfl _ _ _ _ v1.x Try.underlying25 rfl (by kernel_rfl) ?_)
    | (guard_target = wpList _ _ _ (Oper.mk (some 41) _ _ _ _ none :: _) _ _; refine wpList_load_row rfl 35 _ rfl g5 rfl _ _ _ _ v5 Try.underlying35 rfl (by kernel_rfl) ?_)
    | (go_at_call 12; (with_reducible refine (lay_c fx1 L0 ff_len _ _ _ v1.p rfl (ff_at _ _)).mono ?_); rintro _ u ⟨A1, c1, A2, c2, rfl, ho, hb⟩; have hq := (Held.below v1.x hb).alloc (.cells (refc 0 0) 27); have hm := Held.new u 27 (refc 0 0); have hql := (Held.below v1.x hb).lt)
    | (guard_target = wpList _ _ _ (Oper.mk _ (Op.store 25 (.tmp 1) _) _ _ _ none :: _) _ _; refine wpList_store_row rfl 25 _ _ rfl g1 (pc A1 x1.cells.length c1 A2 x1.free.length c2 x1.most) rfl rfl _ _ hq (by kernel_rfl) rfl (by simp [Value.oneCell']) ?_; have hm2 := held_row hm (Nat.ne_of_gt hql) (pc A1 x1.cells.length c1 A2 x1.free.length c2 x1.most))
    | (guard_target = wpList _ _ _ (Oper.mk _ (Op.store 27 (.tmp 7) _) _ _ _ none :: _) _ _; refine wpList_store_row rfl 27 _ _ rfl u.heap.size (refc 0 0) rfl rfl _ _ hm2 (by kernel_rfl) rfl (by simp [Value.oneCell']) ?_))
  obtain ⟨v1b, v7, hlift, hbl⟩ := over_p2 (c := c1) (c2 := c2) (P := x1) (x := 0) (y := 0) v1.x hb ho
  replace v5 := hlift _ _ _ v5 (by decide)
  replace v6 := hlift _ _ _ v6 (by decide)
  replace hB := hbl _ _ hB hgB hB.size
  clear hb ho hq hm hm2 hql ho1 hlift hbl v1
  have v1 := v1b
  clear v1b
  generalize World.setRow _ u.heap.size _ = W4 at *
  generalize u.heap.size = gv7 at *
  have ho1 := v1.x
  go_upto_region 6 with (first
    | (guard_target = wpList _ _ _ (Oper.mk (some 47) _ _ _ _ none :: _) _ _; refine wpList_load_row rfl 25 _ rfl g1 rfl _ _ _ _ v1.x Try.underlying25 rfl (by kernel_rfl) ?_)
    | (guard_target = wpList _ _ _ (Oper.mk (some 48) _ _ _ _ none :: _) _ _; refine wpList_load_row rfl 35 _ rfl g6 rfl _ _ _ _ v6 Try.underlying35 rfl (by kernel_rfl) ?_)
    | (go_at_call 12; (with_reducible refine (lay_c fx2 L1 fg_len _ _ _ v1.p rfl (fg_at _ _)).mono ?_); rintro _ u ⟨A3, c3, A4, c4, rfl, ho, hb⟩; have hq := (Held.below v1.x hb).alloc (.cells (refc 0 0) 27); have hm := Held.new u 27 (refc 0 0); have hql := (Held.below v1.x hb).lt)
    | (guard_target = wpList _ _ _ (Oper.mk _ (Op.store 25 (.tmp 1) _) _ _ _ none :: _) _ _; refine wpList_store_row rfl 25 _ _ rfl g1 (pc A3 x2.cells.length c3 A4 x2.free.length c4 x2.most) rfl rfl _ _ hq (by kernel_rfl) rfl (by simp [Value.oneCell']) ?_; have hm2 := held_row hm (Nat.ne_of_gt hql) (pc A3 x2.cells.length c3 A4 x2.free.length c4 x2.most))
    | (guard_target = wpList _ _ _ (Oper.mk _ (Op.store 27 (.tmp 9) _) _ _ _ none :: _) _ _; refine wpList_store_row rfl 27 _ _ rfl u.heap.size (refc 1 0) rfl rfl _ _ hm2 (by kernel_rfl) rfl (by simp [Value.oneCell']) ?_))
  obtain ⟨v1b, v9, hlift, hbl⟩ := over_p2 (c := c3) (c2 := c4) (P := x2) (x := 1) (y := 0) v1.x hb ho
  replace v5 := hlift _ _ _ v5 (by decide)
  replace v6 := hlift _ _ _ v6 (by decide)
  replace v7 := hlift _ _ _ v7 (by decide)
  replace hB := hbl _ _ hB hgB hB.size
  clear hb ho hq hm hm2 hql ho1 hlift hbl v1
  have v1 := v1b
  clear v1b
  generalize World.setRow _ u.heap.size _ = W5 at *
  generalize u.heap.size = gv9 at *
  go_upto_region 7 with (first
    | (guard_target = wpList _ _ _ (Oper.mk (some 54) _ _ _ _ none :: _) _ _; refine wpList_load_row rfl 25 _ rfl g1 rfl _ _ _ _ v1.x Try.underlying25 rfl (by kernel_rfl) ?_)
    | (guard_target = wpList _ _ _ (Oper.mk (some 55) _ _ _ _ none :: _) _ _; refine wpList_load_row rfl 35 _ rfl g5 rfl _ _ _ _ v5 Try.underlying35 rfl (by kernel_rfl) ?_)
    | (go_at_call 12; (with_reducible refine (lay_c fx3 L2 ff_len _ _ _ v1.p rfl (ff_at _ _)).mono ?_); rintro _ u ⟨B1, d1, B2, d2, rfl, ho, hb⟩; have hn := (Held.new u 25 pz0).alloc (.cells (refc 0 0) 27); have hm := Held.new1 u (.cells pz0 25) 27 (refc 0 0))
    | (guard_target = wpList _ _ _ (Oper.mk _ (Op.store 25 (.tmp 11) _) _ _ _ none :: _) _ _; refine wpList_store_row rfl 25 _ _ rfl u.heap.size (pc B1 x2.cells.length d1 B2 x2.free.length d2 x2.most) rfl rfl _ _ hn (by kernel_rfl) rfl (by simp [Value.oneCell']) ?_; have hm2 := held_row hm (Nat.succ_ne_self u.heap.size) (pc B1 x2.cells.length d1 B2 x2.free.length d2 x2.most))
    | (guard_target = wpList _ _ _ (Oper.mk _ (Op.store 27 (.tmp 12) _) _ _ _ none :: _) _ _; refine wpList_store_row rfl 27 _ _ rfl (u.heap.size + 1) (refc 0 0) rfl rfl _ _ hm2 (by kernel_rfl) rfl (by simp [Value.oneCell']) ?_))
  obtain ⟨v11, v12, hbW⟩ := new_p2 (c := d1) (c2 := d2) (P := x2) (x := 0) (y := 0) hb ho
  clear hb ho hn hm hm2
  replace v1 := v1.below hbW
  replace v5 := Held.below v5 hbW
  replace v6 := Held.below v6 hbW
  replace v7 := Held.below v7 hbW
  replace v9 := Held.below v9 hbW
  replace hB := Below.step hB hbW
  clear hbW
  generalize World.setRow _ (u.heap.size + 1) _ = W6 at *
  generalize u.heap.size + 1 = g11r at *
  generalize u.heap.size = g11 at *
  go_upto_region 8 with (first
    | (guard_target = wpList _ _ _ (Oper.mk (some 61) _ _ _ _ none :: _) _ _; refine wpList_load_row rfl 25 _ rfl g1 rfl _ _ _ _ v1.x Try.underlying25 rfl (by kernel_rfl) ?_)
    | (guard_target = wpList _ _ _ (Oper.mk (some 62) _ _ _ _ none :: _) _ _; refine wpList_load_row rfl 27 _ rfl gv7 rfl _ _ _ _ v7 Try.underlying27 rfl (by kernel_rfl) ?_)
    | (go_at_call 16; (with_reducible refine (drop_c fx4 L2 _ _ _ v1.p).mono ?_); rintro _ u ⟨B3, d3, B4, d4, rfl, ho, hb⟩; have hn := Held.new u 25 pz0)
    | (guard_target = wpList _ _ _ (Oper.mk _ (Op.store 25 (.tmp 14) _) _ _ _ none :: _) _ _; refine wpList_store_row rfl 25 _ _ rfl u.heap.size (pc B3 xq.cells.length d3 B4 xq.free.length d4 xq.most) rfl rfl _ _ hn (by kernel_rfl) rfl (by simp [Value.oneCell']) ?_))
  obtain ⟨v14, hbW⟩ := new_p1 (c := d3) (c2 := d4) (P := xq) hb ho
  clear hb ho hn
  replace v1 := v1.below hbW
  replace v5 := Held.below v5 hbW
  replace v6 := Held.below v6 hbW
  replace v7 := Held.below v7 hbW
  replace v9 := Held.below v9 hbW
  replace v12 := Held.below v12 hbW
  replace v11 := v11.below hbW
  replace hB := Below.step hB hbW
  clear hbW
  generalize World.setRow _ u.heap.size _ = W7 at *
  generalize u.heap.size = g14 at *
  go_upto_region 9 with (first
    | (guard_target = wpList _ _ _ (Oper.mk (some 67) _ _ _ _ none :: _) _ _; refine wpList_load_row rfl 25 _ rfl g14 rfl _ _ _ _ v14.x Try.underlying25 rfl (by kernel_rfl) ?_)
    | (guard_target = wpList _ _ _ (Oper.mk (some 68) _ _ _ _ none :: _) _ _; refine wpList_load_row rfl 27 _ rfl gv7 rfl _ _ _ _ v7 Try.underlying27 rfl (by kernel_rfl) ?_)
    | (go_at_call 18; (with_reducible refine (get_c fx5 Lq _ _ _ v14.p).mono ?_); rintro _ u ⟨ds16, rfl, d1, d2, ho, hb⟩; have hn := Held.new u 35 fzc)
    | (guard_target = wpList _ _ _ (Oper.mk _ (Op.store 35 (.tmp 16) _) _ _ _ none :: _) _ _; refine wpList_store_row rfl 35 _ _ rfl u.heap.size ds16 rfl rfl _ _ hn (by rw [d1]; kernel_rfl) (by rw [d1]; rfl) d2 ?_))
  obtain ⟨v16, hbW⟩ := new_f1 hb d1 d2 ho
  clear hb ho hn d1 d2
  replace v1 := v1.below hbW
  replace v5 := Held.below v5 hbW
  replace v6 := Held.below v6 hbW
  replace v7 := Held.below v7 hbW
  replace v9 := Held.below v9 hbW
  replace v12 := Held.below v12 hbW
  replace v11 := v11.below hbW
  replace v14 := v14.below hbW
  replace hB := Below.step hB hbW
  clear hbW
  generalize World.setRow _ u.heap.size _ = W8 at *
  generalize u.heap.size = g16 at *
  go_upto_region 10 with (first
    | (guard_target = wpList _ _ _ (Oper.mk (some 73) _ _ _ _ none :: _) _ _; refine wpList_load_row rfl 25 _ rfl g14 rfl _ _ _ _ v14.x Try.underlying25 rfl (by kernel_rfl) ?_)
    | (guard_target = wpList _ _ _ (Oper.mk (some 74) _ _ _ _ none :: _) _ _; refine wpList_load_row rfl 35 _ rfl g6 rfl _ _ _ _ v6 Try.underlying35 rfl (by kernel_rfl) ?_)
    | (go_at_call 12; (with_reducible refine (lay_c fx6 Lq fg_len _ _ _ v14.p rfl (fg_at _ _)).mono ?_); rintro _ u ⟨B5, d5, B6, d6, rfl, ho, hb⟩; have hn := (Held.new u 25 pz0).alloc (.cells (refc 0 0) 27); have hm := Held.new1 u (.cells pz0 25) 27 (refc 0 0))
    | (guard_target = wpList _ _ _ (Oper.mk _ (Op.store 25 (.tmp 18) _) _ _ _ none :: _) _ _; refine wpList_store_row rfl 25 _ _ rfl u.heap.size (pc B5 xs.cells.length d5 B6 xs.free.length d6 xs.most) rfl rfl _ _ hn (by kernel_rfl) rfl (by simp [Value.oneCell']) ?_; have hm2 := held_row hm (Nat.succ_ne_self u.heap.size) (pc B5 xs.cells.length d5 B6 xs.free.length d6 xs.most))
    | (guard_target = wpList _ _ _ (Oper.mk _ (Op.store 27 (.tmp 19) _) _ _ _ none :: _) _ _; refine wpList_store_row rfl 27 _ _ rfl (u.heap.size + 1) (refc 0 1) rfl rfl _ _ hm2 (by kernel_rfl) rfl (by simp [Value.oneCell']) ?_))
  obtain ⟨v18, v19, hbW⟩ := new_p2 (c := d5) (c2 := d6) (P := xs) (x := 0) (y := 1) hb ho
  clear hb ho hn hm hm2
  replace v1 := v1.below hbW
  replace v5 := Held.below v5 hbW
  replace v6 := Held.below v6 hbW
  replace v7 := Held.below v7 hbW
  replace v9 := Held.below v9 hbW
  replace v12 := Held.below v12 hbW
  replace v11 := v11.below hbW
  replace v14 := v14.below hbW
  replace v16 := v16.below hbW
  replace hB := Below.step hB hbW
  clear hbW
  generalize World.setRow _ (u.heap.size + 1) _ = W9 at *
  generalize u.heap.size + 1 = g18r at *
  generalize u.heap.size = g18 at *
  go_upto_region 11 with (first
    | (guard_target = wpList _ _ _ (Oper.mk (some 80) _ _ _ _ none :: _) _ _; refine wpList_load_row rfl 25 _ rfl g18 rfl _ _ _ _ v18.x Try.underlying25 rfl (by kernel_rfl) ?_)
    | (guard_target = wpList _ _ _ (Oper.mk (some 81) _ _ _ _ none :: _) _ _; refine wpList_load_row rfl 27 _ rfl gv7 rfl _ _ _ _ v7 Try.underlying27 rfl (by kernel_rfl) ?_)
    | (guard_target = wpList _ _ _ (Oper.mk (some 82) _ _ _ _ none :: _) _ _; refine wpList_load_row rfl 35 _ rfl g5 rfl _ _ _ _ v5 Try.underlying35 rfl (by kernel_rfl) ?_)
    | (go_at_call 14; (with_reducible refine (set_c fx7 Ls ff_len _ _ _ v18.p rfl (ff_at _ _)).mono ?_); rintro _ u ⟨B7, d7, B8, d8, rfl, ho, hb⟩; have hn := Held.new u 25 pz0)
    | (guard_target = wpList _ _ _ (Oper.mk _ (Op.store 25 (.tmp 21) _) _ _ _ none :: _) _ _; refine wpList_store_row rfl 25 _ _ rfl u.heap.size (pc B7 xs.cells.length d7 B8 xs.free.length d8 xs.most) rfl rfl _ _ hn (by kernel_rfl) rfl (by simp [Value.oneCell']) ?_))
  obtain ⟨v21, hbW⟩ := new_p1 (c := d7) (c2 := d8) (P := xs) hb ho
  clear hb ho hn
  replace v1 := v1.below hbW
  replace v5 := Held.below v5 hbW
  replace v6 := Held.below v6 hbW
  replace v7 := Held.below v7 hbW
  replace v9 := Held.below v9 hbW
  replace v12 := Held.below v12 hbW
  replace v11 := v11.below hbW
  replace v14 := v14.below hbW
  replace v16 := v16.below hbW
  replace v19 := Held.below v19 hbW
  replace v18 := v18.below hbW
  replace hB := Below.step hB hbW
  clear hbW
  generalize World.setRow _ u.heap.size _ = W10 at *
  generalize u.heap.size = g21 at *
  go_upto_region 12 with (first
    | (guard_target = wpList _ _ _ (Oper.mk (some 87) _ _ _ _ none :: _) _ _; refine wpList_load_row rfl 25 _ rfl g18 rfl _ _ _ _ v18.x Try.underlying25 rfl (by kernel_rfl) ?_)
    | (guard_target = wpList _ _ _ (Oper.mk (some 88) _ _ _ _ none :: _) _ _; refine wpList_load_row rfl 27 _ rfl gv9 rfl _ _ _ _ v9 Try.underlying27 rfl (by kernel_rfl) ?_)
    | (guard_target = wpList _ _ _ (Oper.mk (some 89) _ _ _ _ none :: _) _ _; refine wpList_load_row rfl 35 _ rfl g5 rfl _ _ _ _ v5 Try.underlying35 rfl (by kernel_rfl) ?_)
    | (go_at_call 14; (with_reducible refine (set_c fx8 Ls ff_len _ _ _ v18.p rfl (ff_at _ _)).mono ?_); rintro _ u ⟨B9, d9, BA, dA, rfl, ho, hb⟩; have hn := Held.new u 25 pz0)
    | (guard_target = wpList _ _ _ (Oper.mk _ (Op.store 25 (.tmp 23) _) _ _ _ none :: _) _ _; refine wpList_store_row rfl 25 _ _ rfl u.heap.size (pc B9 xt.cells.length d9 BA xt.free.length dA xt.most) rfl rfl _ _ hn (by kernel_rfl) rfl (by simp [Value.oneCell']) ?_))
  obtain ⟨v23, hbW⟩ := new_p1 (c := d9) (c2 := dA) (P := xt) hb ho
  clear hb ho hn
  replace v1 := v1.below hbW
  replace v5 := Held.below v5 hbW
  replace v6 := Held.below v6 hbW
  replace v7 := Held.below v7 hbW
  replace v9 := Held.below v9 hbW
  replace v12 := Held.below v12 hbW
  replace v11 := v11.below hbW
  replace v14 := v14.below hbW
  replace v16 := v16.below hbW
  replace v19 := Held.below v19 hbW
  replace v18 := v18.below hbW
  replace v21 := v21.below hbW
  replace hB := Below.step hB hbW
  clear hbW
  generalize World.setRow _ u.heap.size _ = W11 at *
  generalize u.heap.size = g23 at *
  go_upto_region 13 with (first
    | (guard_target = wpList _ _ _ (Oper.mk (some 94) _ _ _ _ none :: _) _ _; refine wpList_load_row rfl 25 _ rfl g23 rfl _ _ _ _ v23.x Try.underlying25 rfl (by kernel_rfl) ?_)
    | (guard_target = wpList _ _ _ (Oper.mk (some 95) _ _ _ _ none :: _) _ _; refine wpList_load_row rfl 27 _ rfl gv9 rfl _ _ _ _ v9 Try.underlying27 rfl (by kernel_rfl) ?_)
    | (go_at_call 18; (with_reducible refine (get_c fx9 Lt _ _ _ v23.p).mono ?_); rintro _ u ⟨ds25, rfl, d1, d2, ho, hb⟩; have hn := Held.new u 35 fzc)
    | (guard_target = wpList _ _ _ (Oper.mk _ (Op.store 35 (.tmp 25) _) _ _ _ none :: _) _ _; refine wpList_store_row rfl 35 _ _ rfl u.heap.size ds25 rfl rfl _ _ hn (by rw [d1]; kernel_rfl) (by rw [d1]; rfl) d2 ?_))
  obtain ⟨v25, hbW⟩ := new_f1 hb d1 d2 ho
  clear hb ho hn d1 d2
  replace v1 := v1.below hbW
  replace v5 := Held.below v5 hbW
  replace v6 := Held.below v6 hbW
  replace v7 := Held.below v7 hbW
  replace v9 := Held.below v9 hbW
  replace v12 := Held.below v12 hbW
  replace v11 := v11.below hbW
  replace v14 := v14.below hbW
  replace v16 := v16.below hbW
  replace v19 := Held.below v19 hbW
  replace v18 := v18.below hbW
  replace v21 := v21.below hbW
  replace v23 := v23.below hbW
  replace hB := Below.step hB hbW
  clear hbW
  generalize World.setRow _ u.heap.size _ = W12 at *
  generalize u.heap.size = g25 at *
  clear v11 v12 v14 v16 v21 v1
  obtain ⟨E1, k1, E2, k2, E3, k3, eds, -, -, -⟩ := v25.p
  have y0 : ds25[0]? = some (.int .i64 1) := by
    have := congrArg (fun v => match v with | Value.agg a => a[0]? | _ => none) eds
    simpa using this
  clear eds
  have DZ : ∀ W, Calls Try.prog 16 #[.agg #[.slice none 0 0, .slice none 0 0, .int .i64 0], gv 0 0] W fun e w' => ∃ A' c' A2' c2', e = .returned (.tuple #[pv A' zp0.cells.length c' A2' zp0.free.length c2' zp0.most, .int .i64 1]) ∧ OwnZ w' W.heap.size A' c' A2' c2' zp0 ∧ Below W.heap.size W w' := fun W => drop_c (r := (0, 0)) fx10 Lz 0 0 W (zp0_at W)
  have MZ : ∀ W, Calls Try.prog 27 #[.agg #[.slice none 0 0, .slice none 0 0, .int .i64 0]] W fun e w' => e = .returned (.bool false) ∧ Below W.heap.size W w' := fun W => may_c fx13 Lz 0 0 W (zp0_at W)
  go_upto_region 14 with (first
    | (guard_target = wpList _ _ _ (Oper.mk (some 101) _ _ _ _ none :: _) _ _; refine wpList_load_row rfl 27 _ rfl gv7 rfl _ _ _ _ v7 Try.underlying27 rfl (by kernel_rfl) ?_)
    | (go_at_call 16; (with_reducible refine (DZ _).mono ?_); rintro _ u ⟨B1, d1, B2, d2, rfl, ho, hb⟩; have hn := Held.new u 25 pz0)
    | (guard_target = wpList _ _ _ (Oper.mk _ (Op.store 25 (.tmp 27) _) _ _ _ none :: _) _ _; refine wpList_store_row rfl 25 _ _ rfl u.heap.size (pc B1 zp0.cells.length d1 B2 zp0.free.length d2 zp0.most) rfl rfl _ _ hn (by kernel_rfl) rfl (by simp [Value.oneCell']) ?_; (obtain ⟨-, hbW⟩ := new_p1 (c := d1) (c2 := d2) (P := zp0) hb ho); clear hb ho hn; replace v5 := Held.below v5 hbW; replace v6 := Held.below v6 hbW; replace v7 := Held.below v7 hbW; replace v9 := Held.below v9 hbW; replace v19 := Held.below v19 hbW; replace v18 := v18.below hbW; replace v23 := v23.below hbW; replace v25 := v25.below hbW; replace hB := Below.step hB hbW; clear hbW; (generalize World.setRow _ u.heap.size _ = W13 at *); have y1 := (v25.x.cell 0).trans y0; have HV := Lib.hid v25; clear v25))
  simp only [List.append_eq, List.cons_append, List.nil_append]
  have hdr := (Below.refl W13.heap.size W13).drew
  replace v7 := Held.below v7 hdr
  replace v9 := Held.below v9 hdr
  replace v19 := Held.below v19 hdr
  replace v18 := v18.below hdr
  replace v23 := v23.below hdr
  have HV9 := HV.out.below hdr
  clear HV
  have HV := Lib.hid HV9
  clear HV9
  have HBD := Lib.hid (Below.step hB hdr)
  clear hB y1
  clear hdr
  refine wp_region_held_drew (S := fun W => Below W13.drew.heap.size W13.drew W) (by kernel_rfl) (Below.refl _ _) (fun hS => ?_)
  generalize W13.drew = W14 at *
  show wpAnyH _ _ _ _ _ 93 #[false, false, false, false, false, false, false, false, false, false, false, false, false, false, false, false, false, false, false, false, false, false, false, false, false, false, false, false, false, false, false, false, false, false, false, false, false, false, false, false, false, false, false, false, false, false, false, false, false, false, false, false, false, false, false, false, false, false, false, false, false, false, false, false, false, false, false, false, false, false, false, false, false, false, false, false, false, false, false, false, false, false, false, false, false, false, false, false, false, false, false, false, false] _ _
  refine wpAnyH_begin (by kernel_rfl) (fun HNS => ?_)
  refine wpAnyH_takeS HNS (i := 0) (v := .bool true) rfl (by kernel_rfl) (by kernel_rfl) (fun _ _ _ h => h) (Or.inl ⟨by kernel_rfl, fun W hW => ?_⟩) hS ?_
  · go_simp
  simp only [Act.put, List.getElem_toArray, List.getElem_cons_succ, List.getElem_cons_zero, List.setIfInBounds_toArray, List.set_cons_zero, List.set_cons_succ]
  refine wpAnyH_takeS HNS (i := 1) (v := .bool true) rfl (by kernel_rfl) (by kernel_rfl) (fun _ _ _ h => h) (Or.inl ⟨by kernel_rfl, fun W hW => ?_⟩) hS ?_
  · go_simp
  simp only [Act.put, List.getElem_toArray, List.getElem_cons_succ, List.getElem_cons_zero, List.setIfInBounds_toArray, List.set_cons_zero, List.set_cons_succ]
  refine wpAnyH_takeS HNS (i := 2) (v := .bool false) rfl (by kernel_rfl) (by kernel_rfl) (fun _ _ _ h => h) (Or.inl ⟨by kernel_rfl, fun W hW => ?_⟩) hS ?_
  · go_simp
  simp only [Act.put, List.getElem_toArray, List.getElem_cons_succ, List.getElem_cons_zero, List.setIfInBounds_toArray, List.set_cons_zero, List.set_cons_succ]
  refine wpAnyH_takeS HNS (i := 3) (v := .bool true) rfl (by kernel_rfl) (by kernel_rfl) (fun _ _ _ h => h) (Or.inl ⟨by kernel_rfl, fun W hW => ?_⟩) hS ?_
  · go_simp
  simp only [Act.put, List.getElem_toArray, List.getElem_cons_succ, List.getElem_cons_zero, List.setIfInBounds_toArray, List.set_cons_zero, List.set_cons_succ]
  refine wpAnyH_takeS HNS (i := 4) (v := .bool true) rfl (by kernel_rfl) (by kernel_rfl) (fun _ _ _ h => h) (Or.inl ⟨by kernel_rfl, fun W hW => ?_⟩) hS ?_
  · go_simp
  simp only [Act.put, List.getElem_toArray, List.getElem_cons_succ, List.getElem_cons_zero, List.setIfInBounds_toArray, List.set_cons_zero, List.set_cons_succ]
  refine wpAnyH_takeS HNS (i := 5) (v := .bool true) rfl (by kernel_rfl) (by kernel_rfl) (fun _ _ _ h => h) (Or.inl ⟨by kernel_rfl, fun W hW => ?_⟩) hS ?_
  · go_simp
  simp only [Act.put, List.getElem_toArray, List.getElem_cons_succ, List.getElem_cons_zero, List.setIfInBounds_toArray, List.set_cons_zero, List.set_cons_succ]
  refine wpAnyH_takeS HNS (i := 6) (v := .int .i64 0) rfl (by kernel_rfl) (by kernel_rfl) (fun _ _ _ h => h) (Or.inl ⟨by kernel_rfl, fun W hW => ?_⟩) hS ?_
  · go_simp
  simp only [Act.put, List.getElem_toArray, List.getElem_cons_succ, List.getElem_cons_zero, List.setIfInBounds_toArray, List.set_cons_zero, List.set_cons_succ]
  refine wpAnyH_takeS HNS (i := 7) (v := .bool true) rfl (by kernel_rfl) (by kernel_rfl) (fun _ _ _ h => h) (Or.inl ⟨by kernel_rfl, fun W hW => ?_⟩) hS ?_
  · go_simp
  simp only [Act.put, List.getElem_toArray, List.getElem_cons_succ, List.getElem_cons_zero, List.setIfInBounds_toArray, List.set_cons_zero, List.set_cons_succ]
  refine wpAnyH_takeS HNS (i := 8) (v := .bool true) rfl (by kernel_rfl) (by kernel_rfl) (fun _ _ _ h => h) (Or.inl ⟨by kernel_rfl, fun W hW => ?_⟩) hS ?_
  · go_simp
  simp only [Act.put, List.getElem_toArray, List.getElem_cons_succ, List.getElem_cons_zero, List.setIfInBounds_toArray, List.set_cons_zero, List.set_cons_succ]
  refine wpAnyH_takeS HNS (i := 9) (v := .bool true) rfl (by kernel_rfl) (by kernel_rfl) (fun _ _ _ h => h) (Or.inl ⟨by kernel_rfl, fun W hW => ?_⟩) hS ?_
  · go_simp
  simp only [Act.put, List.getElem_toArray, List.getElem_cons_succ, List.getElem_cons_zero, List.setIfInBounds_toArray, List.set_cons_zero, List.set_cons_succ]
  as_aux_lemma =>
    refine wpAnyH_takeS HNS (i := 10) (v := .agg #[.int .i64 0, .int .i64 0]) rfl (by kernel_rfl) (by kernel_rfl) (fun _ _ _ h => h) (Or.inl ⟨by kernel_rfl, fun W hW => ?_⟩) hS ?_
    · (have hz := Held.below v7 hW; have z0 := hz.cell 0; have z1 := hz.cell 1; simp at z0 z1; go_simp)
    simp only [Act.put, List.getElem_toArray, List.getElem_cons_succ, List.getElem_cons_zero, List.setIfInBounds_toArray, List.set_cons_zero, List.set_cons_succ]
    refine wpAnyH_takeS HNS (i := 11) (v := .agg #[.int .i64 0, .int .i64 0]) rfl (by kernel_rfl) (by kernel_rfl) (fun _ _ _ h => h) (Or.inl ⟨by kernel_rfl, fun W hW => ?_⟩) hS ?_
    · go_simp
    simp only [Act.put, List.getElem_toArray, List.getElem_cons_succ, List.getElem_cons_zero, List.setIfInBounds_toArray, List.set_cons_zero, List.set_cons_succ]
    refine wpAnyH_takeS HNS (i := 12) (v := .bool true) rfl (by kernel_rfl) (by kernel_rfl) (fun _ _ _ h => h) (Or.inl ⟨by kernel_rfl, fun W hW => ?_⟩) hS ?_
    · go_simp
    simp only [Act.put, List.getElem_toArray, List.getElem_cons_succ, List.getElem_cons_zero, List.setIfInBounds_toArray, List.set_cons_zero, List.set_cons_succ]
    refine wpAnyH_takeS HNS (i := 13) (v := .bool true) rfl (by kernel_rfl) (by kernel_rfl) (fun _ _ _ h => h) (Or.inl ⟨by kernel_rfl, fun W hW => ?_⟩) hS ?_
    · go_simp
    simp only [Act.put, List.getElem_toArray, List.getElem_cons_succ, List.getElem_cons_zero, List.setIfInBounds_toArray, List.set_cons_zero, List.set_cons_succ]
    refine wpAnyH_takeS HNS (i := 14) (v := .bool true) rfl (by kernel_rfl) (by kernel_rfl) (fun _ _ _ h => h) (Or.inl ⟨by kernel_rfl, fun W hW => ?_⟩) hS ?_
    · go_simp
    simp only [Act.put, List.getElem_toArray, List.getElem_cons_succ, List.getElem_cons_zero, List.setIfInBounds_toArray, List.set_cons_zero, List.set_cons_succ]
    refine wpAnyH_takeS HNS (i := 15) (v := .int .i64 0) rfl (by kernel_rfl) (by kernel_rfl) (fun _ _ _ h => h) (Or.inl ⟨by kernel_rfl, fun W hW => ?_⟩) hS ?_
    · go_simp
    simp only [Act.put, List.getElem_toArray, List.getElem_cons_succ, List.getElem_cons_zero, List.setIfInBounds_toArray, List.set_cons_zero, List.set_cons_succ]
    refine wpAnyH_takeS HNS (i := 16) (v := .bool true) rfl (by kernel_rfl) (by kernel_rfl) (fun _ _ _ h => h) (Or.inl ⟨by kernel_rfl, fun W hW => ?_⟩) hS ?_
    · go_simp
    simp only [Act.put, List.getElem_toArray, List.getElem_cons_succ, List.getElem_cons_zero, List.setIfInBounds_toArray, List.set_cons_zero, List.set_cons_succ]
    refine wpAnyH_takeS HNS (i := 17) (v := .bool true) rfl (by kernel_rfl) (by kernel_rfl) (fun _ _ _ h => h) (Or.inl ⟨by kernel_rfl, fun W hW => ?_⟩) hS ?_
    · go_simp
    simp only [Act.put, List.getElem_toArray, List.getElem_cons_succ, List.getElem_cons_zero, List.setIfInBounds_toArray, List.set_cons_zero, List.set_cons_succ]
    refine wpAnyH_takeS HNS (i := 18) (v := .bool true) rfl (by kernel_rfl) (by kernel_rfl) (fun _ _ _ h => h) (Or.inl ⟨by kernel_rfl, fun W hW => ?_⟩) hS ?_
    · go_simp
    simp only [Act.put, List.getElem_toArray, List.getElem_cons_succ, List.getElem_cons_zero, List.setIfInBounds_toArray, List.set_cons_zero, List.set_cons_succ]
    refine wpAnyH_takeS HNS (i := 19) (v := .agg #[.int .i64 1, .int .i64 0]) rfl (by kernel_rfl) (by kernel_rfl) (fun _ _ _ h => h) (Or.inl ⟨by kernel_rfl, fun W hW => ?_⟩) hS ?_
    · (have hz := Held.below v9 hW; have z0 := hz.cell 0; have z1 := hz.cell 1; simp at z0 z1; go_simp)
    simp only [Act.put, List.getElem_toArray, List.getElem_cons_succ, List.getElem_cons_zero, List.setIfInBounds_toArray, List.set_cons_zero, List.set_cons_succ]
    as_aux_lemma =>
      refine wpAnyH_takeS HNS (i := 20) (v := .agg #[.int .i64 1, .int .i64 0]) rfl (by kernel_rfl) (by kernel_rfl) (fun _ _ _ h => h) (Or.inl ⟨by kernel_rfl, fun W hW => ?_⟩) hS ?_
      · go_simp
      simp only [Act.put, List.getElem_toArray, List.getElem_cons_succ, List.getElem_cons_zero, List.setIfInBounds_toArray, List.set_cons_zero, List.set_cons_succ]
      refine wpAnyH_takeS HNS (i := 21) (v := .bool true) rfl (by kernel_rfl) (by kernel_rfl) (fun _ _ _ h => h) (Or.inl ⟨by kernel_rfl, fun W hW => ?_⟩) hS ?_
      · go_simp
      simp only [Act.put, List.getElem_toArray, List.getElem_cons_succ, List.getElem_cons_zero, List.setIfInBounds_toArray, List.set_cons_zero, List.set_cons_succ]
      refine wpAnyH_takeS HNS (i := 22) (v := .bool true) rfl (by kernel_rfl) (by kernel_rfl) (fun _ _ _ h => h) (Or.inl ⟨by kernel_rfl, fun W hW => ?_⟩) hS ?_
      · go_simp
      simp only [Act.put, List.getElem_toArray, List.getElem_cons_succ, List.getElem_cons_zero, List.setIfInBounds_toArray, List.set_cons_zero, List.set_cons_succ]
      refine wpAnyH_takeS HNS (i := 23) (v := .bool true) rfl (by kernel_rfl) (by kernel_rfl) (fun _ _ _ h => h) (Or.inl ⟨by kernel_rfl, fun W hW => ?_⟩) hS ?_
      · go_simp
      simp only [Act.put, List.getElem_toArray, List.getElem_cons_succ, List.getElem_cons_zero, List.setIfInBounds_toArray, List.set_cons_zero, List.set_cons_succ]
      refine wpAnyH_takeS HNS (i := 24) (v := .int .i64 120) rfl (by kernel_rfl) (by kernel_rfl) (fun _ _ _ h => h) (Or.inl ⟨by kernel_rfl, fun W hW => ?_⟩) hS ?_
      · go_simp
      simp only [Act.put, List.getElem_toArray, List.getElem_cons_succ, List.getElem_cons_zero, List.setIfInBounds_toArray, List.set_cons_zero, List.set_cons_succ]
      refine wpAnyH_takeS HNS (i := 25) (v := .bool true) rfl (by kernel_rfl) (by kernel_rfl) (fun _ _ _ h => h) (Or.inl ⟨by kernel_rfl, fun W hW => ?_⟩) hS ?_
      · go_simp
      simp only [Act.put, List.getElem_toArray, List.getElem_cons_succ, List.getElem_cons_zero, List.setIfInBounds_toArray, List.set_cons_zero, List.set_cons_succ]
      refine wpAnyH_takeS HNS (i := 26) (v := .bool true) rfl (by kernel_rfl) (by kernel_rfl) (fun _ _ _ h => h) (Or.inl ⟨by kernel_rfl, fun W hW => ?_⟩) hS ?_
      · go_simp
      simp only [Act.put, List.getElem_toArray, List.getElem_cons_succ, List.getElem_cons_zero, List.setIfInBounds_toArray, List.set_cons_zero, List.set_cons_succ]
      refine wpAnyH_takeS HNS (i := 27) (v := .bool true) rfl (by kernel_rfl) (by kernel_rfl) (fun _ _ _ h => h) (Or.inl ⟨by kernel_rfl, fun W hW => ?_⟩) hS ?_
      · go_simp
      simp only [Act.put, List.getElem_toArray, List.getElem_cons_succ, List.getElem_cons_zero, List.setIfInBounds_toArray, List.set_cons_zero, List.set_cons_succ]
      refine wpAnyH_takeS HNS (i := 28) (v := .int .i64 0) rfl (by kernel_rfl) (by kernel_rfl) (fun _ _ _ h => h) (Or.inl ⟨by kernel_rfl, fun W hW => ?_⟩) hS ?_
      · go_simp
      simp only [Act.put, List.getElem_toArray, List.getElem_cons_succ, List.getElem_cons_zero, List.setIfInBounds_toArray, List.set_cons_zero, List.set_cons_succ]
      refine wpAnyH_takeS HNS (i := 29) (v := .bool true) rfl (by kernel_rfl) (by kernel_rfl) (fun _ _ _ h => h) (Or.inl ⟨by kernel_rfl, fun W hW => ?_⟩) hS ?_
      · go_simp
      simp only [Act.put, List.getElem_toArray, List.getElem_cons_succ, List.getElem_cons_zero, List.setIfInBounds_toArray, List.set_cons_zero, List.set_cons_succ]
      as_aux_lemma =>
        refine wpAnyH_takeS HNS (i := 30) (v := .bool true) rfl (by kernel_rfl) (by kernel_rfl) (fun _ _ _ h => h) (Or.inl ⟨by kernel_rfl, fun W hW => ?_⟩) hS ?_
        · go_simp
        simp only [Act.put, List.getElem_toArray, List.getElem_cons_succ, List.getElem_cons_zero, List.setIfInBounds_toArray, List.set_cons_zero, List.set_cons_succ]
        refine wpAnyH_takeS HNS (i := 31) (v := .bool true) rfl (by kernel_rfl) (by kernel_rfl) (fun _ _ _ h => h) (Or.inl ⟨by kernel_rfl, fun W hW => ?_⟩) hS ?_
        · go_simp
        simp only [Act.put, List.getElem_toArray, List.getElem_cons_succ, List.getElem_cons_zero, List.setIfInBounds_toArray, List.set_cons_zero, List.set_cons_succ]
        refine wpAnyH_takeS HNS (i := 32) (v := .bool false) rfl (by kernel_rfl) (by kernel_rfl) (fun _ _ _ h => h) (Or.inl ⟨by kernel_rfl, fun W hW => ?_⟩) hS ?_
        · go_simp
        simp only [Act.put, List.getElem_toArray, List.getElem_cons_succ, List.getElem_cons_zero, List.setIfInBounds_toArray, List.set_cons_zero, List.set_cons_succ]
        refine wpAnyH_takeS HNS (i := 33) (v := .bool true) rfl (by kernel_rfl) (by kernel_rfl) (fun _ _ _ h => h) (Or.inl ⟨by kernel_rfl, fun W hW => ?_⟩) hS ?_
        · go_simp
        simp only [Act.put, List.getElem_toArray, List.getElem_cons_succ, List.getElem_cons_zero, List.setIfInBounds_toArray, List.set_cons_zero, List.set_cons_succ]
        refine wpAnyH_takeS HNS (i := 34) (v := .bool true) rfl (by kernel_rfl) (by kernel_rfl) (fun _ _ _ h => h) (Or.inl ⟨by kernel_rfl, fun W hW => ?_⟩) hS ?_
        · go_simp
        simp only [Act.put, List.getElem_toArray, List.getElem_cons_succ, List.getElem_cons_zero, List.setIfInBounds_toArray, List.set_cons_zero, List.set_cons_succ]
        refine wpAnyH_takeS HNS (i := 35) (v := .bool true) rfl (by kernel_rfl) (by kernel_rfl) (fun _ _ _ h => h) (Or.inl ⟨by kernel_rfl, fun W hW => ?_⟩) hS ?_
        · go_simp
        simp only [Act.put, List.getElem_toArray, List.getElem_cons_succ, List.getElem_cons_zero, List.setIfInBounds_toArray, List.set_cons_zero, List.set_cons_succ]
        refine wpAnyH_takeS HNS (i := 36) (v := .int .i64 0) rfl (by kernel_rfl) (by kernel_rfl) (fun _ _ _ h => h) (Or.inl ⟨by kernel_rfl, fun W hW => ?_⟩) hS ?_
        · go_simp
        simp only [Act.put, List.getElem_toArray, List.getElem_cons_succ, List.getElem_cons_zero, List.setIfInBounds_toArray, List.set_cons_zero, List.set_cons_succ]
        refine wpAnyH_takeS HNS (i := 37) (v := .bool true) rfl (by kernel_rfl) (by kernel_rfl) (fun _ _ _ h => h) (Or.inl ⟨by kernel_rfl, fun W hW => ?_⟩) hS ?_
        · go_simp
        simp only [Act.put, List.getElem_toArray, List.getElem_cons_succ, List.getElem_cons_zero, List.setIfInBounds_toArray, List.set_cons_zero, List.set_cons_succ]
        refine wpAnyH_takeS HNS (i := 38) (v := .bool true) rfl (by kernel_rfl) (by kernel_rfl) (fun _ _ _ h => h) (Or.inl ⟨by kernel_rfl, fun W hW => ?_⟩) hS ?_
        · go_simp
        simp only [Act.put, List.getElem_toArray, List.getElem_cons_succ, List.getElem_cons_zero, List.setIfInBounds_toArray, List.set_cons_zero, List.set_cons_succ]
        refine wpAnyH_takeS HNS (i := 39) (v := .bool true) rfl (by kernel_rfl) (by kernel_rfl) (fun _ _ _ h => h) (Or.inl ⟨by kernel_rfl, fun W hW => ?_⟩) hS ?_
        · go_simp
        simp only [Act.put, List.getElem_toArray, List.getElem_cons_succ, List.getElem_cons_zero, List.setIfInBounds_toArray, List.set_cons_zero, List.set_cons_succ]
        as_aux_lemma =>
          refine wpAnyH_takeS HNS (i := 40) (v := .agg #[.int .i64 0, .int .i64 1]) rfl (by kernel_rfl) (by kernel_rfl) (fun _ _ _ h => h) (Or.inl ⟨by kernel_rfl, fun W hW => ?_⟩) hS ?_
          · (have hz := Held.below v19 hW; have z0 := hz.cell 0; have z1 := hz.cell 1; simp at z0 z1; go_simp)
          simp only [Act.put, List.getElem_toArray, List.getElem_cons_succ, List.getElem_cons_zero, List.setIfInBounds_toArray, List.set_cons_zero, List.set_cons_succ]
          refine wpAnyH_takeS HNS (i := 41) (v := .agg #[.int .i64 0, .int .i64 1]) rfl (by kernel_rfl) (by kernel_rfl) (fun _ _ _ h => h) (Or.inl ⟨by kernel_rfl, fun W hW => ?_⟩) hS ?_
          · go_simp
          simp only [Act.put, List.getElem_toArray, List.getElem_cons_succ, List.getElem_cons_zero, List.setIfInBounds_toArray, List.set_cons_zero, List.set_cons_succ]
          refine wpAnyH_takeS HNS (i := 42) (v := .bool true) rfl (by kernel_rfl) (by kernel_rfl) (fun _ _ _ h => h) (Or.inl ⟨by kernel_rfl, fun W hW => ?_⟩) hS ?_
          · go_simp
          simp only [Act.put, List.getElem_toArray, List.getElem_cons_succ, List.getElem_cons_zero, List.setIfInBounds_toArray, List.set_cons_zero, List.set_cons_succ]
          refine wpAnyH_takeS HNS (i := 43) (v := .bool true) rfl (by kernel_rfl) (by kernel_rfl) (fun _ _ _ h => h) (Or.inl ⟨by kernel_rfl, fun W hW => ?_⟩) hS ?_
          · go_simp
          simp only [Act.put, List.getElem_toArray, List.getElem_cons_succ, List.getElem_cons_zero, List.setIfInBounds_toArray, List.set_cons_zero, List.set_cons_succ]
          refine wpAnyH_takeS HNS (i := 44) (v := .bool true) rfl (by kernel_rfl) (by kernel_rfl) (fun _ _ _ h => h) (Or.inl ⟨by kernel_rfl, fun W hW => ?_⟩) hS ?_
          · go_simp
          simp only [Act.put, List.getElem_toArray, List.getElem_cons_succ, List.getElem_cons_zero, List.setIfInBounds_toArray, List.set_cons_zero, List.set_cons_succ]
          refine wpAnyH_takeS HNS (i := 45) (v := .int .i64 121) rfl (by kernel_rfl) (by kernel_rfl) (fun _ _ _ h => h) (Or.inl ⟨by kernel_rfl, fun W hW => ?_⟩) hS ?_
          · go_simp
          simp only [Act.put, List.getElem_toArray, List.getElem_cons_succ, List.getElem_cons_zero, List.setIfInBounds_toArray, List.set_cons_zero, List.set_cons_succ]
          refine wpAnyH_takeS HNS (i := 46) (v := .bool true) rfl (by kernel_rfl) (by kernel_rfl) (fun _ _ _ h => h) (Or.inl ⟨by kernel_rfl, fun W hW => ?_⟩) hS ?_
          · go_simp
          simp only [Act.put, List.getElem_toArray, List.getElem_cons_succ, List.getElem_cons_zero, List.setIfInBounds_toArray, List.set_cons_zero, List.set_cons_succ]
          refine wpAnyH_takeS HNS (i := 47) (v := .bool true) rfl (by kernel_rfl) (by kernel_rfl) (fun _ _ _ h => h) (Or.inl ⟨by kernel_rfl, fun W hW => ?_⟩) hS ?_
          · go_simp
          simp only [Act.put, List.getElem_toArray, List.getElem_cons_succ, List.getElem_cons_zero, List.setIfInBounds_toArray, List.set_cons_zero, List.set_cons_succ]
          refine wpAnyH_takeS HNS (i := 48) (v := .bool true) rfl (by kernel_rfl) (by kernel_rfl) (fun _ _ _ h => h) (Or.inl ⟨by kernel_rfl, fun W hW => ?_⟩) hS ?_
          · go_simp
          simp only [Act.put, List.getElem_toArray, List.getElem_cons_succ, List.getElem_cons_zero, List.setIfInBounds_toArray, List.set_cons_zero, List.set_cons_succ]
          refine wpAnyH_takeS HNS (i := 49) (v := .int .i64 0) rfl (by kernel_rfl) (by kernel_rfl) (fun _ _ _ h => h) (Or.inl ⟨by kernel_rfl, fun W hW => ?_⟩) hS ?_
          · go_simp
          simp only [Act.put, List.getElem_toArray, List.getElem_cons_succ, List.getElem_cons_zero, List.setIfInBounds_toArray, List.set_cons_zero, List.set_cons_succ]
          as_aux_lemma =>
            refine wpAnyH_takeS HNS (i := 50) (v := .bool true) rfl (by kernel_rfl) (by kernel_rfl) (fun _ _ _ h => h) (Or.inl ⟨by kernel_rfl, fun W hW => ?_⟩) hS ?_
            · go_simp
            simp only [Act.put, List.getElem_toArray, List.getElem_cons_succ, List.getElem_cons_zero, List.setIfInBounds_toArray, List.set_cons_zero, List.set_cons_succ]
            refine wpAnyH_takeS HNS (i := 51) (v := .bool true) rfl (by kernel_rfl) (by kernel_rfl) (fun _ _ _ h => h) (Or.inl ⟨by kernel_rfl, fun W hW => ?_⟩) hS ?_
            · go_simp
            simp only [Act.put, List.getElem_toArray, List.getElem_cons_succ, List.getElem_cons_zero, List.setIfInBounds_toArray, List.set_cons_zero, List.set_cons_succ]
            refine wpAnyH_takeS HNS (i := 52) (v := .bool true) rfl (by kernel_rfl) (by kernel_rfl) (fun _ _ _ h => h) (Or.inl ⟨by kernel_rfl, fun W hW => ?_⟩) hS ?_
            · go_simp
            simp only [Act.put, List.getElem_toArray, List.getElem_cons_succ, List.getElem_cons_zero, List.setIfInBounds_toArray, List.set_cons_zero, List.set_cons_succ]
            refine wpAnyH_takeS HNS (i := 53) (v := .bool true) rfl (by kernel_rfl) (by kernel_rfl) (fun _ _ _ h => h) (Or.inl ⟨by kernel_rfl, fun W hW => ?_⟩) hS ?_
            · go_simp
            simp only [Act.put, List.getElem_toArray, List.getElem_cons_succ, List.getElem_cons_zero, List.setIfInBounds_toArray, List.set_cons_zero, List.set_cons_succ]
            refine wpAnyH_takeS HNS (i := 54) (v := .bool true) rfl (by kernel_rfl) (by kernel_rfl) (fun _ _ _ h => h) (Or.inl ⟨by kernel_rfl, fun W hW => ?_⟩) hS ?_
            · go_simp
            simp only [Act.put, List.getElem_toArray, List.getElem_cons_succ, List.getElem_cons_zero, List.setIfInBounds_toArray, List.set_cons_zero, List.set_cons_succ]
            refine wpAnyH_takeS HNS (i := 55) (v := .bool true) rfl (by kernel_rfl) (by kernel_rfl) (fun _ _ _ h => h) (Or.inl ⟨by kernel_rfl, fun W hW => ?_⟩) hS ?_
            · go_simp
            simp only [Act.put, List.getElem_toArray, List.getElem_cons_succ, List.getElem_cons_zero, List.setIfInBounds_toArray, List.set_cons_zero, List.set_cons_succ]
            refine wpAnyH_takeS HNS (i := 56) (v := .pointer (some ⟨g25, 0, none⟩)) rfl (by kernel_rfl) (by kernel_rfl) (fun _ _ _ h => h) (Or.inl ⟨by kernel_rfl, fun W hW => ?_⟩) hS ?_
            · go_simp
            simp only [Act.put, List.getElem_toArray, List.getElem_cons_succ, List.getElem_cons_zero, List.setIfInBounds_toArray, List.set_cons_zero, List.set_cons_succ]
            refine wpAnyH_takeS HNS (i := 57) (v := .int .i64 1) rfl (by kernel_rfl) (by kernel_rfl) (fun _ _ _ h => h) (Or.inl ⟨by kernel_rfl, fun W hW => ?_⟩) hS ?_
            · (have hz := Held.below HV.out.x hW; have z0 := (hz.cell 0).trans y0; go_simp)
            simp only [Act.put, List.getElem_toArray, List.getElem_cons_succ, List.getElem_cons_zero, List.setIfInBounds_toArray, List.set_cons_zero, List.set_cons_succ]
            refine wpAnyH_takeS HNS (i := 58) (v := .bool true) rfl (by kernel_rfl) (by kernel_rfl) (fun _ _ _ h => h) (Or.inl ⟨by kernel_rfl, fun W hW => ?_⟩) hS ?_
            · go_simp
            simp only [Act.put, List.getElem_toArray, List.getElem_cons_succ, List.getElem_cons_zero, List.setIfInBounds_toArray, List.set_cons_zero, List.set_cons_succ]
            refine wpAnyH_takeS HNS (i := 59) (v := .bool true) rfl (by kernel_rfl) (by kernel_rfl) (fun _ _ _ h => h) (Or.inl ⟨by kernel_rfl, fun W hW => ?_⟩) hS ?_
            · go_simp
            simp only [Act.put, List.getElem_toArray, List.getElem_cons_succ, List.getElem_cons_zero, List.setIfInBounds_toArray, List.set_cons_zero, List.set_cons_succ]
            as_aux_lemma =>
              refine wpAnyH_takeS HNS (i := 60) (v := .bool true) rfl (by kernel_rfl) (by kernel_rfl) (fun _ _ _ h => h) (Or.inl ⟨by kernel_rfl, fun W hW => ?_⟩) hS ?_
              · go_simp
              simp only [Act.put, List.getElem_toArray, List.getElem_cons_succ, List.getElem_cons_zero, List.setIfInBounds_toArray, List.set_cons_zero, List.set_cons_succ]
              refine wpAnyH_takeS HNS (i := 61) (v := .int .i64 1) rfl (by kernel_rfl) (by kernel_rfl) (fun _ _ _ h => h) (Or.inl ⟨by kernel_rfl, fun W hW => ?_⟩) hS ?_
              · go_simp
              simp only [Act.put, List.getElem_toArray, List.getElem_cons_succ, List.getElem_cons_zero, List.setIfInBounds_toArray, List.set_cons_zero, List.set_cons_succ]
              refine wpAnyH_takeS HNS (i := 62) (v := .bool true) rfl (by kernel_rfl) (by kernel_rfl) (fun _ _ _ h => h) (Or.inl ⟨by kernel_rfl, fun W hW => ?_⟩) hS ?_
              · go_simp
              simp only [Act.put, List.getElem_toArray, List.getElem_cons_succ, List.getElem_cons_zero, List.setIfInBounds_toArray, List.set_cons_zero, List.set_cons_succ]
              refine wpAnyH_takeS HNS (i := 63) (v := .bool true) rfl (by kernel_rfl) (by kernel_rfl) (fun _ _ _ h => h) (Or.inl ⟨by kernel_rfl, fun W hW => ?_⟩) hS ?_
              · go_simp
              simp only [Act.put, List.getElem_toArray, List.getElem_cons_succ, List.getElem_cons_zero, List.setIfInBounds_toArray, List.set_cons_zero, List.set_cons_succ]
              refine wpAnyH_takeS HNS (i := 64) (v := .bool true) rfl (by kernel_rfl) (by kernel_rfl) (fun _ _ _ h => h) (Or.inl ⟨by kernel_rfl, fun W hW => ?_⟩) hS ?_
              · go_simp
              simp only [Act.put, List.getElem_toArray, List.getElem_cons_succ, List.getElem_cons_zero, List.setIfInBounds_toArray, List.set_cons_zero, List.set_cons_succ]
              refine wpAnyH_takeS HNS (i := 65) (v := .agg (pc B9 xt.cells.length d9 BA xt.free.length dA xt.most)) rfl (by kernel_rfl) (by kernel_rfl) (fun _ _ _ h => h) (Or.inl ⟨by kernel_rfl, fun W hW => ?_⟩) hS ?_
              · (have hz := Held.below v23.x hW; have z0 := hz.cell 0; have z1 := hz.cell 1; have z2 := hz.cell 2; simp at z0 z1 z2; go_simp)
              simp only [Act.put, List.getElem_toArray, List.getElem_cons_succ, List.getElem_cons_zero, List.setIfInBounds_toArray, List.set_cons_zero, List.set_cons_succ]
              refine wpAnyH_takeS HNS (i := 67) (v := .agg #[.int .i64 0, .int .i64 1]) rfl (by kernel_rfl) (by kernel_rfl) (fun _ _ _ h => h) (Or.inl ⟨by kernel_rfl, fun W hW => ?_⟩) hS ?_
              · (have hz := Held.below v19 hW; have z0 := hz.cell 0; have z1 := hz.cell 1; simp at z0 z1; go_simp)
              simp only [Act.put, List.getElem_toArray, List.getElem_cons_succ, List.getElem_cons_zero, List.setIfInBounds_toArray, List.set_cons_zero, List.set_cons_succ]
              refine wpAnyH_takeS HNS (i := 68) (v := .agg #[.int .i64 1, .int .i64 0]) rfl (by kernel_rfl) (by kernel_rfl) (fun _ _ _ h => h) (Or.inl ⟨by kernel_rfl, fun W hW => ?_⟩) hS ?_
              · (have hz := Held.below v9 hW; have z0 := hz.cell 0; have z1 := hz.cell 1; simp at z0 z1; go_simp)
              simp only [Act.put, List.getElem_toArray, List.getElem_cons_succ, List.getElem_cons_zero, List.setIfInBounds_toArray, List.set_cons_zero, List.set_cons_succ]
              refine' join2 (S := _) (H := fun Wj1 x1y0 x1y1 => Below W14.heap.size W14 Wj1 ∧ (∃ A c, x1y0 = .slice A 2 c ∧ PAt Wj1 Wj1.heap.size A [(0, 1), (1, 0)]) ∧ (∃ A c, x1y1 = .slice A 2 c ∧ PAt Wj1 Wj1.heap.size A [(0, 1), (1, 0)])) ?both ?key
              case both =>
                intro key
                refine wpAnyH_ready (rs := [66, 69]) (by kernel_rfl) (by simp) ?_
                refine (AllReadyH.cons rfl (fun K hK => ?_) (AllReadyH.cons rfl (fun K hK => ?_) AllReadyH.nil))
                · rw [if_pos (by kernel_rfl)]
                  go_simp
                  go_at_call 25
                  (with_reducible refine (refs_c fx11 Lt _ _ _ (v23.below hS).p).mono ?_)
                  rintro _ u1 ⟨Ar1, cr1, rfl, wr1, hb1⟩
                  have hpR := own2_at wr1
                  replace hS := Below.step hS hb1
                  (repeat (first | go_skip | go_guarded | go_step | go_upon))
                  refine hK.out _ _ hS (fun _ => ?_)
                  clear hK K
                  (try simp only [Act.put, List.getElem_toArray, List.getElem_cons_succ, List.getElem_cons_zero, List.setIfInBounds_toArray, List.set_cons_zero, List.set_cons_succ])
                  refine wpAnyH_ready (rs := [69]) (by kernel_rfl) (by simp) ?_
                  refine (AllReadyH.cons rfl (fun K hK => ?_) AllReadyH.nil)
                  · rw [if_pos (by kernel_rfl)]
                    refine wp_build2R rfl rfl rfl ?_
                    have hbA := ((Below.refl _ _).alloc (Nat.le_refl _) _ : Below u1.heap.size u1 (u1.alloc (.cells #[.int .i64 0, .int .i64 1, .int .i64 1, .int .i64 0] 27)))
                    replace hpR := pat_later hpR hbA
                    have hpT := two2_at (t := 27) (w := u1) 0 1 1 0
                    replace hS := Below.step hS hbA
                    clear hbA
                    generalize u1.alloc (.cells #[.int .i64 0, .int .i64 1, .int .i64 1, .int .i64 0] 27) = u2 at *
                    refine hK.out _ _ hS (fun _ => ?_)
                    clear hK K
                    (try simp only [Act.put, List.getElem_toArray, List.getElem_cons_succ, List.getElem_cons_zero, List.setIfInBounds_toArray, List.set_cons_zero, List.set_cons_succ])
                    have hH : Below W14.heap.size W14 u2 ∧ (∃ A c, (.slice Ar1 2 cr1 : Value) = .slice A 2 c ∧ PAt u2 u2.heap.size A [(0, 1), (1, 0)]) ∧ (∃ A c, (.slice (some ⟨u1.heap.size, 0, none⟩) 2 2 : Value) = .slice A 2 c ∧ PAt u2 u2.heap.size A [(0, 1), (1, 0)]) := And.intro hS (And.intro ⟨_, _, rfl, hpR⟩ ⟨_, _, rfl, hpT⟩)
                    generalize (.slice Ar1 2 cr1 : Value) = x1y0 at hH ⊢
                    generalize (.slice (some ⟨u1.heap.size, 0, none⟩) 2 2 : Value) = x1y1 at hH ⊢
                    exact key u2 x1y0 x1y1 hH
                · rw [if_pos (by kernel_rfl)]
                  refine wp_build2R rfl rfl rfl ?_
                  have hbA := ((Below.refl _ _).alloc (Nat.le_refl _) _ : Below W14.heap.size W14 (W14.alloc (.cells #[.int .i64 0, .int .i64 1, .int .i64 1, .int .i64 0] 27)))
                  have hpT := two2_at (t := 27) (w := W14) 0 1 1 0
                  replace hS := Below.step hS hbA
                  clear hbA
                  generalize W14.alloc (.cells #[.int .i64 0, .int .i64 1, .int .i64 1, .int .i64 0] 27) = u3 at *
                  refine hK.out _ _ hS (fun _ => ?_)
                  clear hK K
                  (try simp only [Act.put, List.getElem_toArray, List.getElem_cons_succ, List.getElem_cons_zero, List.setIfInBounds_toArray, List.set_cons_zero, List.set_cons_succ])
                  refine wpAnyH_ready (rs := [66]) (by kernel_rfl) (by simp) ?_
                  refine (AllReadyH.cons rfl (fun K hK => ?_) AllReadyH.nil)
                  · rw [if_pos (by kernel_rfl)]
                    go_simp
                    go_at_call 25
                    (with_reducible refine (refs_c fx11 Lt _ _ _ (v23.below hS).p).mono ?_)
                    rintro _ u4 ⟨Ar4, cr4, rfl, wr4, hb4⟩
                    replace hpT := pat_later hpT hb4
                    have hpR := own2_at wr4
                    replace hS := Below.step hS hb4
                    (repeat (first | go_skip | go_guarded | go_step | go_upon))
                    refine hK.out _ _ hS (fun _ => ?_)
                    clear hK K
                    (try simp only [Act.put, List.getElem_toArray, List.getElem_cons_succ, List.getElem_cons_zero, List.setIfInBounds_toArray, List.set_cons_zero, List.set_cons_succ])
                    have hH : Below W14.heap.size W14 u4 ∧ (∃ A c, (.slice Ar4 2 cr4 : Value) = .slice A 2 c ∧ PAt u4 u4.heap.size A [(0, 1), (1, 0)]) ∧ (∃ A c, (.slice (some ⟨W14.heap.size, 0, none⟩) 2 2 : Value) = .slice A 2 c ∧ PAt u4 u4.heap.size A [(0, 1), (1, 0)]) := And.intro hS (And.intro ⟨_, _, rfl, hpR⟩ ⟨_, _, rfl, hpT⟩)
                    generalize (.slice Ar4 2 cr4 : Value) = x1y0 at hH ⊢
                    generalize (.slice (some ⟨W14.heap.size, 0, none⟩) 2 2 : Value) = x1y1 at hH ⊢
                    exact key u4 x1y0 x1y1 hH
              case key =>
                intro Wj1 x1y0 x1y1 hH
                obtain ⟨hS, ⟨Ar, cr, rfl, hpR⟩, ⟨At, ct, rfl, hpT⟩⟩ := hH
                as_aux_lemma =>
                  refine wpAnyH_ready (rs := [70]) (by kernel_rfl) (by simp) ?_
                  refine (AllReadyH.cons rfl (fun K hK => ?_) AllReadyH.nil)
                  · rw [if_pos (by kernel_rfl)]
                    go_simp
                    go_at_call 24
                    (with_reducible refine (rrefs_n (n := 2) (m := 2) (l := [(0, 1), (1, 0)]) (k := [(0, 1), (1, 0)]) (R := true) rfl rfl (by simp) (by decide) (by decide) _ _ _ hpR hpT).mono ?_)
                    rintro _ u5 ⟨rfl, hb5⟩
                    replace hpR := pat_later hpR hb5
                    replace hpT := pat_later hpT hb5
                    clear hpR
                    clear hpT
                    replace hS := Below.step hS hb5
                    (repeat (first | go_skip | go_guarded | go_step | go_upon))
                    refine hK.out _ _ hS (fun _ => ?_)
                    clear hK K
                    (try simp only [Act.put, List.getElem_toArray, List.getElem_cons_succ, List.getElem_cons_zero, List.setIfInBounds_toArray, List.set_cons_zero, List.set_cons_succ])
                    refine wpAnyH_takeS HNS (i := 71) (v := .bool true) rfl (by kernel_rfl) (by kernel_rfl) (fun _ _ _ h => h) (Or.inl ⟨by kernel_rfl, fun W hW => ?_⟩) hS ?_
                    · go_simp
                    simp only [Act.put, List.getElem_toArray, List.getElem_cons_succ, List.getElem_cons_zero, List.setIfInBounds_toArray, List.set_cons_zero, List.set_cons_succ]
                    refine wpAnyH_takeS HNS (i := 72) (v := .bool true) rfl (by kernel_rfl) (by kernel_rfl) (fun _ _ _ h => h) (Or.inl ⟨by kernel_rfl, fun W hW => ?_⟩) hS ?_
                    · go_simp
                    simp only [Act.put, List.getElem_toArray, List.getElem_cons_succ, List.getElem_cons_zero, List.setIfInBounds_toArray, List.set_cons_zero, List.set_cons_succ]
                    refine wpAnyH_takeS HNS (i := 73) (v := .agg (pc B9 xt.cells.length d9 BA xt.free.length dA xt.most)) rfl (by kernel_rfl) (by kernel_rfl) (fun _ _ _ h => h) (Or.inl ⟨by kernel_rfl, fun W hW => ?_⟩) hS ?_
                    · (have hz := Held.below v23.x hW; have z0 := hz.cell 0; have z1 := hz.cell 1; have z2 := hz.cell 2; simp at z0 z1 z2; go_simp)
                    simp only [Act.put, List.getElem_toArray, List.getElem_cons_succ, List.getElem_cons_zero, List.setIfInBounds_toArray, List.set_cons_zero, List.set_cons_succ]
                    refine wpAnyH_ready (rs := [74]) (by kernel_rfl) (by simp) ?_
                    refine (AllReadyH.cons rfl (fun K hK => ?_) AllReadyH.nil)
                    · rw [if_pos (by kernel_rfl)]
                      go_simp
                      go_at_call 27
                      (with_reducible refine (may_c fx12 Lt _ _ _ (v23.below hS).p).mono ?_)
                      rintro _ u6 ⟨rfl, hb6⟩
                      replace hS := Below.step hS hb6
                      (repeat (first | go_skip | go_guarded | go_step | go_upon))
                      refine hK.out _ _ hS (fun _ => ?_)
                      clear hK K
                      (try simp only [Act.put, List.getElem_toArray, List.getElem_cons_succ, List.getElem_cons_zero, List.setIfInBounds_toArray, List.set_cons_zero, List.set_cons_succ])
                      refine wpAnyH_takeS HNS (i := 75) (v := .bool true) rfl (by kernel_rfl) (by kernel_rfl) (fun _ _ _ h => h) (Or.inl ⟨by kernel_rfl, fun W hW => ?_⟩) hS ?_
                      · go_simp
                      simp only [Act.put, List.getElem_toArray, List.getElem_cons_succ, List.getElem_cons_zero, List.setIfInBounds_toArray, List.set_cons_zero, List.set_cons_succ]
                      refine wpAnyH_takeS HNS (i := 76) (v := .bool true) rfl (by kernel_rfl) (by kernel_rfl) (fun _ _ _ h => h) (Or.inl ⟨by kernel_rfl, fun W hW => ?_⟩) hS ?_
                      · go_simp
                      simp only [Act.put, List.getElem_toArray, List.getElem_cons_succ, List.getElem_cons_zero, List.setIfInBounds_toArray, List.set_cons_zero, List.set_cons_succ]
                      refine wpAnyH_takeS HNS (i := 77) (v := .agg #[.slice none 0 0, .slice none 0 0, .int .i64 0]) rfl (by kernel_rfl) (by kernel_rfl) (fun _ _ _ h => h) (Or.inl ⟨by kernel_rfl, fun W hW => ?_⟩) hS ?_
                      · go_simp
                      simp only [Act.put, List.getElem_toArray, List.getElem_cons_succ, List.getElem_cons_zero, List.setIfInBounds_toArray, List.set_cons_zero, List.set_cons_succ]
                      refine wpAnyH_ready (rs := [78]) (by kernel_rfl) (by simp) ?_
                      refine (AllReadyH.cons rfl (fun K hK => ?_) AllReadyH.nil)
                      · rw [if_pos (by kernel_rfl)]
                        go_simp
                        go_at_call 27
                        (with_reducible refine (MZ _).mono ?_)
                        rintro _ u7 ⟨rfl, hb7⟩
                        replace hS := Below.step hS hb7
                        (repeat (first | go_skip | go_guarded | go_step | go_upon))
                        refine hK.out _ _ hS (fun _ => ?_)
                        clear hK K
                        (try simp only [Act.put, List.getElem_toArray, List.getElem_cons_succ, List.getElem_cons_zero, List.setIfInBounds_toArray, List.set_cons_zero, List.set_cons_succ])
                        refine wpAnyH_takeS HNS (i := 79) (v := .bool true) rfl (by kernel_rfl) (by kernel_rfl) (fun _ _ _ h => h) (Or.inl ⟨by kernel_rfl, fun W hW => ?_⟩) hS ?_
                        · go_simp
                        simp only [Act.put, List.getElem_toArray, List.getElem_cons_succ, List.getElem_cons_zero, List.setIfInBounds_toArray, List.set_cons_zero, List.set_cons_succ]
                        refine wpAnyH_takeS HNS (i := 80) (v := .bool true) rfl (by kernel_rfl) (by kernel_rfl) (fun _ _ _ h => h) (Or.inl ⟨by kernel_rfl, fun W hW => ?_⟩) hS ?_
                        · go_simp
                        simp only [Act.put, List.getElem_toArray, List.getElem_cons_succ, List.getElem_cons_zero, List.setIfInBounds_toArray, List.set_cons_zero, List.set_cons_succ]
                        refine wpAnyH_takeS HNS (i := 81) (v := .bool true) rfl (by kernel_rfl) (by kernel_rfl) (fun _ _ _ h => h) (Or.inl ⟨by kernel_rfl, fun W hW => ?_⟩) hS ?_
                        · go_simp
                        simp only [Act.put, List.getElem_toArray, List.getElem_cons_succ, List.getElem_cons_zero, List.setIfInBounds_toArray, List.set_cons_zero, List.set_cons_succ]
                        refine wpAnyH_takeS HNS (i := 82) (v := .agg (pc B9 xt.cells.length d9 BA xt.free.length dA xt.most)) rfl (by kernel_rfl) (by kernel_rfl) (fun _ _ _ h => h) (Or.inl ⟨by kernel_rfl, fun W hW => ?_⟩) hS ?_
                        · (have hz := Held.below v23.x hW; have z0 := hz.cell 0; have z1 := hz.cell 1; have z2 := hz.cell 2; simp at z0 z1 z2; go_simp)
                        simp only [Act.put, List.getElem_toArray, List.getElem_cons_succ, List.getElem_cons_zero, List.setIfInBounds_toArray, List.set_cons_zero, List.set_cons_succ]
                        refine wpAnyH_takeS HNS (i := 83) (v := .agg (pc B9 xt.cells.length d9 BA xt.free.length dA xt.most)) rfl (by kernel_rfl) (by kernel_rfl) (fun _ _ _ h => h) (Or.inl ⟨by kernel_rfl, fun W hW => ?_⟩) hS ?_
                        · (have hz := Held.below v23.x hW; have z0 := hz.cell 0; have z1 := hz.cell 1; have z2 := hz.cell 2; simp at z0 z1 z2; go_simp)
                        simp only [Act.put, List.getElem_toArray, List.getElem_cons_succ, List.getElem_cons_zero, List.setIfInBounds_toArray, List.set_cons_zero, List.set_cons_succ]
                        refine wpAnyH_ready (rs := [84]) (by kernel_rfl) (by simp) ?_
                        refine (AllReadyH.cons rfl (fun K hK => ?_) AllReadyH.nil)
                        · rw [if_pos (by kernel_rfl)]
                          go_simp
                          go_at_call 29
                          (with_reducible refine (same_c fx14 Lt Lt _ _ _ _ _ (v23.below hS).p (v23.below hS).p).mono ?_)
                          rintro _ u8 ⟨rfl, hb8⟩
                          replace hS := Below.step hS hb8
                          (repeat (first | go_skip | go_guarded | go_step | go_upon))
                          refine hK.out _ _ hS (fun _ => ?_)
                          clear hK K
                          (try simp only [Act.put, List.getElem_toArray, List.getElem_cons_succ, List.getElem_cons_zero, List.setIfInBounds_toArray, List.set_cons_zero, List.set_cons_succ])
                          refine wpAnyH_takeS HNS (i := 85) (v := .bool true) rfl (by kernel_rfl) (by kernel_rfl) (fun _ _ _ h => h) (Or.inl ⟨by kernel_rfl, fun W hW => ?_⟩) hS ?_
                          · go_simp
                          simp only [Act.put, List.getElem_toArray, List.getElem_cons_succ, List.getElem_cons_zero, List.setIfInBounds_toArray, List.set_cons_zero, List.set_cons_succ]
                          refine wpAnyH_takeS HNS (i := 86) (v := .bool true) rfl (by kernel_rfl) (by kernel_rfl) (fun _ _ _ h => h) (Or.inl ⟨by kernel_rfl, fun W hW => ?_⟩) hS ?_
                          · go_simp
                          simp only [Act.put, List.getElem_toArray, List.getElem_cons_succ, List.getElem_cons_zero, List.setIfInBounds_toArray, List.set_cons_zero, List.set_cons_succ]
                          refine wpAnyH_takeS HNS (i := 87) (v := .agg (pc B5 xs.cells.length d5 B6 xs.free.length d6 xs.most)) rfl (by kernel_rfl) (by kernel_rfl) (fun _ _ _ h => h) (Or.inl ⟨by kernel_rfl, fun W hW => ?_⟩) hS ?_
                          · (have hz := Held.below v18.x hW; have z0 := hz.cell 0; have z1 := hz.cell 1; have z2 := hz.cell 2; simp at z0 z1 z2; go_simp)
                          simp only [Act.put, List.getElem_toArray, List.getElem_cons_succ, List.getElem_cons_zero, List.setIfInBounds_toArray, List.set_cons_zero, List.set_cons_succ]
                          refine wpAnyH_takeS HNS (i := 88) (v := .agg (pc B9 xt.cells.length d9 BA xt.free.length dA xt.most)) rfl (by kernel_rfl) (by kernel_rfl) (fun _ _ _ h => h) (Or.inl ⟨by kernel_rfl, fun W hW => ?_⟩) hS ?_
                          · (have hz := Held.below v23.x hW; have z0 := hz.cell 0; have z1 := hz.cell 1; have z2 := hz.cell 2; simp at z0 z1 z2; go_simp)
                          simp only [Act.put, List.getElem_toArray, List.getElem_cons_succ, List.getElem_cons_zero, List.setIfInBounds_toArray, List.set_cons_zero, List.set_cons_succ]
                          refine wpAnyH_ready (rs := [89]) (by kernel_rfl) (by simp) ?_
                          refine (AllReadyH.cons rfl (fun K hK => ?_) AllReadyH.nil)
                          · rw [if_pos (by kernel_rfl)]
                            go_simp
                            go_at_call 29
                            (with_reducible refine (same_c fx15 Ls Lt _ _ _ _ _ (v18.below hS).p (v23.below hS).p).mono ?_)
                            rintro _ u9 ⟨rfl, hb9⟩
                            replace hS := Below.step hS hb9
                            (repeat (first | go_skip | go_guarded | go_step | go_upon))
                            refine hK.out _ _ hS (fun _ => ?_)
                            clear hK K
                            (try simp only [Act.put, List.getElem_toArray, List.getElem_cons_succ, List.getElem_cons_zero, List.setIfInBounds_toArray, List.set_cons_zero, List.set_cons_succ])
                            refine wpAnyH_takeS HNS (i := 90) (v := .bool true) rfl (by kernel_rfl) (by kernel_rfl) (fun _ _ _ h => h) (Or.inl ⟨by kernel_rfl, fun W hW => ?_⟩) hS ?_
                            · go_simp
                            simp only [Act.put, List.getElem_toArray, List.getElem_cons_succ, List.getElem_cons_zero, List.setIfInBounds_toArray, List.set_cons_zero, List.set_cons_succ]
                            refine wpAnyH_takeS HNS (i := 91) (v := .bool true) rfl (by kernel_rfl) (by kernel_rfl) (fun _ _ _ h => h) (Or.inl ⟨by kernel_rfl, fun W hW => ?_⟩) hS ?_
                            · go_simp
                            simp only [Act.put, List.getElem_toArray, List.getElem_cons_succ, List.getElem_cons_zero, List.setIfInBounds_toArray, List.set_cons_zero, List.set_cons_succ]
                            refine wpAnyH_takeS HNS (i := 92) (v := .bool true) rfl (by kernel_rfl) (by kernel_rfl) (fun _ _ _ h => h) (Or.inl ⟨by kernel_rfl, fun W hW => ?_⟩) hS ?_
                            · go_simp
                            simp only [Act.put, List.getElem_toArray, List.getElem_cons_succ, List.getElem_cons_zero, List.setIfInBounds_toArray, List.set_cons_zero, List.set_cons_succ]
                            refine wpAnyH_done (by kernel_rfl) ?_ _
                            (repeat (first | go_skip | go_guarded | go_step | go_upon))
                            go_ret
                            exact ⟨rfl, Below.step HBD.out hS⟩
end Go.Proofs.Ytkpjlobpaippdaa
