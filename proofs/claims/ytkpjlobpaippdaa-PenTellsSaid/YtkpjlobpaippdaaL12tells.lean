/- PenTells. -/
import Derived.Test.YtkpjlobpaippdaaYl
import Derived.Test.YtkpjlobpaippdaaYz
import Derived.Test.YtkpjlobpaippdaaYfl
import Derived.Test.YtkpjlobpaippdaaYw
import Derived.Test.YtkpjlobpaippdaaYth
import Derived.Deep.DeepCutAuto
import Derived.Deep.CutBlock
namespace Go.Proofs.Ytkpjlobpaippdaa.penTells
set_option linter.unusedVariables false
set_option linter.unusedSimpArgs false
open Go.RowKit Go.ChangeShapes Go.WideShapes Go.ChangeAt Go.Sort Go.Proofs.Ytkpjlobpaippdaa

set_option maxHeartbeats 8000000 in
set_option maxRecDepth 100000 in
theorem walk (CF : ∀ w, Calls Try.prog 11 #[] w fun e w' => e = .returned (.bool true) ∧ Below w.heap.size w w') {A A2 : Option Addr} {p : Zp} {f : Frm} {fs : Array Value} {B : Nat} (c c2 : Nat) (r : V) (w : World) (hp : PAtZ w B A A2 p) (hf : FrmAt w B (.agg fs) f) (hfs : fs.size = 16) (hfn : fs.all (·.oneCell') = true) (hB : B ≤ w.heap.size) (hl1 : p.cells.length ≤ maxLen) (hl2 : p.free.length ≤ maxLen) :
    Calls Try.prog 3 #[pv A p.cells.length c A2 p.free.length c2 p.most, gv r.1 r.2, .agg fs] w fun e w' => e = .returned (.bool true) ∧ Below w.heap.size w w' := by
  have hW : Below w.heap.size w (((w.alloc (.cells (pc A p.cells.length c A2 p.free.length c2 p.most) 25)).alloc (.cells (refc r.1 r.2) 27)).alloc (.cells fs 35)) := below3 w _ _ _
  have v3 : PR (((w.alloc (.cells (pc A p.cells.length c A2 p.free.length c2 p.most) 25)).alloc (.cells (refc r.1 r.2) 27)).alloc (.cells fs 35)) w.heap.size A c A2 c2 p := ⟨((Held.new w 25 (pc A p.cells.length c A2 p.free.length c2 p.most)).alloc (.cells (refc r.1 r.2) 27)).alloc (.cells fs 35), (hp.below hW hB).more (Nat.le_trans hB hW.size)⟩
  have v4 : Held (((w.alloc (.cells (pc A p.cells.length c A2 p.free.length c2 p.most) 25)).alloc (.cells (refc r.1 r.2) 27)).alloc (.cells fs 35)) (w.heap.size + 1) 27 (refc r.1 r.2) := (Held.new1 w (.cells (pc A p.cells.length c A2 p.free.length c2 p.most) 25) 27 (refc r.1 r.2)).alloc (.cells fs 35)
  have v5 : FV (((w.alloc (.cells (pc A p.cells.length c A2 p.free.length c2 p.most) 25)).alloc (.cells (refc r.1 r.2) 27)).alloc (.cells fs 35)) (w.heap.size + 1 + 1) fs f := ⟨Held.new2 w (.cells (pc A p.cells.length c A2 p.free.length c2 p.most) 25) (.cells (refc r.1 r.2) 27) 35 fs, hfs, hfn, (hf.below hW hB).more (Nat.le_trans hB hW.size)⟩
  have HL1 := Lib.hid hl1
  have HL2 := Lib.hid hl2
  obtain ⟨b1, hb1⟩ : ∃ b, smZ p 30 = b := ⟨_, rfl⟩
  obtain ⟨b2, hb2⟩ : ∃ b, smB f = b := ⟨_, rfl⟩
  have H1 := Lib.hid hb1
  have H2 := Lib.hid hb2
  clear hp hf hfs hfn hB hl1 hl2 hb1 hb2
  go_enter Try.func3, Try.ntmps3
  go_upto_region 1 with (guard_target = wpList _ _ _ (Oper.mk (some 5) _ _ _ _ none :: _) _ _; refine wpList_box_arr rfl 35 _ rfl fs rfl ?_)
  generalize (((w.alloc (.cells (pc A p.cells.length c A2 p.free.length c2 p.most) 25)).alloc (.cells (refc r.1 r.2) 27)).alloc (.cells fs 35)) = W0 at *
  cases b1
  case false =>
    go_wp2_with (first
      | (guard_target = wpList _ _ _ (Oper.mk (some 29) _ _ _ _ none :: _) _ _; refine wpList_load_row rfl 25 _ rfl w.heap.size rfl _ _ _ _ v3.x Try.underlying25 rfl (by kernel_rfl) ?_)
      | (go_at_call 9; (with_reducible refine (small_c H1.out HL1.out HL2.out c c2 _ v3.p).mono ?_); rintro _ us ⟨rfl, hbs⟩; replace v3 := v3.below hbs; replace v4 := Held.below v4 hbs; replace v5 := v5.below hbs; replace hW := Below.step hW hbs)
      | (guard_target = wpList _ _ _ (Oper.mk (some 33) _ _ _ _ _ :: _) _ _; refine wpList_done rfl ?_; refine wpList_load_row rfl 35 _ rfl (w.heap.size + 1 + 1) rfl _ _ _ _ v5.x Try.underlying35 rfl (by rw [v5.s]; kernel_rfl) ?_)
      | (go_at_call 10; (with_reducible refine (smallf_c H2.out _ v5.p).mono ?_); rintro _ ut ⟨rfl, hbt⟩; replace v3 := v3.below hbt; replace v4 := Held.below v4 hbt; replace v5 := v5.below hbt; replace hW := Below.step hW hbt)
      | (go_at_call 11; (with_reducible refine (CF _).mono ?_); rintro _ uf ⟨rfl, hbf⟩; replace v3 := v3.below hbf; replace v4 := Held.below v4 hbf; replace v5 := v5.below hbf; replace hW := Below.step hW hbf))
    go_ret
    exact ⟨rfl, hW⟩
  case true =>
  cases b2
  case false =>
    go_wp2_with (first
      | (guard_target = wpList _ _ _ (Oper.mk (some 29) _ _ _ _ none :: _) _ _; refine wpList_load_row rfl 25 _ rfl w.heap.size rfl _ _ _ _ v3.x Try.underlying25 rfl (by kernel_rfl) ?_)
      | (go_at_call 9; (with_reducible refine (small_c H1.out HL1.out HL2.out c c2 _ v3.p).mono ?_); rintro _ us ⟨rfl, hbs⟩; replace v3 := v3.below hbs; replace v4 := Held.below v4 hbs; replace v5 := v5.below hbs; replace hW := Below.step hW hbs)
      | (guard_target = wpList _ _ _ (Oper.mk (some 33) _ _ _ _ _ :: _) _ _; refine wpList_done rfl ?_; refine wpList_load_row rfl 35 _ rfl (w.heap.size + 1 + 1) rfl _ _ _ _ v5.x Try.underlying35 rfl (by rw [v5.s]; kernel_rfl) ?_)
      | (go_at_call 10; (with_reducible refine (smallf_c H2.out _ v5.p).mono ?_); rintro _ ut ⟨rfl, hbt⟩; replace v3 := v3.below hbt; replace v4 := Held.below v4 hbt; replace v5 := v5.below hbt; replace hW := Below.step hW hbt)
      | (go_at_call 11; (with_reducible refine (CF _).mono ?_); rintro _ uf ⟨rfl, hbf⟩; replace v3 := v3.below hbf; replace v4 := Held.below v4 hbf; replace v5 := v5.below hbf; replace hW := Below.step hW hbf))
    go_ret
    exact ⟨rfl, hW⟩
  case true =>
  have SP : SmP p 30 := by
    have h9 := H1.out
    unfold smZ at h9
    simp only [Bool.and_eq_true, decide_eq_true_eq, List.all_eq_true] at h9
    exact ⟨h9.1.1, h9.1.2, fun x hx => sm_frm (h9.2 x hx)⟩
  have LF := sm_frm H2.out
  have LP := SP.len (by decide)
  obtain ⟨L, hL⟩ : ∃ L, refsZ p = L := ⟨_, rfl⟩
  obtain ⟨SA, ra, xa, ea⟩ : ∃ S q x, layZ p f = (S, q, x) := ⟨_, _, _, rfl⟩
  obtain ⟨SB, xb, eb⟩ : ∃ S x, setZ p r f = (S, x) := ⟨_, _, rfl⟩
  obtain ⟨SC, xc, ec⟩ : ∃ S x, dropZ p r = (S, x) := ⟨_, _, rfl⟩
  obtain ⟨GF, ug, eg⟩ : ∃ S x, getZ p r = (S, x) := ⟨_, _, rfl⟩
  obtain ⟨SN, un, en⟩ : ∃ S x, newZ r.1 = (S, x) := ⟨_, _, rfl⟩
  obtain ⟨ok, hok⟩ : ∃ b, okZ p = b := ⟨_, rfl⟩
  obtain ⟨sm, hsm⟩ : ∃ b, decide (p = SA) = b := ⟨_, rfl⟩
  have LA := (lay_sm ea SP LF).len (by decide)
  have LB := (set_sm eb SP LF).len (by decide)
  have LC := (drop_sm ec SP).len (by decide)
  have LG := get_len eg SP
  have LN := new_sm en
  have hLn : L.length ≤ 100000 := by
    rw [← hL]
    unfold refsZ
    split
    · have := refsL_len p.cells 0
      have := SP.cells
      omega
    · simp
  have EA := Lib.hid ea
  have EB := Lib.hid eb
  have EC := Lib.hid ec
  have EG := Lib.hid eg
  have EN := Lib.hid en
  have HLR := Lib.hid hL
  have HOK := Lib.hid hok
  have HSM := Lib.hid hsm
  clear ea eb ec eg en hL hok hsm
  go_upto_region 3 with (first
    | (guard_target = wpList _ _ _ (Oper.mk (some 29) _ _ _ _ none :: _) _ _; refine wpList_load_row rfl 25 _ rfl w.heap.size rfl _ _ _ _ v3.x Try.underlying25 rfl (by kernel_rfl) ?_)
    | (go_at_call 9; (with_reducible refine (small_c H1.out HL1.out HL2.out c c2 _ v3.p).mono ?_); rintro _ us ⟨rfl, hbs⟩; replace v3 := v3.below hbs; replace v4 := Held.below v4 hbs; replace v5 := v5.below hbs; replace hW := Below.step hW hbs)
    | (guard_target = wpList _ _ _ (Oper.mk (some 33) _ _ _ _ _ :: _) _ _; refine wpList_done rfl ?_; refine wpList_load_row rfl 35 _ rfl (w.heap.size + 1 + 1) rfl _ _ _ _ v5.x Try.underlying35 rfl (by rw [v5.s]; kernel_rfl) ?_)
    | (go_at_call 10; (with_reducible refine (smallf_c H2.out _ v5.p).mono ?_); rintro _ ut ⟨rfl, hbt⟩; replace v3 := v3.below hbt; replace v4 := Held.below v4 hbt; replace v5 := v5.below hbt; replace hW := Below.step hW hbt)
    | (go_at_call 11; (with_reducible refine (CF _).mono ?_); rintro _ uf ⟨rfl, hbf⟩; replace v3 := v3.below hbf; replace v4 := Held.below v4 hbf; replace v5 := v5.below hbf; replace hW := Below.step hW hbf))
  go_upto_region 4 with (first
    | (guard_target = wpList _ _ _ (Oper.mk (some 39) _ _ _ _ none :: _) _ _; refine wpList_load_row rfl 25 _ rfl w.heap.size rfl _ _ _ _ v3.x Try.underlying25 rfl (by kernel_rfl) ?_)
    | (guard_target = wpList _ _ _ (Oper.mk (some 40) _ _ _ _ none :: _) _ _; refine wpList_load_row rfl 35 _ rfl (w.heap.size + 1 + 1) rfl _ _ _ _ v5.x Try.underlying35 rfl (by rw [v5.s]; kernel_rfl) ?_)
    | (go_at_call 12; (with_reducible refine (lay_c EA.out LP LF c c2 _ v3.p v5.s v5.p).mono ?_); rintro _ u ⟨A7, c7, B7, d7, rfl, ho, hb⟩; have hn := (Held.new u 25 pz0).alloc (.cells (refc 0 0) 27); have hm := Held.new1 u (.cells pz0 25) 27 (refc 0 0))
    | (guard_target = wpList _ _ _ (Oper.mk _ (Op.store 25 (.tmp 7) _) _ _ _ none :: _) _ _; refine wpList_store_row rfl 25 _ _ rfl u.heap.size (pc A7 SA.cells.length c7 B7 SA.free.length d7 SA.most) rfl rfl _ _ hn (by kernel_rfl) rfl (by simp [Value.oneCell']) ?_; have hm2 := held_row hm (Nat.succ_ne_self u.heap.size) (pc A7 SA.cells.length c7 B7 SA.free.length d7 SA.most))
    | (guard_target = wpList _ _ _ (Oper.mk _ (Op.store 27 (.tmp 8) _) _ _ _ none :: _) _ _; refine wpList_store_row rfl 27 _ _ rfl (u.heap.size + 1) (refc ra.1 ra.2) rfl rfl _ _ hm2 (by kernel_rfl) rfl (by simp [Value.oneCell']) ?_))
  obtain ⟨v7, v8, hbW⟩ := new_p2 (c := c7) (c2 := d7) (P := SA) (x := ra.1) (y := ra.2) hb ho
  have hs_v7 := hb.size
  have hs_v7r := (show _ < u.heap.size + 1 from Nat.lt_succ_of_le hb.size)
  clear hb ho hn hm hm2
  replace v3 := v3.below hbW
  replace v4 := Held.below v4 hbW
  replace v5 := v5.below hbW
  replace hW := Below.step hW hbW
  clear hbW
  generalize World.setRow _ (u.heap.size + 1) _ = W3 at *
  generalize u.heap.size + 1 = g7r at *
  generalize u.heap.size = g7 at *
  go_upto_region 5 with (first
    | (guard_target = wpList _ _ _ (Oper.mk (some 46) _ _ _ _ none :: _) _ _; refine wpList_load_row rfl 25 _ rfl w.heap.size rfl _ _ _ _ v3.x Try.underlying25 rfl (by kernel_rfl) ?_)
    | (guard_target = wpList _ _ _ (Oper.mk (some 47) _ _ _ _ none :: _) _ _; refine wpList_load_row rfl 35 _ rfl (w.heap.size + 1 + 1) rfl _ _ _ _ v5.x Try.underlying35 rfl (by rw [v5.s]; kernel_rfl) ?_)
    | (go_at_call 13; (with_reducible refine (rlay_c EA.out LP c c2 _ v3.p v5.s v5.n v5.p).mono ?_); rintro _ u ⟨A10, c10, B10, d10, rfl, ho, hb⟩; have hn := (Held.new u 25 pz0).alloc (.cells (refc 0 0) 27); have hm := Held.new1 u (.cells pz0 25) 27 (refc 0 0))
    | (guard_target = wpList _ _ _ (Oper.mk _ (Op.store 25 (.tmp 10) _) _ _ _ none :: _) _ _; refine wpList_store_row rfl 25 _ _ rfl u.heap.size (pc A10 SA.cells.length c10 B10 SA.free.length d10 SA.most) rfl rfl _ _ hn (by kernel_rfl) rfl (by simp [Value.oneCell']) ?_; have hm2 := held_row hm (Nat.succ_ne_self u.heap.size) (pc A10 SA.cells.length c10 B10 SA.free.length d10 SA.most))
    | (guard_target = wpList _ _ _ (Oper.mk _ (Op.store 27 (.tmp 11) _) _ _ _ none :: _) _ _; refine wpList_store_row rfl 27 _ _ rfl (u.heap.size + 1) (refc ra.1 ra.2) rfl rfl _ _ hm2 (by kernel_rfl) rfl (by simp [Value.oneCell']) ?_))
  obtain ⟨v10, v11, hbW⟩ := new_r2 (c := c10) (c2 := d10) (P := SA) (x := ra.1) (y := ra.2) hb ho
  have hs_v10 := hb.size
  have hs_v10r := (show _ < u.heap.size + 1 from Nat.lt_succ_of_le hb.size)
  clear hb ho hn hm hm2
  replace v3 := v3.below hbW
  replace v4 := Held.below v4 hbW
  replace v5 := v5.below hbW
  replace v8 := Held.below v8 hbW
  replace v7 := v7.below hbW
  replace hW := Below.step hW hbW
  clear hbW
  generalize World.setRow _ (u.heap.size + 1) _ = W4 at *
  generalize u.heap.size + 1 = g10r at *
  generalize u.heap.size = g10 at *
  go_upto_region 6 with (first
    | (guard_target = wpList _ _ _ (Oper.mk (some 53) _ _ _ _ none :: _) _ _; refine wpList_load_row rfl 25 _ rfl w.heap.size rfl _ _ _ _ v3.x Try.underlying25 rfl (by kernel_rfl) ?_)
    | (guard_target = wpList _ _ _ (Oper.mk (some 54) _ _ _ _ none :: _) _ _; refine wpList_load_row rfl 27 _ rfl (w.heap.size + 1) rfl _ _ _ _ v4 Try.underlying27 rfl (by kernel_rfl) ?_)
    | (guard_target = wpList _ _ _ (Oper.mk (some 55) _ _ _ _ none :: _) _ _; refine wpList_load_row rfl 35 _ rfl (w.heap.size + 1 + 1) rfl _ _ _ _ v5.x Try.underlying35 rfl (by rw [v5.s]; kernel_rfl) ?_)
    | (go_at_call 14; (with_reducible refine (set_c EB.out LP LF c c2 _ v3.p v5.s v5.p).mono ?_); rintro _ u ⟨A13, c13, B13, d13, rfl, ho, hb⟩; have hn := Held.new u 25 pz0)
    | (guard_target = wpList _ _ _ (Oper.mk _ (Op.store 25 (.tmp 13) _) _ _ _ none :: _) _ _; refine wpList_store_row rfl 25 _ _ rfl u.heap.size (pc A13 SB.cells.length c13 B13 SB.free.length d13 SB.most) rfl rfl _ _ hn (by kernel_rfl) rfl (by simp [Value.oneCell']) ?_))
  obtain ⟨v13, hbW⟩ := new_p1 (c := c13) (c2 := d13) (P := SB) hb ho
  have hs_v13 := hb.size
  clear hb ho hn
  replace v3 := v3.below hbW
  replace v4 := Held.below v4 hbW
  replace v5 := v5.below hbW
  replace v8 := Held.below v8 hbW
  replace v7 := v7.below hbW
  replace v11 := Held.below v11 hbW
  replace v10 := v10.below hbW
  replace hW := Below.step hW hbW
  clear hbW
  generalize World.setRow _ u.heap.size _ = W5 at *
  generalize u.heap.size = g13 at *
  go_upto_region 7 with (first
    | (guard_target = wpList _ _ _ (Oper.mk (some 60) _ _ _ _ none :: _) _ _; refine wpList_load_row rfl 25 _ rfl w.heap.size rfl _ _ _ _ v3.x Try.underlying25 rfl (by kernel_rfl) ?_)
    | (guard_target = wpList _ _ _ (Oper.mk (some 61) _ _ _ _ none :: _) _ _; refine wpList_load_row rfl 27 _ rfl (w.heap.size + 1) rfl _ _ _ _ v4 Try.underlying27 rfl (by kernel_rfl) ?_)
    | (guard_target = wpList _ _ _ (Oper.mk (some 62) _ _ _ _ none :: _) _ _; refine wpList_load_row rfl 35 _ rfl (w.heap.size + 1 + 1) rfl _ _ _ _ v5.x Try.underlying35 rfl (by rw [v5.s]; kernel_rfl) ?_)
    | (go_at_call 15; (with_reducible refine (rset_c EB.out LP c c2 _ v3.p v5.s v5.n v5.p).mono ?_); rintro _ u ⟨A15, c15, B15, d15, rfl, ho, hb⟩; have hn := Held.new u 25 pz0)
    | (guard_target = wpList _ _ _ (Oper.mk _ (Op.store 25 (.tmp 15) _) _ _ _ none :: _) _ _; refine wpList_store_row rfl 25 _ _ rfl u.heap.size (pc A15 SB.cells.length c15 B15 SB.free.length d15 SB.most) rfl rfl _ _ hn (by kernel_rfl) rfl (by simp [Value.oneCell']) ?_))
  obtain ⟨v15, hbW⟩ := new_r1 (c := c15) (c2 := d15) (P := SB) hb ho
  have hs_v15 := hb.size
  clear hb ho hn
  replace v3 := v3.below hbW
  replace v4 := Held.below v4 hbW
  replace v5 := v5.below hbW
  replace v8 := Held.below v8 hbW
  replace v7 := v7.below hbW
  replace v11 := Held.below v11 hbW
  replace v10 := v10.below hbW
  replace v13 := v13.below hbW
  replace hW := Below.step hW hbW
  clear hbW
  generalize World.setRow _ u.heap.size _ = W6 at *
  generalize u.heap.size = g15 at *
  go_upto_region 8 with (first
    | (guard_target = wpList _ _ _ (Oper.mk (some 67) _ _ _ _ none :: _) _ _; refine wpList_load_row rfl 25 _ rfl w.heap.size rfl _ _ _ _ v3.x Try.underlying25 rfl (by kernel_rfl) ?_)
    | (guard_target = wpList _ _ _ (Oper.mk (some 68) _ _ _ _ none :: _) _ _; refine wpList_load_row rfl 27 _ rfl (w.heap.size + 1) rfl _ _ _ _ v4 Try.underlying27 rfl (by kernel_rfl) ?_)
    | (go_at_call 16; (with_reducible refine (drop_c EC.out LP c c2 _ v3.p).mono ?_); rintro _ u ⟨A17, c17, B17, d17, rfl, ho, hb⟩; have hn := Held.new u 25 pz0)
    | (guard_target = wpList _ _ _ (Oper.mk _ (Op.store 25 (.tmp 17) _) _ _ _ none :: _) _ _; refine wpList_store_row rfl 25 _ _ rfl u.heap.size (pc A17 SC.cells.length c17 B17 SC.free.length d17 SC.most) rfl rfl _ _ hn (by kernel_rfl) rfl (by simp [Value.oneCell']) ?_))
  obtain ⟨v17, hbW⟩ := new_p1 (c := c17) (c2 := d17) (P := SC) hb ho
  have hs_v17 := hb.size
  clear hb ho hn
  replace v3 := v3.below hbW
  replace v4 := Held.below v4 hbW
  replace v5 := v5.below hbW
  replace v8 := Held.below v8 hbW
  replace v7 := v7.below hbW
  replace v11 := Held.below v11 hbW
  replace v10 := v10.below hbW
  replace v13 := v13.below hbW
  replace v15 := v15.below hbW
  replace hW := Below.step hW hbW
  clear hbW
  generalize World.setRow _ u.heap.size _ = W7 at *
  generalize u.heap.size = g17 at *
  go_upto_region 9 with (first
    | (guard_target = wpList _ _ _ (Oper.mk (some 73) _ _ _ _ none :: _) _ _; refine wpList_load_row rfl 25 _ rfl w.heap.size rfl _ _ _ _ v3.x Try.underlying25 rfl (by kernel_rfl) ?_)
    | (guard_target = wpList _ _ _ (Oper.mk (some 74) _ _ _ _ none :: _) _ _; refine wpList_load_row rfl 27 _ rfl (w.heap.size + 1) rfl _ _ _ _ v4 Try.underlying27 rfl (by kernel_rfl) ?_)
    | (go_at_call 17; (with_reducible refine (rdrop_c EC.out LP c c2 _ v3.p).mono ?_); rintro _ u ⟨A19, c19, B19, d19, rfl, ho, hb⟩; have hn := Held.new u 25 pz0)
    | (guard_target = wpList _ _ _ (Oper.mk _ (Op.store 25 (.tmp 19) _) _ _ _ none :: _) _ _; refine wpList_store_row rfl 25 _ _ rfl u.heap.size (pc A19 SC.cells.length c19 B19 SC.free.length d19 SC.most) rfl rfl _ _ hn (by kernel_rfl) rfl (by simp [Value.oneCell']) ?_))
  obtain ⟨v19, hbW⟩ := new_r1 (c := c19) (c2 := d19) (P := SC) hb ho
  have hs_v19 := hb.size
  clear hb ho hn
  replace v3 := v3.below hbW
  replace v4 := Held.below v4 hbW
  replace v5 := v5.below hbW
  replace v8 := Held.below v8 hbW
  replace v7 := v7.below hbW
  replace v11 := Held.below v11 hbW
  replace v10 := v10.below hbW
  replace v13 := v13.below hbW
  replace v15 := v15.below hbW
  replace v17 := v17.below hbW
  replace hW := Below.step hW hbW
  clear hbW
  generalize World.setRow _ u.heap.size _ = W8 at *
  generalize u.heap.size = g19 at *
  go_upto_region 10 with (first
    | (guard_target = wpList _ _ _ (Oper.mk (some 79) _ _ _ _ none :: _) _ _; refine wpList_load_row rfl 25 _ rfl w.heap.size rfl _ _ _ _ v3.x Try.underlying25 rfl (by kernel_rfl) ?_)
    | (guard_target = wpList _ _ _ (Oper.mk (some 80) _ _ _ _ none :: _) _ _; refine wpList_load_row rfl 27 _ rfl (w.heap.size + 1) rfl _ _ _ _ v4 Try.underlying27 rfl (by kernel_rfl) ?_)
    | (go_at_call 18; (with_reducible refine (get_c EG.out LP c c2 _ v3.p).mono ?_); rintro _ u ⟨ds21, rfl, d1, d2, ho, hb⟩; have hn := Held.new u 35 fzc)
    | (guard_target = wpList _ _ _ (Oper.mk _ (Op.store 35 (.tmp 21) _) _ _ _ none :: _) _ _; refine wpList_store_row rfl 35 _ _ rfl u.heap.size ds21 rfl rfl _ _ hn (by rw [d1]; kernel_rfl) (by rw [d1]; rfl) d2 ?_))
  obtain ⟨v21, hbW⟩ := new_f1 hb d1 d2 ho
  clear hb ho hn d1 d2
  replace v3 := v3.below hbW
  replace v4 := Held.below v4 hbW
  replace v5 := v5.below hbW
  replace v8 := Held.below v8 hbW
  replace v7 := v7.below hbW
  replace v11 := Held.below v11 hbW
  replace v10 := v10.below hbW
  replace v13 := v13.below hbW
  replace v15 := v15.below hbW
  replace v17 := v17.below hbW
  replace v19 := v19.below hbW
  replace hW := Below.step hW hbW
  clear hbW
  generalize World.setRow _ u.heap.size _ = W9 at *
  generalize u.heap.size = g21 at *
  go_upto_region 11 with (first
    | (guard_target = wpList _ _ _ (Oper.mk (some 85) _ _ _ _ none :: _) _ _; refine wpList_load_row rfl 25 _ rfl w.heap.size rfl _ _ _ _ v3.x Try.underlying25 rfl (by kernel_rfl) ?_)
    | (guard_target = wpList _ _ _ (Oper.mk (some 86) _ _ _ _ none :: _) _ _; refine wpList_load_row rfl 27 _ rfl (w.heap.size + 1) rfl _ _ _ _ v4 Try.underlying27 rfl (by kernel_rfl) ?_)
    | (go_at_call 19; (with_reducible refine (rget_c EG.out LP c c2 _ v3.p).mono ?_); rintro _ u ⟨ds23, rfl, d1, d2, ho, hb⟩; have hn := Held.new u 35 fzc)
    | (guard_target = wpList _ _ _ (Oper.mk _ (Op.store 35 (.tmp 23) _) _ _ _ none :: _) _ _; refine wpList_store_row rfl 35 _ _ rfl u.heap.size ds23 rfl rfl _ _ hn (by rw [d1]; kernel_rfl) (by rw [d1]; rfl) d2 ?_))
  obtain ⟨v23, hbW⟩ := new_f1 hb d1 d2 ho
  clear hb ho hn d1 d2
  replace v3 := v3.below hbW
  replace v4 := Held.below v4 hbW
  replace v5 := v5.below hbW
  replace v8 := Held.below v8 hbW
  replace v7 := v7.below hbW
  replace v11 := Held.below v11 hbW
  replace v10 := v10.below hbW
  replace v13 := v13.below hbW
  replace v15 := v15.below hbW
  replace v17 := v17.below hbW
  replace v19 := v19.below hbW
  replace v21 := v21.below hbW
  replace hW := Below.step hW hbW
  clear hbW
  generalize World.setRow _ u.heap.size _ = W10 at *
  generalize u.heap.size = g23 at *
  have y0 := v4.cell 0
  simp at y0
  go_upto_region 12 with (first
    | (go_at_call 20; (with_reducible refine (new_e EN.out _).mono ?_); rintro _ u ⟨A25, c25, B25, d25, rfl, ho, hb⟩; have hn := Held.new u 25 pz0)
    | (guard_target = wpList _ _ _ (Oper.mk _ (Op.store 25 (.tmp 25) _) _ _ _ none :: _) _ _; refine wpList_store_row rfl 25 _ _ rfl u.heap.size (pc A25 SN.cells.length c25 B25 SN.free.length d25 SN.most) rfl rfl _ _ hn (by kernel_rfl) rfl (by simp [Value.oneCell']) ?_))
  obtain ⟨v25, hbW⟩ := new_p1 (c := c25) (c2 := d25) (P := SN) hb ho
  have hs_v25 := hb.size
  clear hb ho hn
  replace v3 := v3.below hbW
  replace v4 := Held.below v4 hbW
  replace v5 := v5.below hbW
  replace v8 := Held.below v8 hbW
  replace v7 := v7.below hbW
  replace v11 := Held.below v11 hbW
  replace v10 := v10.below hbW
  replace v13 := v13.below hbW
  replace v15 := v15.below hbW
  replace v17 := v17.below hbW
  replace v19 := v19.below hbW
  replace v21 := v21.below hbW
  replace v23 := v23.below hbW
  replace hW := Below.step hW hbW
  clear hbW
  generalize World.setRow _ u.heap.size _ = W11 at *
  generalize u.heap.size = g25 at *
  clear y0
  have y0 := v4.cell 0
  simp at y0
  go_upto_region 13 with (first
    | (go_at_call 21; (with_reducible refine (rnew_e EN.out _).mono ?_); rintro _ u ⟨A27, c27, B27, d27, rfl, ho, hb⟩; have hn := Held.new u 25 pz0)
    | (guard_target = wpList _ _ _ (Oper.mk _ (Op.store 25 (.tmp 27) _) _ _ _ none :: _) _ _; refine wpList_store_row rfl 25 _ _ rfl u.heap.size (pc A27 SN.cells.length c27 B27 SN.free.length d27 SN.most) rfl rfl _ _ hn (by kernel_rfl) rfl (by simp [Value.oneCell']) ?_))
  obtain ⟨v27, hbW⟩ := new_r1 (c := c27) (c2 := d27) (P := SN) hb ho
  have hs_v27 := hb.size
  clear hb ho hn
  replace v3 := v3.below hbW
  replace v4 := Held.below v4 hbW
  replace v5 := v5.below hbW
  replace v8 := Held.below v8 hbW
  replace v7 := v7.below hbW
  replace v11 := Held.below v11 hbW
  replace v10 := v10.below hbW
  replace v13 := v13.below hbW
  replace v15 := v15.below hbW
  replace v17 := v17.below hbW
  replace v19 := v19.below hbW
  replace v21 := v21.below hbW
  replace v23 := v23.below hbW
  replace v25 := v25.below hbW
  replace hW := Below.step hW hbW
  clear hbW
  generalize World.setRow _ u.heap.size _ = W12 at *
  generalize u.heap.size = g27 at *
  clear y0
  have SAM : ∀ (P : Zp) (W : World) (hl : LenZ P) {A3 A4 A5 A6 : Option Addr} {c3 c4 c5 c6 : Nat}, PAtZ W W.heap.size A3 A4 P → PAtZ W W.heap.size A5 A6 P → Calls Try.prog 22 #[pv A3 P.cells.length c3 A4 P.free.length c4 P.most, pv A5 P.cells.length c5 A6 P.free.length c6 P.most] W fun e w' => e = .returned (.bool true) ∧ Below W.heap.size W w' := fun P W hl _ _ _ _ _ _ _ _ h h' => rsamep_c (decide_eq_true rfl) hl hl _ _ _ _ W h h'
  go_upto_region 15 with (first
    | (guard_target = wpList _ _ _ (Oper.mk (some 102) _ _ _ _ none :: _) _ _; refine wpList_load_row rfl 25 _ rfl g7 rfl _ _ _ _ v7.x Try.underlying25 rfl (by kernel_rfl) ?_)
    | (guard_target = wpList _ _ _ (Oper.mk (some 103) _ _ _ _ none :: _) _ _; refine wpList_load_row rfl 25 _ rfl g10 rfl _ _ _ _ v10.x Try.underlying25 rfl (by kernel_rfl) ?_)
    | (guard_target = wpList _ _ _ (Oper.mk (some 107) _ _ _ _ _ :: _) _ _; refine wpList_done rfl ?_; refine wpList_load_row rfl 27 _ rfl g7r rfl _ _ _ _ v8 Try.underlying27 rfl (by kernel_rfl) ?_)
    | (guard_target = wpList _ _ _ (Oper.mk (some 108) _ _ _ _ _ :: _) _ _; refine wpList_done rfl ?_; refine wpList_load_row rfl 27 _ rfl g10r rfl _ _ _ _ v11 Try.underlying27 rfl (by kernel_rfl) ?_)
    | (guard_target = wpList _ _ _ (Oper.mk (some 117) _ _ _ _ _ :: _) _ _; refine wpList_done rfl ?_; refine wpList_load_row rfl 25 _ rfl g13 rfl _ _ _ _ v13.x Try.underlying25 rfl (by kernel_rfl) ?_)
    | (guard_target = wpList _ _ _ (Oper.mk (some 118) _ _ _ _ _ :: _) _ _; refine wpList_done rfl ?_; refine wpList_load_row rfl 25 _ rfl g15 rfl _ _ _ _ v15.x Try.underlying25 rfl (by kernel_rfl) ?_)
    | (guard_target = wpList _ _ _ (Oper.mk (some 128) _ _ _ _ _ :: _) _ _; refine wpList_done rfl ?_; refine wpList_load_row rfl 25 _ rfl g17 rfl _ _ _ _ v17.x Try.underlying25 rfl (by kernel_rfl) ?_)
    | (guard_target = wpList _ _ _ (Oper.mk (some 129) _ _ _ _ _ :: _) _ _; refine wpList_done rfl ?_; refine wpList_load_row rfl 25 _ rfl g19 rfl _ _ _ _ v19.x Try.underlying25 rfl (by kernel_rfl) ?_)
    | (go_at_call 22; (with_reducible refine (SAM SA _ LA v7.p v10.p).mono ?_); rintro _ ua ⟨rfl, hbua⟩; replace v3 := v3.below hbua; replace v4 := Held.below v4 hbua; replace v5 := v5.below hbua; replace v8 := Held.below v8 hbua; replace v7 := v7.below hbua; replace v11 := Held.below v11 hbua; replace v10 := v10.below hbua; replace v13 := v13.below hbua; replace v15 := v15.below hbua; replace v17 := v17.below hbua; replace v19 := v19.below hbua; replace v21 := v21.below hbua; replace v23 := v23.below hbua; replace v25 := v25.below hbua; replace v27 := v27.below hbua; replace hW := Below.step hW hbua)
    | (go_at_call 22; (with_reducible refine (SAM SB _ LB v13.p v15.p).mono ?_); rintro _ ub ⟨rfl, hbub⟩; replace v3 := v3.below hbub; replace v4 := Held.below v4 hbub; replace v5 := v5.below hbub; replace v8 := Held.below v8 hbub; replace v7 := v7.below hbub; replace v11 := Held.below v11 hbub; replace v10 := v10.below hbub; replace v13 := v13.below hbub; replace v15 := v15.below hbub; replace v17 := v17.below hbub; replace v19 := v19.below hbub; replace v21 := v21.below hbub; replace v23 := v23.below hbub; replace v25 := v25.below hbub; replace v27 := v27.below hbub; replace hW := Below.step hW hbub)
    | (go_at_call 22; (with_reducible refine (SAM SC _ LC v17.p v19.p).mono ?_); rintro _ uc ⟨rfl, hbuc⟩; replace v3 := v3.below hbuc; replace v4 := Held.below v4 hbuc; replace v5 := v5.below hbuc; replace v8 := Held.below v8 hbuc; replace v7 := v7.below hbuc; replace v11 := Held.below v11 hbuc; replace v10 := v10.below hbuc; replace v13 := v13.below hbuc; replace v15 := v15.below hbuc; replace v17 := v17.below hbuc; replace v19 := v19.below hbuc; replace v21 := v21.below hbuc; replace v23 := v23.below hbuc; replace v25 := v25.below hbuc; replace v27 := v27.below hbuc; replace hW := Below.step hW hbuc))
  clear SAM v10 v8 v11 v13 v15 v17 v19 v4 v5
  have hdr := (Below.refl uc.heap.size uc).drew
  have HDR := Lib.hid hdr
  replace v3 := v3.below hdr
  replace v7 := v7.below hdr
  replace v21 := v21.below hdr
  replace v23 := v23.below hdr
  replace v25 := v25.below hdr
  replace v27 := v27.below hdr
  clear hdr
  refine wp_region_held_drew (S := fun W => Below uc.drew.heap.size uc.drew W) (by kernel_rfl) (Below.refl _ _) (fun hS => ?_)
  generalize uc.drew = W15 at *
  show wpAnyH _ _ _ _ _ 45 #[false, false, false, false, false, false, false, false, false, false, false, false, false, false, false, false, false, false, false, false, false, false, false, false, false, false, false, false, false, false, false, false, false, false, false, false, false, false, false, false, false, false, false, false, false] _ _
  refine wpAnyH_begin (by kernel_rfl) (fun HNS => ?_)
  refine wpAnyH_ready (rs := [0]) (by kernel_rfl) (by simp) ?_
  refine (AllReadyH.cons rfl (fun K hK => ?_) AllReadyH.nil)
  · rw [if_pos (by kernel_rfl)]
    go_simp
    go_at_call 11
    (with_reducible refine (CF _).mono ?_)
    rintro _ u1 ⟨rfl, hb1⟩
    replace hS := Below.step hS hb1
    (repeat (first | go_skip | go_guarded | go_step | go_upon))
    refine hK.out _ _ hS (fun _ => ?_)
    clear hK K
    (try simp only [Act.put, List.getElem_toArray, List.getElem_cons_succ, List.getElem_cons_zero, List.setIfInBounds_toArray, List.set_cons_zero, List.set_cons_succ])
    refine wpAnyH_takeS HNS (i := 1) (v := .bool true) rfl (by kernel_rfl) (by kernel_rfl) (fun _ _ _ h => h) (Or.inl ⟨by kernel_rfl, fun W hW => ?_⟩) hS ?_
    · go_simp
    simp only [Act.put, List.getElem_toArray, List.getElem_cons_succ, List.getElem_cons_zero, List.setIfInBounds_toArray, List.set_cons_zero, List.set_cons_succ]
    refine wpAnyH_takeS HNS (i := 2) (v := .agg ds21) rfl (by kernel_rfl) (by kernel_rfl) (fun _ _ _ h => h) (yieldsIf_load_midA (by kernel_rfl) 35 _ rfl g21 0 (by rfl) ds21 _ (fun W hW => range_held (Held.below v21.x hW)) Try.underlying35 rfl (by rw [v21.s]; kernel_rfl)) hS ?_
    simp only [Act.put, List.getElem_toArray, List.getElem_cons_succ, List.getElem_cons_zero, List.setIfInBounds_toArray, List.set_cons_zero, List.set_cons_succ]
    refine wpAnyH_takeS HNS (i := 3) (v := .agg ds23) rfl (by kernel_rfl) (by kernel_rfl) (fun _ _ _ h => h) (yieldsIf_load_midA (by kernel_rfl) 35 _ rfl g23 0 (by rfl) ds23 _ (fun W hW => range_held (Held.below v23.x hW)) Try.underlying35 rfl (by rw [v23.s]; kernel_rfl)) hS ?_
    simp only [Act.put, List.getElem_toArray, List.getElem_cons_succ, List.getElem_cons_zero, List.setIfInBounds_toArray, List.set_cons_zero, List.set_cons_succ]
    refine wpAnyH_ready (rs := [4]) (by kernel_rfl) (by simp) ?_
    refine (AllReadyH.cons rfl (fun K hK => ?_) AllReadyH.nil)
    · rw [if_pos (by kernel_rfl)]
      go_simp
      go_at_call 23
      (with_reducible refine (rsamef_c (decide_eq_true rfl) LG LG _ (v21.below hS).p (v23.below hS).p).mono ?_)
      rintro _ u2 ⟨rfl, hb2⟩
      replace hS := Below.step hS hb2
      (repeat (first | go_skip | go_guarded | go_step | go_upon))
      refine hK.out _ _ hS (fun _ => ?_)
      clear hK K
      (try simp only [Act.put, List.getElem_toArray, List.getElem_cons_succ, List.getElem_cons_zero, List.setIfInBounds_toArray, List.set_cons_zero, List.set_cons_succ])
      refine wpAnyH_takeS HNS (i := 5) (v := .bool true) rfl (by kernel_rfl) (by kernel_rfl) (fun _ _ _ h => h) (Or.inl ⟨by kernel_rfl, fun W hW => ?_⟩) hS ?_
      · go_simp
      simp only [Act.put, List.getElem_toArray, List.getElem_cons_succ, List.getElem_cons_zero, List.setIfInBounds_toArray, List.set_cons_zero, List.set_cons_succ]
      refine wpAnyH_takeS HNS (i := 6) (v := .bool true) rfl (by kernel_rfl) (by kernel_rfl) (fun _ _ _ h => h) (Or.inl ⟨by kernel_rfl, fun W hW => ?_⟩) hS ?_
      · go_simp
      simp only [Act.put, List.getElem_toArray, List.getElem_cons_succ, List.getElem_cons_zero, List.setIfInBounds_toArray, List.set_cons_zero, List.set_cons_succ]
      refine wpAnyH_takeS HNS (i := 7) (v := .bool ug) rfl (by kernel_rfl) (by kernel_rfl) (fun _ _ _ h => h) (Or.inl ⟨by kernel_rfl, fun W hW => ?_⟩) hS ?_
      · go_simp
      simp only [Act.put, List.getElem_toArray, List.getElem_cons_succ, List.getElem_cons_zero, List.setIfInBounds_toArray, List.set_cons_zero, List.set_cons_succ]
      refine wpAnyH_takeS HNS (i := 8) (v := .bool ug) rfl (by kernel_rfl) (by kernel_rfl) (fun _ _ _ h => h) (Or.inl ⟨by kernel_rfl, fun W hW => ?_⟩) hS ?_
      · go_simp
      simp only [Act.put, List.getElem_toArray, List.getElem_cons_succ, List.getElem_cons_zero, List.setIfInBounds_toArray, List.set_cons_zero, List.set_cons_succ]
      refine wpAnyH_takeS HNS (i := 9) (v := .bool true) rfl (by kernel_rfl) (by kernel_rfl) (fun _ _ _ h => h) (Or.inl ⟨by kernel_rfl, fun W hW => ?_⟩) hS ?_
      · go_simp
      simp only [Act.put, List.getElem_toArray, List.getElem_cons_succ, List.getElem_cons_zero, List.setIfInBounds_toArray, List.set_cons_zero, List.set_cons_succ]
      refine wpAnyH_takeS HNS (i := 10) (v := .bool true) rfl (by kernel_rfl) (by kernel_rfl) (fun _ _ _ h => h) (Or.inl ⟨by kernel_rfl, fun W hW => ?_⟩) hS ?_
      · go_simp
      simp only [Act.put, List.getElem_toArray, List.getElem_cons_succ, List.getElem_cons_zero, List.setIfInBounds_toArray, List.set_cons_zero, List.set_cons_succ]
      refine wpAnyH_takeS HNS (i := 11) (v := .bool true) rfl (by kernel_rfl) (by kernel_rfl) (fun _ _ _ h => h) (Or.inl ⟨by kernel_rfl, fun W hW => ?_⟩) hS ?_
      · go_simp
      simp only [Act.put, List.getElem_toArray, List.getElem_cons_succ, List.getElem_cons_zero, List.setIfInBounds_toArray, List.set_cons_zero, List.set_cons_succ]
      refine wpAnyH_takeS HNS (i := 12) (v := .agg (pc A25 SN.cells.length c25 B25 SN.free.length d25 SN.most)) rfl (by kernel_rfl) (by kernel_rfl) (fun _ _ _ h => h) (Or.inl ⟨by kernel_rfl, fun W hW => ?_⟩) hS ?_
      · (have hz := Held.below v25.x hW; have z0 := hz.cell 0; have z1 := hz.cell 1; have z2 := hz.cell 2; simp at z0 z1 z2; go_simp)
      simp only [Act.put, List.getElem_toArray, List.getElem_cons_succ, List.getElem_cons_zero, List.setIfInBounds_toArray, List.set_cons_zero, List.set_cons_succ]
      refine wpAnyH_takeS HNS (i := 13) (v := .agg (pc A27 SN.cells.length c27 B27 SN.free.length d27 SN.most)) rfl (by kernel_rfl) (by kernel_rfl) (fun _ _ _ h => h) (Or.inl ⟨by kernel_rfl, fun W hW => ?_⟩) hS ?_
      · (have hz := Held.below v27.x hW; have z0 := hz.cell 0; have z1 := hz.cell 1; have z2 := hz.cell 2; simp at z0 z1 z2; go_simp)
      simp only [Act.put, List.getElem_toArray, List.getElem_cons_succ, List.getElem_cons_zero, List.setIfInBounds_toArray, List.set_cons_zero, List.set_cons_succ]
      refine wpAnyH_ready (rs := [14]) (by kernel_rfl) (by simp) ?_
      refine (AllReadyH.cons rfl (fun K hK => ?_) AllReadyH.nil)
      · rw [if_pos (by kernel_rfl)]
        go_simp
        go_at_call 22
        (with_reducible refine (rsamep_c (decide_eq_true rfl) LN LN _ _ _ _ _ (v25.below hS).p (v27.below hS).p).mono ?_)
        rintro _ u3 ⟨rfl, hb3⟩
        replace hS := Below.step hS hb3
        (repeat (first | go_skip | go_guarded | go_step | go_upon))
        refine hK.out _ _ hS (fun _ => ?_)
        clear hK K
        (try simp only [Act.put, List.getElem_toArray, List.getElem_cons_succ, List.getElem_cons_zero, List.setIfInBounds_toArray, List.set_cons_zero, List.set_cons_succ])
        refine wpAnyH_takeS HNS (i := 15) (v := .bool true) rfl (by kernel_rfl) (by kernel_rfl) (fun _ _ _ h => h) (Or.inl ⟨by kernel_rfl, fun W hW => ?_⟩) hS ?_
        · go_simp
        simp only [Act.put, List.getElem_toArray, List.getElem_cons_succ, List.getElem_cons_zero, List.setIfInBounds_toArray, List.set_cons_zero, List.set_cons_succ]
        refine wpAnyH_takeS HNS (i := 16) (v := .bool true) rfl (by kernel_rfl) (by kernel_rfl) (fun _ _ _ h => h) (Or.inl ⟨by kernel_rfl, fun W hW => ?_⟩) hS ?_
        · go_simp
        simp only [Act.put, List.getElem_toArray, List.getElem_cons_succ, List.getElem_cons_zero, List.setIfInBounds_toArray, List.set_cons_zero, List.set_cons_succ]
        refine wpAnyH_takeS HNS (i := 17) (v := .bool un) rfl (by kernel_rfl) (by kernel_rfl) (fun _ _ _ h => h) (Or.inl ⟨by kernel_rfl, fun W hW => ?_⟩) hS ?_
        · go_simp
        simp only [Act.put, List.getElem_toArray, List.getElem_cons_succ, List.getElem_cons_zero, List.setIfInBounds_toArray, List.set_cons_zero, List.set_cons_succ]
        refine wpAnyH_takeS HNS (i := 18) (v := .bool un) rfl (by kernel_rfl) (by kernel_rfl) (fun _ _ _ h => h) (Or.inl ⟨by kernel_rfl, fun W hW => ?_⟩) hS ?_
        · go_simp
        simp only [Act.put, List.getElem_toArray, List.getElem_cons_succ, List.getElem_cons_zero, List.setIfInBounds_toArray, List.set_cons_zero, List.set_cons_succ]
        refine wpAnyH_takeS HNS (i := 19) (v := .bool true) rfl (by kernel_rfl) (by kernel_rfl) (fun _ _ _ h => h) (Or.inl ⟨by kernel_rfl, fun W hW => ?_⟩) hS ?_
        · go_simp
        simp only [Act.put, List.getElem_toArray, List.getElem_cons_succ, List.getElem_cons_zero, List.setIfInBounds_toArray, List.set_cons_zero, List.set_cons_succ]
        refine wpAnyH_takeS HNS (i := 20) (v := .bool true) rfl (by kernel_rfl) (by kernel_rfl) (fun _ _ _ h => h) (Or.inl ⟨by kernel_rfl, fun W hW => ?_⟩) hS ?_
        · go_simp
        simp only [Act.put, List.getElem_toArray, List.getElem_cons_succ, List.getElem_cons_zero, List.setIfInBounds_toArray, List.set_cons_zero, List.set_cons_succ]
        refine wpAnyH_takeS HNS (i := 21) (v := .bool true) rfl (by kernel_rfl) (by kernel_rfl) (fun _ _ _ h => h) (Or.inl ⟨by kernel_rfl, fun W hW => ?_⟩) hS ?_
        · go_simp
        simp only [Act.put, List.getElem_toArray, List.getElem_cons_succ, List.getElem_cons_zero, List.setIfInBounds_toArray, List.set_cons_zero, List.set_cons_succ]
        refine wpAnyH_takeS HNS (i := 22) (v := .agg (pc A p.cells.length c A2 p.free.length c2 p.most)) rfl (by kernel_rfl) (by kernel_rfl) (fun _ _ _ h => h) (Or.inl ⟨by kernel_rfl, fun W hW => ?_⟩) hS ?_
        · (have hz := Held.below v3.x hW; have z0 := hz.cell 0; have z1 := hz.cell 1; have z2 := hz.cell 2; simp at z0 z1 z2; go_simp)
        simp only [Act.put, List.getElem_toArray, List.getElem_cons_succ, List.getElem_cons_zero, List.setIfInBounds_toArray, List.set_cons_zero, List.set_cons_succ]
        refine wpAnyH_takeS HNS (i := 24) (v := .agg (pc A p.cells.length c A2 p.free.length c2 p.most)) rfl (by kernel_rfl) (by kernel_rfl) (fun _ _ _ h => h) (Or.inl ⟨by kernel_rfl, fun W hW => ?_⟩) hS ?_
        · (have hz := Held.below v3.x hW; have z0 := hz.cell 0; have z1 := hz.cell 1; have z2 := hz.cell 2; simp at z0 z1 z2; go_simp)
        simp only [Act.put, List.getElem_toArray, List.getElem_cons_succ, List.getElem_cons_zero, List.setIfInBounds_toArray, List.set_cons_zero, List.set_cons_succ]
        refine wpAnyH_ready (rs := [23]) (by kernel_rfl) (by simp) ?_
        refine (AllReadyH.cons rfl (fun K hK => ?_) AllReadyH.nil)
        · rw [if_pos (by kernel_rfl)]
          go_simp
          go_at_call 25
          (with_reducible refine (refs_c HLR.out LP c c2 _ (v3.below hS).p).mono ?_)
          rintro _ u4 ⟨Aq1, cq1, rfl, wq1, hb4⟩
          have wr1 := own2_at wq1
          replace hS := Below.step hS hb4
          (repeat (first | go_skip | go_guarded | go_step | go_upon))
          refine hK.out _ _ hS (fun _ => ?_)
          clear hK K
          (try simp only [Act.put, List.getElem_toArray, List.getElem_cons_succ, List.getElem_cons_zero, List.setIfInBounds_toArray, List.set_cons_zero, List.set_cons_succ])
          refine wpAnyH_ready (rs := [25]) (by kernel_rfl) (by simp) ?_
          refine (AllReadyH.cons rfl (fun K hK => ?_) AllReadyH.nil)
          · rw [if_pos (by kernel_rfl)]
            go_simp
            go_at_call 26
            (with_reducible refine (rrefsp_c HLR.out LP c c2 _ (v3.below hS).p).mono ?_)
            rintro _ u5 ⟨Aq2, cq2, rfl, wq2, hb5⟩
            replace wr1 := pat_later wr1 hb5
            have wr2 := own2_at wq2
            replace hS := Below.step hS hb5
            (repeat (first | go_skip | go_guarded | go_step | go_upon))
            refine hK.out _ _ hS (fun _ => ?_)
            clear hK K
            (try simp only [Act.put, List.getElem_toArray, List.getElem_cons_succ, List.getElem_cons_zero, List.setIfInBounds_toArray, List.set_cons_zero, List.set_cons_succ])
            refine wpAnyH_ready (rs := [26]) (by kernel_rfl) (by simp) ?_
            refine (AllReadyH.cons rfl (fun K hK => ?_) AllReadyH.nil)
            · rw [if_pos (by kernel_rfl)]
              go_simp
              go_at_call 24
              (with_reducible refine (rrefs_c (decide_eq_true rfl) hLn hLn _ _ _ wr1 wr2).mono ?_)
              rintro _ u6 ⟨rfl, hb6⟩
              replace wr1 := pat_later wr1 hb6
              replace wr2 := pat_later wr2 hb6
              clear wr1
              clear wr2
              replace hS := Below.step hS hb6
              (repeat (first | go_skip | go_guarded | go_step | go_upon))
              refine hK.out _ _ hS (fun _ => ?_)
              clear hK K
              (try simp only [Act.put, List.getElem_toArray, List.getElem_cons_succ, List.getElem_cons_zero, List.setIfInBounds_toArray, List.set_cons_zero, List.set_cons_succ])
              refine wpAnyH_takeS HNS (i := 27) (v := .bool true) rfl (by kernel_rfl) (by kernel_rfl) (fun _ _ _ h => h) (Or.inl ⟨by kernel_rfl, fun W hW => ?_⟩) hS ?_
              · go_simp
              simp only [Act.put, List.getElem_toArray, List.getElem_cons_succ, List.getElem_cons_zero, List.setIfInBounds_toArray, List.set_cons_zero, List.set_cons_succ]
              refine wpAnyH_takeS HNS (i := 28) (v := .bool true) rfl (by kernel_rfl) (by kernel_rfl) (fun _ _ _ h => h) (Or.inl ⟨by kernel_rfl, fun W hW => ?_⟩) hS ?_
              · go_simp
              simp only [Act.put, List.getElem_toArray, List.getElem_cons_succ, List.getElem_cons_zero, List.setIfInBounds_toArray, List.set_cons_zero, List.set_cons_succ]
              refine wpAnyH_takeS HNS (i := 29) (v := .agg (pc A p.cells.length c A2 p.free.length c2 p.most)) rfl (by kernel_rfl) (by kernel_rfl) (fun _ _ _ h => h) (Or.inl ⟨by kernel_rfl, fun W hW => ?_⟩) hS ?_
              · (have hz := Held.below v3.x hW; have z0 := hz.cell 0; have z1 := hz.cell 1; have z2 := hz.cell 2; simp at z0 z1 z2; go_simp)
              simp only [Act.put, List.getElem_toArray, List.getElem_cons_succ, List.getElem_cons_zero, List.setIfInBounds_toArray, List.set_cons_zero, List.set_cons_succ]
              refine wpAnyH_takeS HNS (i := 31) (v := .agg (pc A p.cells.length c A2 p.free.length c2 p.most)) rfl (by kernel_rfl) (by kernel_rfl) (fun _ _ _ h => h) (Or.inl ⟨by kernel_rfl, fun W hW => ?_⟩) hS ?_
              · (have hz := Held.below v3.x hW; have z0 := hz.cell 0; have z1 := hz.cell 1; have z2 := hz.cell 2; simp at z0 z1 z2; go_simp)
              simp only [Act.put, List.getElem_toArray, List.getElem_cons_succ, List.getElem_cons_zero, List.setIfInBounds_toArray, List.set_cons_zero, List.set_cons_succ]
              refine wpAnyH_ready (rs := [30]) (by kernel_rfl) (by simp) ?_
              refine (AllReadyH.cons rfl (fun K hK => ?_) AllReadyH.nil)
              · rw [if_pos (by kernel_rfl)]
                go_simp
                go_at_call 27
                (with_reducible refine (may_c HOK.out LP c c2 _ (v3.below hS).p).mono ?_)
                rintro _ u7 ⟨rfl, hb7⟩
                replace hS := Below.step hS hb7
                (repeat (first | go_skip | go_guarded | go_step | go_upon))
                refine hK.out _ _ hS (fun _ => ?_)
                clear hK K
                (try simp only [Act.put, List.getElem_toArray, List.getElem_cons_succ, List.getElem_cons_zero, List.setIfInBounds_toArray, List.set_cons_zero, List.set_cons_succ])
                refine wpAnyH_ready (rs := [32]) (by kernel_rfl) (by simp) ?_
                refine (AllReadyH.cons rfl (fun K hK => ?_) AllReadyH.nil)
                · rw [if_pos (by kernel_rfl)]
                  go_simp
                  go_at_call 28
                  (with_reducible refine (rmay_c HOK.out LP c c2 _ (v3.below hS).p).mono ?_)
                  rintro _ u8 ⟨rfl, hb8⟩
                  replace hS := Below.step hS hb8
                  (repeat (first | go_skip | go_guarded | go_step | go_upon))
                  refine hK.out _ _ hS (fun _ => ?_)
                  clear hK K
                  (try simp only [Act.put, List.getElem_toArray, List.getElem_cons_succ, List.getElem_cons_zero, List.setIfInBounds_toArray, List.set_cons_zero, List.set_cons_succ])
                  refine wpAnyH_takeS HNS (i := 33) (v := .bool true) rfl (by kernel_rfl) (by kernel_rfl) (fun _ _ _ h => h) (Or.inl ⟨by kernel_rfl, fun W hW => ?_⟩) hS ?_
                  · go_simp
                  simp only [Act.put, List.getElem_toArray, List.getElem_cons_succ, List.getElem_cons_zero, List.setIfInBounds_toArray, List.set_cons_zero, List.set_cons_succ]
                  refine wpAnyH_takeS HNS (i := 34) (v := .bool true) rfl (by kernel_rfl) (by kernel_rfl) (fun _ _ _ h => h) (Or.inl ⟨by kernel_rfl, fun W hW => ?_⟩) hS ?_
                  · go_simp
                  simp only [Act.put, List.getElem_toArray, List.getElem_cons_succ, List.getElem_cons_zero, List.setIfInBounds_toArray, List.set_cons_zero, List.set_cons_succ]
                  refine wpAnyH_takeS HNS (i := 35) (v := .bool true) rfl (by kernel_rfl) (by kernel_rfl) (fun _ _ _ h => h) (Or.inl ⟨by kernel_rfl, fun W hW => ?_⟩) hS ?_
                  · go_simp
                  simp only [Act.put, List.getElem_toArray, List.getElem_cons_succ, List.getElem_cons_zero, List.setIfInBounds_toArray, List.set_cons_zero, List.set_cons_succ]
                  refine wpAnyH_takeS HNS (i := 36) (v := .agg (pc A p.cells.length c A2 p.free.length c2 p.most)) rfl (by kernel_rfl) (by kernel_rfl) (fun _ _ _ h => h) (Or.inl ⟨by kernel_rfl, fun W hW => ?_⟩) hS ?_
                  · (have hz := Held.below v3.x hW; have z0 := hz.cell 0; have z1 := hz.cell 1; have z2 := hz.cell 2; simp at z0 z1 z2; go_simp)
                  simp only [Act.put, List.getElem_toArray, List.getElem_cons_succ, List.getElem_cons_zero, List.setIfInBounds_toArray, List.set_cons_zero, List.set_cons_succ]
                  refine wpAnyH_takeS HNS (i := 37) (v := .agg (pc A7 SA.cells.length c7 B7 SA.free.length d7 SA.most)) rfl (by kernel_rfl) (by kernel_rfl) (fun _ _ _ h => h) (Or.inl ⟨by kernel_rfl, fun W hW => ?_⟩) hS ?_
                  · (have hz := Held.below v7.x hW; have z0 := hz.cell 0; have z1 := hz.cell 1; have z2 := hz.cell 2; simp at z0 z1 z2; go_simp)
                  simp only [Act.put, List.getElem_toArray, List.getElem_cons_succ, List.getElem_cons_zero, List.setIfInBounds_toArray, List.set_cons_zero, List.set_cons_succ]
                  refine wpAnyH_takeS HNS (i := 39) (v := .agg (pc A p.cells.length c A2 p.free.length c2 p.most)) rfl (by kernel_rfl) (by kernel_rfl) (fun _ _ _ h => h) (Or.inl ⟨by kernel_rfl, fun W hW => ?_⟩) hS ?_
                  · (have hz := Held.below v3.x hW; have z0 := hz.cell 0; have z1 := hz.cell 1; have z2 := hz.cell 2; simp at z0 z1 z2; go_simp)
                  simp only [Act.put, List.getElem_toArray, List.getElem_cons_succ, List.getElem_cons_zero, List.setIfInBounds_toArray, List.set_cons_zero, List.set_cons_succ]
                  refine wpAnyH_takeS HNS (i := 40) (v := .agg (pc A7 SA.cells.length c7 B7 SA.free.length d7 SA.most)) rfl (by kernel_rfl) (by kernel_rfl) (fun _ _ _ h => h) (Or.inl ⟨by kernel_rfl, fun W hW => ?_⟩) hS ?_
                  · (have hz := Held.below v7.x hW; have z0 := hz.cell 0; have z1 := hz.cell 1; have z2 := hz.cell 2; simp at z0 z1 z2; go_simp)
                  simp only [Act.put, List.getElem_toArray, List.getElem_cons_succ, List.getElem_cons_zero, List.setIfInBounds_toArray, List.set_cons_zero, List.set_cons_succ]
                  refine wpAnyH_ready (rs := [38]) (by kernel_rfl) (by simp) ?_
                  refine (AllReadyH.cons rfl (fun K hK => ?_) AllReadyH.nil)
                  · rw [if_pos (by kernel_rfl)]
                    go_simp
                    go_at_call 29
                    (with_reducible refine (same_c HSM.out LP LA c c2 _ _ _ (v3.below hS).p (v7.below hS).p).mono ?_)
                    rintro _ u9 ⟨rfl, hb9⟩
                    replace hS := Below.step hS hb9
                    (repeat (first | go_skip | go_guarded | go_step | go_upon))
                    refine hK.out _ _ hS (fun _ => ?_)
                    clear hK K
                    (try simp only [Act.put, List.getElem_toArray, List.getElem_cons_succ, List.getElem_cons_zero, List.setIfInBounds_toArray, List.set_cons_zero, List.set_cons_succ])
                    refine wpAnyH_ready (rs := [41]) (by kernel_rfl) (by simp) ?_
                    refine (AllReadyH.cons rfl (fun K hK => ?_) AllReadyH.nil)
                    · rw [if_pos (by kernel_rfl)]
                      go_simp
                      go_at_call 22
                      (with_reducible refine (rsamep_c HSM.out LP LA c c2 _ _ _ (v3.below hS).p (v7.below hS).p).mono ?_)
                      rintro _ u10 ⟨rfl, hb10⟩
                      replace hS := Below.step hS hb10
                      (repeat (first | go_skip | go_guarded | go_step | go_upon))
                      refine hK.out _ _ hS (fun _ => ?_)
                      clear hK K
                      (try simp only [Act.put, List.getElem_toArray, List.getElem_cons_succ, List.getElem_cons_zero, List.setIfInBounds_toArray, List.set_cons_zero, List.set_cons_succ])
                      refine wpAnyH_takeS HNS (i := 42) (v := .bool true) rfl (by kernel_rfl) (by kernel_rfl) (fun _ _ _ h => h) (Or.inl ⟨by kernel_rfl, fun W hW => ?_⟩) hS ?_
                      · go_simp
                      simp only [Act.put, List.getElem_toArray, List.getElem_cons_succ, List.getElem_cons_zero, List.setIfInBounds_toArray, List.set_cons_zero, List.set_cons_succ]
                      refine wpAnyH_takeS HNS (i := 43) (v := .bool true) rfl (by kernel_rfl) (by kernel_rfl) (fun _ _ _ h => h) (Or.inl ⟨by kernel_rfl, fun W hW => ?_⟩) hS ?_
                      · go_simp
                      simp only [Act.put, List.getElem_toArray, List.getElem_cons_succ, List.getElem_cons_zero, List.setIfInBounds_toArray, List.set_cons_zero, List.set_cons_succ]
                      refine wpAnyH_takeS HNS (i := 44) (v := .bool true) rfl (by kernel_rfl) (by kernel_rfl) (fun _ _ _ h => h) (Or.inl ⟨by kernel_rfl, fun W hW => ?_⟩) hS ?_
                      · go_simp
                      simp only [Act.put, List.getElem_toArray, List.getElem_cons_succ, List.getElem_cons_zero, List.setIfInBounds_toArray, List.set_cons_zero, List.set_cons_succ]
                      refine wpAnyH_done (by kernel_rfl) ?_ _
                      (repeat (first | go_skip | go_guarded | go_step | go_upon))
                      go_ret
                      exact ⟨rfl, Below.step hW (Below.step HDR.out hS)⟩
end Go.Proofs.Ytkpjlobpaippdaa.penTells
