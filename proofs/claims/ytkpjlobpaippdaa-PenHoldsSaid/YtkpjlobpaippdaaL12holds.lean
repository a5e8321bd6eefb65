/- PenHolds. -/
import Derived.Test.YtkpjlobpaippdaaYl
import Derived.Test.YtkpjlobpaippdaaYz
import Derived.Test.YtkpjlobpaippdaaYfl
import Derived.Deep.DeepCutAuto
import Derived.Deep.CutBlock
namespace Go.Proofs.Ytkpjlobpaippdaa.penHolds
set_option linter.unusedVariables false
set_option linter.unusedSimpArgs false
open Go.RowKit Go.ChangeShapes Go.WideShapes Go.ChangeAt Go.Sort Go.Proofs.Ytkpjlobpaippdaa

set_option maxHeartbeats 8000000 in
set_option maxRecDepth 100000 in
theorem walk (CF : ∀ w, Calls Try.prog 11 #[] w fun e w' => e = .returned (.bool true) ∧ Below w.heap.size w w') {A A2 : Option Addr} {p : Zp} {f g : Frm} {fs gs : Array Value} {B : Nat} (c c2 : Nat) (w : World) (hp : PAtZ w B A A2 p) (hf : FrmAt w B (.agg fs) f) (hg : FrmAt w B (.agg gs) g) (hfs : fs.size = 16) (hgs : gs.size = 16) (hfn : fs.all (·.oneCell') = true) (hgn : gs.all (·.oneCell') = true) (hB : B ≤ w.heap.size) (hl1 : p.cells.length ≤ maxLen) (hl2 : p.free.length ≤ maxLen) :
    Calls Try.prog 4 #[pv A p.cells.length c A2 p.free.length c2 p.most, .agg fs, .agg gs] w fun e w' => e = .returned (.bool true) ∧ Below w.heap.size w w' := by
  have hW : Below w.heap.size w (((w.alloc (.cells (pc A p.cells.length c A2 p.free.length c2 p.most) 25)).alloc (.cells fs 35)).alloc (.cells gs 35)) := below3 w _ _ _
  have v3 : PR (((w.alloc (.cells (pc A p.cells.length c A2 p.free.length c2 p.most) 25)).alloc (.cells fs 35)).alloc (.cells gs 35)) w.heap.size A c A2 c2 p := ⟨((Held.new w 25 (pc A p.cells.length c A2 p.free.length c2 p.most)).alloc (.cells fs 35)).alloc (.cells gs 35), (hp.below hW hB).more (Nat.le_trans hB hW.size)⟩
  have v4 : FV (((w.alloc (.cells (pc A p.cells.length c A2 p.free.length c2 p.most) 25)).alloc (.cells fs 35)).alloc (.cells gs 35)) (w.heap.size + 1) fs f := ⟨(Held.new1 w (.cells (pc A p.cells.length c A2 p.free.length c2 p.most) 25) 35 fs).alloc (.cells gs 35), hfs, hfn, (hf.below hW hB).more (Nat.le_trans hB hW.size)⟩
  have v5 : FV (((w.alloc (.cells (pc A p.cells.length c A2 p.free.length c2 p.most) 25)).alloc (.cells fs 35)).alloc (.cells gs 35)) (w.heap.size + 1 + 1) gs g := ⟨Held.new2 w (.cells (pc A p.cells.length c A2 p.free.length c2 p.most) 25) (.cells fs 35) 35 gs, hgs, hgn, (hg.below hW hB).more (Nat.le_trans hB hW.size)⟩
  have HL1 := Lib.hid hl1
  have HL2 := Lib.hid hl2
  obtain ⟨b1, hb1⟩ : ∃ b, smZ p 30 = b := ⟨_, rfl⟩
  obtain ⟨b2, hb2⟩ : ∃ b, smB f = b := ⟨_, rfl⟩
  obtain ⟨b3, hb3⟩ : ∃ b, smB g = b := ⟨_, rfl⟩
  obtain ⟨b4, hb4⟩ : ∃ b, okZ p = b := ⟨_, rfl⟩
  have H1 := Lib.hid hb1
  have H2 := Lib.hid hb2
  have H3 := Lib.hid hb3
  have H4 := Lib.hid hb4
  clear hp hf hg hfs hgs hfn hgn hB hl1 hl2 hb1 hb2 hb3 hb4
  go_enter Try.func4, Try.ntmps4
  go_upto_region 1 with (first
    | (guard_target = wpList _ _ _ (Oper.mk (some 4) _ _ _ _ none :: _) _ _; refine wpList_box_arr rfl 35 _ rfl fs rfl ?_)
    | (guard_target = wpList _ _ _ (Oper.mk (some 5) _ _ _ _ none :: _) _ _; refine wpList_box_arr rfl 35 _ rfl gs rfl ?_))
  generalize (((w.alloc (.cells (pc A p.cells.length c A2 p.free.length c2 p.most) 25)).alloc (.cells fs 35)).alloc (.cells gs 35)) = W0 at *
  cases b1
  case false =>
    go_wp2_with (first
      | (go_at_call 11; (with_reducible refine (CF _).mono ?_); rintro _ uf ⟨rfl, hbf⟩; replace v3 := v3.below hbf; replace v4 := v4.below hbf; replace v5 := v5.below hbf; replace hW := Below.step hW hbf)
      | (guard_target = wpList _ _ _ (Oper.mk (some 36) _ _ _ _ _ :: _) _ _; refine wpList_done rfl ?_; refine wpList_load_row rfl 25 _ rfl w.heap.size rfl _ _ _ _ v3.x Try.underlying25 rfl (by kernel_rfl) ?_)
      | (go_at_call 9; (with_reducible refine (small_c H1.out HL1.out HL2.out c c2 _ v3.p).mono ?_); rintro _ us ⟨rfl, hbs⟩; replace v3 := v3.below hbs; replace v4 := v4.below hbs; replace v5 := v5.below hbs; replace hW := Below.step hW hbs)
      | (guard_target = wpList _ _ _ (Oper.mk (some 41) _ _ _ _ _ :: _) _ _; refine wpList_done rfl ?_; refine wpList_load_row rfl 35 _ rfl (w.heap.size + 1) rfl _ _ _ _ v4.x Try.underlying35 rfl (by rw [v4.s]; kernel_rfl) ?_)
      | (guard_target = wpList _ _ _ (Oper.mk (some 46) _ _ _ _ _ :: _) _ _; refine wpList_done rfl ?_; refine wpList_load_row rfl 35 _ rfl (w.heap.size + 1 + 1) rfl _ _ _ _ v5.x Try.underlying35 rfl (by rw [v5.s]; kernel_rfl) ?_)
      | (go_at_call 10; (with_reducible refine (smallf_c H2.out _ v4.p).mono ?_); rintro _ ut ⟨rfl, hbt⟩; replace v3 := v3.below hbt; replace v4 := v4.below hbt; replace v5 := v5.below hbt; replace hW := Below.step hW hbt)
      | (go_at_call 10; (with_reducible refine (smallf_c H3.out _ v5.p).mono ?_); rintro _ ut ⟨rfl, hbt⟩; replace v3 := v3.below hbt; replace v4 := v4.below hbt; replace v5 := v5.below hbt; replace hW := Below.step hW hbt)
      | (guard_target = wpList _ _ _ (Oper.mk (some 51) _ _ _ _ _ :: _) _ _; refine wpList_done rfl ?_; refine wpList_load_row rfl 25 _ rfl w.heap.size rfl _ _ _ _ v3.x Try.underlying25 rfl (by kernel_rfl) ?_)
      | (go_at_call 28; (with_reducible refine (rmay_c H4.out (sm_len H1.out (by decide)) c c2 _ v3.p).mono ?_); rintro _ uk ⟨rfl, hbk⟩; replace v3 := v3.below hbk; replace v4 := v4.below hbk; replace v5 := v5.below hbk; replace hW := Below.step hW hbk))
    go_ret
    exact ⟨rfl, hW⟩
  case true =>
  cases b2
  case false =>
    go_wp2_with (first
      | (go_at_call 11; (with_reducible refine (CF _).mono ?_); rintro _ uf ⟨rfl, hbf⟩; replace v3 := v3.below hbf; replace v4 := v4.below hbf; replace v5 := v5.below hbf; replace hW := Below.step hW hbf)
      | (guard_target = wpList _ _ _ (Oper.mk (some 36) _ _ _ _ _ :: _) _ _; refine wpList_done rfl ?_; refine wpList_load_row rfl 25 _ rfl w.heap.size rfl _ _ _ _ v3.x Try.underlying25 rfl (by kernel_rfl) ?_)
      | (go_at_call 9; (with_reducible refine (small_c H1.out HL1.out HL2.out c c2 _ v3.p).mono ?_); rintro _ us ⟨rfl, hbs⟩; replace v3 := v3.below hbs; replace v4 := v4.below hbs; replace v5 := v5.below hbs; replace hW := Below.step hW hbs)
      | (guard_target = wpList _ _ _ (Oper.mk (some 41) _ _ _ _ _ :: _) _ _; refine wpList_done rfl ?_; refine wpList_load_row rfl 35 _ rfl (w.heap.size + 1) rfl _ _ _ _ v4.x Try.underlying35 rfl (by rw [v4.s]; kernel_rfl) ?_)
      | (guard_target = wpList _ _ _ (Oper.mk (some 46) _ _ _ _ _ :: _) _ _; refine wpList_done rfl ?_; refine wpList_load_row rfl 35 _ rfl (w.heap.size + 1 + 1) rfl _ _ _ _ v5.x Try.underlying35 rfl (by rw [v5.s]; kernel_rfl) ?_)
      | (go_at_call 10; (with_reducible refine (smallf_c H2.out _ v4.p).mono ?_); rintro _ ut ⟨rfl, hbt⟩; replace v3 := v3.below hbt; replace v4 := v4.below hbt; replace v5 := v5.below hbt; replace hW := Below.step hW hbt)
      | (go_at_call 10; (with_reducible refine (smallf_c H3.out _ v5.p).mono ?_); rintro _ ut ⟨rfl, hbt⟩; replace v3 := v3.below hbt; replace v4 := v4.below hbt; replace v5 := v5.below hbt; replace hW := Below.step hW hbt)
      | (guard_target = wpList _ _ _ (Oper.mk (some 51) _ _ _ _ _ :: _) _ _; refine wpList_done rfl ?_; refine wpList_load_row rfl 25 _ rfl w.heap.size rfl _ _ _ _ v3.x Try.underlying25 rfl (by kernel_rfl) ?_)
      | (go_at_call 28; (with_reducible refine (rmay_c H4.out (sm_len H1.out (by decide)) c c2 _ v3.p).mono ?_); rintro _ uk ⟨rfl, hbk⟩; replace v3 := v3.below hbk; replace v4 := v4.below hbk; replace v5 := v5.below hbk; replace hW := Below.step hW hbk))
    go_ret
    exact ⟨rfl, hW⟩
  case true =>
  cases b3
  case false =>
    go_wp2_with (first
      | (go_at_call 11; (with_reducible refine (CF _).mono ?_); rintro _ uf ⟨rfl, hbf⟩; replace v3 := v3.below hbf; replace v4 := v4.below hbf; replace v5 := v5.below hbf; replace hW := Below.step hW hbf)
      | (guard_target = wpList _ _ _ (Oper.mk (some 36) _ _ _ _ _ :: _) _ _; refine wpList_done rfl ?_; refine wpList_load_row rfl 25 _ rfl w.heap.size rfl _ _ _ _ v3.x Try.underlying25 rfl (by kernel_rfl) ?_)
      | (go_at_call 9; (with_reducible refine (small_c H1.out HL1.out HL2.out c c2 _ v3.p).mono ?_); rintro _ us ⟨rfl, hbs⟩; replace v3 := v3.below hbs; replace v4 := v4.below hbs; replace v5 := v5.below hbs; replace hW := Below.step hW hbs)
      | (guard_target = wpList _ _ _ (Oper.mk (some 41) _ _ _ _ _ :: _) _ _; refine wpList_done rfl ?_; refine wpList_load_row rfl 35 _ rfl (w.heap.size + 1) rfl _ _ _ _ v4.x Try.underlying35 rfl (by rw [v4.s]; kernel_rfl) ?_)
      | (guard_target = wpList _ _ _ (Oper.mk (some 46) _ _ _ _ _ :: _) _ _; refine wpList_done rfl ?_; refine wpList_load_row rfl 35 _ rfl (w.heap.size + 1 + 1) rfl _ _ _ _ v5.x Try.underlying35 rfl (by rw [v5.s]; kernel_rfl) ?_)
      | (go_at_call 10; (with_reducible refine (smallf_c H2.out _ v4.p).mono ?_); rintro _ ut ⟨rfl, hbt⟩; replace v3 := v3.below hbt; replace v4 := v4.below hbt; replace v5 := v5.below hbt; replace hW := Below.step hW hbt)
      | (go_at_call 10; (with_reducible refine (smallf_c H3.out _ v5.p).mono ?_); rintro _ ut ⟨rfl, hbt⟩; replace v3 := v3.below hbt; replace v4 := v4.below hbt; replace v5 := v5.below hbt; replace hW := Below.step hW hbt)
      | (guard_target = wpList _ _ _ (Oper.mk (some 51) _ _ _ _ _ :: _) _ _; refine wpList_done rfl ?_; refine wpList_load_row rfl 25 _ rfl w.heap.size rfl _ _ _ _ v3.x Try.underlying25 rfl (by kernel_rfl) ?_)
      | (go_at_call 28; (with_reducible refine (rmay_c H4.out (sm_len H1.out (by decide)) c c2 _ v3.p).mono ?_); rintro _ uk ⟨rfl, hbk⟩; replace v3 := v3.below hbk; replace v4 := v4.below hbk; replace v5 := v5.below hbk; replace hW := Below.step hW hbk))
    go_ret
    exact ⟨rfl, hW⟩
  case true =>
  cases b4
  case false =>
    go_wp2_with (first
      | (go_at_call 11; (with_reducible refine (CF _).mono ?_); rintro _ uf ⟨rfl, hbf⟩; replace v3 := v3.below hbf; replace v4 := v4.below hbf; replace v5 := v5.below hbf; replace hW := Below.step hW hbf)
      | (guard_target = wpList _ _ _ (Oper.mk (some 36) _ _ _ _ _ :: _) _ _; refine wpList_done rfl ?_; refine wpList_load_row rfl 25 _ rfl w.heap.size rfl _ _ _ _ v3.x Try.underlying25 rfl (by kernel_rfl) ?_)
      | (go_at_call 9; (with_reducible refine (small_c H1.out HL1.out HL2.out c c2 _ v3.p).mono ?_); rintro _ us ⟨rfl, hbs⟩; replace v3 := v3.below hbs; replace v4 := v4.below hbs; replace v5 := v5.below hbs; replace hW := Below.step hW hbs)
      | (guard_target = wpList _ _ _ (Oper.mk (some 41) _ _ _ _ _ :: _) _ _; refine wpList_done rfl ?_; refine wpList_load_row rfl 35 _ rfl (w.heap.size + 1) rfl _ _ _ _ v4.x Try.underlying35 rfl (by rw [v4.s]; kernel_rfl) ?_)
      | (guard_target = wpList _ _ _ (Oper.mk (some 46) _ _ _ _ _ :: _) _ _; refine wpList_done rfl ?_; refine wpList_load_row rfl 35 _ rfl (w.heap.size + 1 + 1) rfl _ _ _ _ v5.x Try.underlying35 rfl (by rw [v5.s]; kernel_rfl) ?_)
      | (go_at_call 10; (with_reducible refine (smallf_c H2.out _ v4.p).mono ?_); rintro _ ut ⟨rfl, hbt⟩; replace v3 := v3.below hbt; replace v4 := v4.below hbt; replace v5 := v5.below hbt; replace hW := Below.step hW hbt)
      | (go_at_call 10; (with_reducible refine (smallf_c H3.out _ v5.p).mono ?_); rintro _ ut ⟨rfl, hbt⟩; replace v3 := v3.below hbt; replace v4 := v4.below hbt; replace v5 := v5.below hbt; replace hW := Below.step hW hbt)
      | (guard_target = wpList _ _ _ (Oper.mk (some 51) _ _ _ _ _ :: _) _ _; refine wpList_done rfl ?_; refine wpList_load_row rfl 25 _ rfl w.heap.size rfl _ _ _ _ v3.x Try.underlying25 rfl (by kernel_rfl) ?_)
      | (go_at_call 28; (with_reducible refine (rmay_c H4.out (sm_len H1.out (by decide)) c c2 _ v3.p).mono ?_); rintro _ uk ⟨rfl, hbk⟩; replace v3 := v3.below hbk; replace v4 := v4.below hbk; replace v5 := v5.below hbk; replace hW := Below.step hW hbk))
    go_ret
    exact ⟨rfl, hW⟩
  case true =>
  have SP : SmP p 30 := by
    have h9 := H1.out
    unfold smZ at h9
    simp only [Bool.and_eq_true, decide_eq_true_eq, List.all_eq_true] at h9
    exact ⟨h9.1.1, h9.1.2, fun x hx => sm_frm (h9.2 x hx)⟩
  have LF := sm_frm H2.out
  have LG := sm_frm H3.out
  have LP := SP.len (by decide)
  obtain ⟨L, hL⟩ : ∃ L, refsZ p = L := ⟨_, rfl⟩
  obtain ⟨⟨SA, r, x⟩, hSA⟩ : ∃ S, layZ p f = S := ⟨_, rfl⟩
  have HLY := Lib.hid (lay_ok H4.out hSA)
  have HSA := Lib.hid hSA
  have HLR := Lib.hid hL
  have PA := lay_sm hSA SP LF
  have LA := PA.len (by decide)
  have hLn : L.length ≤ 30 := by
    rw [← hL, refsZ_ok H4.out]
    have := refsL_len p.cells 0
    have := SP.cells
    omega
  clear hSA hL
  go_upto_region 3 with (first
    | (go_at_call 11; (with_reducible refine (CF _).mono ?_); rintro _ uf ⟨rfl, hbf⟩; replace v3 := v3.below hbf; replace v4 := v4.below hbf; replace v5 := v5.below hbf; replace hW := Below.step hW hbf)
    | (guard_target = wpList _ _ _ (Oper.mk (some 36) _ _ _ _ _ :: _) _ _; refine wpList_done rfl ?_; refine wpList_load_row rfl 25 _ rfl w.heap.size rfl _ _ _ _ v3.x Try.underlying25 rfl (by kernel_rfl) ?_)
    | (go_at_call 9; (with_reducible refine (small_c H1.out HL1.out HL2.out c c2 _ v3.p).mono ?_); rintro _ us ⟨rfl, hbs⟩; replace v3 := v3.below hbs; replace v4 := v4.below hbs; replace v5 := v5.below hbs; replace hW := Below.step hW hbs)
    | (guard_target = wpList _ _ _ (Oper.mk (some 41) _ _ _ _ _ :: _) _ _; refine wpList_done rfl ?_; refine wpList_load_row rfl 35 _ rfl (w.heap.size + 1) rfl _ _ _ _ v4.x Try.underlying35 rfl (by rw [v4.s]; kernel_rfl) ?_)
    | (guard_target = wpList _ _ _ (Oper.mk (some 46) _ _ _ _ _ :: _) _ _; refine wpList_done rfl ?_; refine wpList_load_row rfl 35 _ rfl (w.heap.size + 1 + 1) rfl _ _ _ _ v5.x Try.underlying35 rfl (by rw [v5.s]; kernel_rfl) ?_)
    | (go_at_call 10; (with_reducible refine (smallf_c H2.out _ v4.p).mono ?_); rintro _ ut ⟨rfl, hbt⟩; replace v3 := v3.below hbt; replace v4 := v4.below hbt; replace v5 := v5.below hbt; replace hW := Below.step hW hbt)
    | (go_at_call 10; (with_reducible refine (smallf_c H3.out _ v5.p).mono ?_); rintro _ ut ⟨rfl, hbt⟩; replace v3 := v3.below hbt; replace v4 := v4.below hbt; replace v5 := v5.below hbt; replace hW := Below.step hW hbt)
    | (guard_target = wpList _ _ _ (Oper.mk (some 51) _ _ _ _ _ :: _) _ _; refine wpList_done rfl ?_; refine wpList_load_row rfl 25 _ rfl w.heap.size rfl _ _ _ _ v3.x Try.underlying25 rfl (by kernel_rfl) ?_)
    | (go_at_call 28; (with_reducible refine (rmay_c H4.out (sm_len H1.out (by decide)) c c2 _ v3.p).mono ?_); rintro _ uk ⟨rfl, hbk⟩; replace v3 := v3.below hbk; replace v4 := v4.below hbk; replace v5 := v5.below hbk; replace hW := Below.step hW hbk))
  go_upto_region 4 with (first
    | (guard_target = wpList _ _ _ (Oper.mk (some 56) _ _ _ _ none :: _) _ _; refine wpList_load_row rfl 25 _ rfl w.heap.size rfl _ _ _ _ v3.x Try.underlying25 rfl (by kernel_rfl) ?_)
    | (go_at_call 25; (with_reducible refine (refs_c HLR.out LP c c2 _ v3.p).mono ?_); rintro _ ur ⟨A7, c7, rfl, w7, hbr⟩; replace v3 := v3.below hbr; replace v4 := v4.below hbr; replace v5 := v5.below hbr; replace hW := Below.step hW hbr))
  go_upto_region 5 with (first
    | (guard_target = wpList _ _ _ (Oper.mk (some 59) _ _ _ _ none :: _) _ _; refine wpList_load_row rfl 25 _ rfl w.heap.size rfl _ _ _ _ v3.x Try.underlying25 rfl (by kernel_rfl) ?_)
    | (guard_target = wpList _ _ _ (Oper.mk (some 60) _ _ _ _ none :: _) _ _; refine wpList_load_row rfl 35 _ rfl (w.heap.size + 1) rfl _ _ _ _ v4.x Try.underlying35 rfl (by rw [v4.s]; kernel_rfl) ?_)
    | (go_at_call 12; (with_reducible refine (lay_c HSA.out LP LF c c2 _ v3.p v4.s v4.p).mono ?_); rintro _ u ⟨A8, c8, B8, d8, rfl, ho, hb⟩; have hn := (Held.new u 25 pz0).alloc (.cells (refc 0 0) 27); have hm := Held.new1 u (.cells pz0 25) 27 (refc 0 0))
    | (guard_target = wpList _ _ _ (Oper.mk _ (Op.store 25 (.tmp 8) _) _ _ _ none :: _) _ _; refine wpList_store_row rfl 25 _ _ rfl u.heap.size (pc A8 SA.cells.length c8 B8 SA.free.length d8 SA.most) rfl rfl _ _ hn (by kernel_rfl) rfl (by simp [Value.oneCell']) ?_; have hm2 := held_row hm (Nat.succ_ne_self u.heap.size) (pc A8 SA.cells.length c8 B8 SA.free.length d8 SA.most))
    | (guard_target = wpList _ _ _ (Oper.mk _ (Op.store 27 (.tmp 9) _) _ _ _ none :: _) _ _; refine wpList_store_row rfl 27 _ _ rfl (u.heap.size + 1) (refc r.1 r.2) rfl rfl _ _ hm2 (by kernel_rfl) rfl (by simp [Value.oneCell']) ?_))
  obtain ⟨v8, v9, hbW⟩ := new_p2 (c := c8) (c2 := d8) (P := SA) (x := r.1) (y := r.2) hb ho
  clear hb ho hn hm hm2
  replace v3 := v3.below hbW
  replace v4 := v4.below hbW
  replace v5 := v5.below hbW
  replace w7 := own_later w7 hbW
  replace hW := Below.step hW hbW
  clear hbW
  generalize World.setRow _ (u.heap.size + 1) _ = W4 at *
  generalize u.heap.size + 1 = g8r at *
  generalize u.heap.size = g8 at *
  rcases HLY.out with ⟨rfl, rfl, hfr, hmo⟩ | ⟨rfl, hok⟩
  · have hlm : ((L.length : Nat) : Int) = SA.most := by
      rw [← HLR.out, full_refs H4.out hfr]
      exact hmo
    have eq9 : (((L.length : Nat) : Int) == SA.most) = true := by simpa using hlm
    have x2 := v3.x.cell 2
    simp at x2
    clear hfr hmo hlm
    go_wp2_with fail
    go_ret
    exact ⟨rfl, hW⟩
  · obtain ⟨SB, SC, SD, s, hh⟩ := holds_plain g H4.out hok
    have HH := Lib.hid hh
    have PB := set_sm hh.b PA LG
    have PC := drop_sm hh.c PB
    have PD := lay_sm hh.d PC LF
    have LB := PB.len (by decide)
    have LC := PC.len (by decide)
    have LD := PD.len (by decide)
    have okA := hh.okA
    have okB := hh.okB
    have okC := hh.okC
    have okD := hh.okD
    have HAT := Lib.hid hh.at_
    clear hh hok
    go_upto_region 8 with (first
      | (guard_target = wpList _ _ _ (Oper.mk (some 77) _ _ _ _ none :: _) _ _; refine wpList_load_row rfl 25 _ rfl g8 rfl _ _ _ _ v8.x Try.underlying25 rfl (by kernel_rfl) ?_)
      | (guard_target = wpList _ _ _ (Oper.mk (some 78) _ _ _ _ none :: _) _ _; refine wpList_load_row rfl 27 _ rfl g8r rfl _ _ _ _ v9 Try.underlying27 rfl (by kernel_rfl) ?_)
      | (guard_target = wpList _ _ _ (Oper.mk (some 79) _ _ _ _ none :: _) _ _; refine wpList_load_row rfl 35 _ rfl (w.heap.size + 1 + 1) rfl _ _ _ _ v5.x Try.underlying35 rfl (by rw [v5.s]; kernel_rfl) ?_)
      | (go_at_call 14; (with_reducible refine (set_c HH.out.b LA LG _ _ _ v8.p v5.s v5.p).mono ?_); rintro _ u ⟨A11, c11, B11, d11, rfl, ho, hb⟩; have hn := Held.new u 25 pz0)
      | (guard_target = wpList _ _ _ (Oper.mk _ (Op.store 25 (.tmp 11) _) _ _ _ none :: _) _ _; refine wpList_store_row rfl 25 _ _ rfl u.heap.size (pc A11 SB.cells.length c11 B11 SB.free.length d11 SB.most) rfl rfl _ _ hn (by kernel_rfl) rfl (by simp [Value.oneCell']) ?_))
    obtain ⟨v11, hbW⟩ := new_p1 (c := c11) (c2 := d11) (P := SB) hb ho
    clear hb ho hn
    replace v3 := v3.below hbW
    replace v4 := v4.below hbW
    replace v5 := v5.below hbW
    replace w7 := own_later w7 hbW
    replace v9 := Held.below v9 hbW
    replace v8 := v8.below hbW
    replace hW := Below.step hW hbW
    clear hbW
    generalize World.setRow _ u.heap.size _ = W7 at *
    generalize u.heap.size = g11 at *
    go_upto_region 9 with (first
      | (guard_target = wpList _ _ _ (Oper.mk (some 84) _ _ _ _ none :: _) _ _; refine wpList_load_row rfl 25 _ rfl g11 rfl _ _ _ _ v11.x Try.underlying25 rfl (by kernel_rfl) ?_)
      | (guard_target = wpList _ _ _ (Oper.mk (some 85) _ _ _ _ none :: _) _ _; refine wpList_load_row rfl 27 _ rfl g8r rfl _ _ _ _ v9 Try.underlying27 rfl (by kernel_rfl) ?_)
      | (go_at_call 16; (with_reducible refine (drop_c HH.out.c LB _ _ _ v11.p).mono ?_); rintro _ u ⟨A13, c13, B13, d13, rfl, ho, hb⟩; have hn := Held.new u 25 pz0)
      | (guard_target = wpList _ _ _ (Oper.mk _ (Op.store 25 (.tmp 13) _) _ _ _ none :: _) _ _; refine wpList_store_row rfl 25 _ _ rfl u.heap.size (pc A13 SC.cells.length c13 B13 SC.free.length d13 SC.most) rfl rfl _ _ hn (by kernel_rfl) rfl (by simp [Value.oneCell']) ?_))
    obtain ⟨v13, hbW⟩ := new_p1 (c := c13) (c2 := d13) (P := SC) hb ho
    clear hb ho hn
    replace v3 := v3.below hbW
    replace v4 := v4.below hbW
    replace v5 := v5.below hbW
    replace w7 := own_later w7 hbW
    replace v9 := Held.below v9 hbW
    replace v8 := v8.below hbW
    replace v11 := v11.below hbW
    replace hW := Below.step hW hbW
    clear hbW
    generalize World.setRow _ u.heap.size _ = W8 at *
    generalize u.heap.size = g13 at *
    go_upto_region 10 with (first
      | (guard_target = wpList _ _ _ (Oper.mk (some 90) _ _ _ _ none :: _) _ _; refine wpList_load_row rfl 25 _ rfl g13 rfl _ _ _ _ v13.x Try.underlying25 rfl (by kernel_rfl) ?_)
      | (guard_target = wpList _ _ _ (Oper.mk (some 91) _ _ _ _ none :: _) _ _; refine wpList_load_row rfl 35 _ rfl (w.heap.size + 1) rfl _ _ _ _ v4.x Try.underlying35 rfl (by rw [v4.s]; kernel_rfl) ?_)
      | (go_at_call 12; (with_reducible refine (lay_c HH.out.d LC LF _ _ _ v13.p v4.s v4.p).mono ?_); rintro _ u ⟨A15, c15, B15, d15, rfl, ho, hb⟩; have hn := (Held.new u 25 pz0).alloc (.cells (refc 0 0) 27); have hm := Held.new1 u (.cells pz0 25) 27 (refc 0 0))
      | (guard_target = wpList _ _ _ (Oper.mk _ (Op.store 25 (.tmp 15) _) _ _ _ none :: _) _ _; refine wpList_store_row rfl 25 _ _ rfl u.heap.size (pc A15 SD.cells.length c15 B15 SD.free.length d15 SD.most) rfl rfl _ _ hn (by kernel_rfl) rfl (by simp [Value.oneCell']) ?_; have hm2 := held_row hm (Nat.succ_ne_self u.heap.size) (pc A15 SD.cells.length c15 B15 SD.free.length d15 SD.most))
      | (guard_target = wpList _ _ _ (Oper.mk _ (Op.store 27 (.tmp 16) _) _ _ _ none :: _) _ _; refine wpList_store_row rfl 27 _ _ rfl (u.heap.size + 1) (refc s.1 s.2) rfl rfl _ _ hm2 (by kernel_rfl) rfl (by simp [Value.oneCell']) ?_))
    obtain ⟨v15, v16, hbW⟩ := new_p2 (c := c15) (c2 := d15) (P := SD) (x := s.1) (y := s.2) hb ho
    clear hb ho hn hm hm2
    replace v3 := v3.below hbW
    replace v4 := v4.below hbW
    replace v5 := v5.below hbW
    replace w7 := own_later w7 hbW
    replace v9 := Held.below v9 hbW
    replace v8 := v8.below hbW
    replace v11 := v11.below hbW
    replace v13 := v13.below hbW
    replace hW := Below.step hW hbW
    clear hbW
    generalize World.setRow _ (u.heap.size + 1) _ = W9 at *
    generalize u.heap.size + 1 = g15r at *
    generalize u.heap.size = g15 at *
    go_upto_region 11 with (first
      | (guard_target = wpList _ _ _ (Oper.mk (some 97) _ _ _ _ none :: _) _ _; refine wpList_load_row rfl 25 _ rfl g8 rfl _ _ _ _ v8.x Try.underlying25 rfl (by kernel_rfl) ?_)
      | (guard_target = wpList _ _ _ (Oper.mk (some 98) _ _ _ _ none :: _) _ _; refine wpList_load_row rfl 27 _ rfl g8r rfl _ _ _ _ v9 Try.underlying27 rfl (by kernel_rfl) ?_)
      | (go_at_call 18; (with_reducible refine (get_c HH.out.x LA _ _ _ v8.p).mono ?_); rintro _ u ⟨ds18, rfl, d1, d2, ho, hb⟩; have hn := Held.new u 35 fzc)
      | (guard_target = wpList _ _ _ (Oper.mk _ (Op.store 35 (.tmp 18) _) _ _ _ none :: _) _ _; refine wpList_store_row rfl 35 _ _ rfl u.heap.size ds18 rfl rfl _ _ hn (by rw [d1]; kernel_rfl) (by rw [d1]; rfl) d2 ?_))
    obtain ⟨v18, hbW⟩ := new_f1 hb d1 d2 ho
    clear hb ho hn d1 d2
    replace v3 := v3.below hbW
    replace v4 := v4.below hbW
    replace v5 := v5.below hbW
    replace w7 := own_later w7 hbW
    replace v9 := Held.below v9 hbW
    replace v8 := v8.below hbW
    replace v11 := v11.below hbW
    replace v13 := v13.below hbW
    replace v16 := Held.below v16 hbW
    replace v15 := v15.below hbW
    replace hW := Below.step hW hbW
    clear hbW
    generalize World.setRow _ u.heap.size _ = W10 at *
    generalize u.heap.size = g18 at *
    go_upto_region 12 with (first
      | (guard_target = wpList _ _ _ (Oper.mk (some 103) _ _ _ _ none :: _) _ _; refine wpList_load_row rfl 25 _ rfl g11 rfl _ _ _ _ v11.x Try.underlying25 rfl (by kernel_rfl) ?_)
      | (guard_target = wpList _ _ _ (Oper.mk (some 104) _ _ _ _ none :: _) _ _; refine wpList_load_row rfl 27 _ rfl g8r rfl _ _ _ _ v9 Try.underlying27 rfl (by kernel_rfl) ?_)
      | (go_at_call 18; (with_reducible refine (get_c HH.out.y LB _ _ _ v11.p).mono ?_); rintro _ u ⟨ds20, rfl, d1, d2, ho, hb⟩; have hn := Held.new u 35 fzc)
      | (guard_target = wpList _ _ _ (Oper.mk _ (Op.store 35 (.tmp 20) _) _ _ _ none :: _) _ _; refine wpList_store_row rfl 35 _ _ rfl u.heap.size ds20 rfl rfl _ _ hn (by rw [d1]; kernel_rfl) (by rw [d1]; rfl) d2 ?_))
    obtain ⟨v20, hbW⟩ := new_f1 hb d1 d2 ho
    clear hb ho hn d1 d2
    replace v3 := v3.below hbW
    replace v4 := v4.below hbW
    replace v5 := v5.below hbW
    replace w7 := own_later w7 hbW
    replace v9 := Held.below v9 hbW
    replace v8 := v8.below hbW
    replace v11 := v11.below hbW
    replace v13 := v13.below hbW
    replace v16 := Held.below v16 hbW
    replace v15 := v15.below hbW
    replace v18 := v18.below hbW
    replace hW := Below.step hW hbW
    clear hbW
    generalize World.setRow _ u.heap.size _ = W11 at *
    generalize u.heap.size = g20 at *
    go_upto_region 13 with (first
      | (guard_target = wpList _ _ _ (Oper.mk (some 109) _ _ _ _ none :: _) _ _; refine wpList_load_row rfl 25 _ rfl g13 rfl _ _ _ _ v13.x Try.underlying25 rfl (by kernel_rfl) ?_)
      | (guard_target = wpList _ _ _ (Oper.mk (some 110) _ _ _ _ none :: _) _ _; refine wpList_load_row rfl 27 _ rfl g8r rfl _ _ _ _ v9 Try.underlying27 rfl (by kernel_rfl) ?_)
      | (go_at_call 18; (with_reducible refine (get_c HH.out.gone LC _ _ _ v13.p).mono ?_); rintro _ u ⟨ds22, rfl, d1, d2, ho, hb⟩; have hn := Held.new u 35 fzc)
      | (guard_target = wpList _ _ _ (Oper.mk _ (Op.store 35 (.tmp 22) _) _ _ _ none :: _) _ _; refine wpList_store_row rfl 35 _ _ rfl u.heap.size ds22 rfl rfl _ _ hn (by rw [d1]; kernel_rfl) (by rw [d1]; rfl) d2 ?_))
    obtain ⟨v22, hbW⟩ := new_f1 hb d1 d2 ho
    clear hb ho hn d1 d2
    replace v3 := v3.below hbW
    replace v4 := v4.below hbW
    replace v5 := v5.below hbW
    replace w7 := own_later w7 hbW
    replace v9 := Held.below v9 hbW
    replace v8 := v8.below hbW
    replace v11 := v11.below hbW
    replace v13 := v13.below hbW
    replace v16 := Held.below v16 hbW
    replace v15 := v15.below hbW
    replace v18 := v18.below hbW
    replace v20 := v20.below hbW
    replace hW := Below.step hW hbW
    clear hbW
    generalize World.setRow _ u.heap.size _ = W12 at *
    generalize u.heap.size = g22 at *
    clear v22
    go_upto_region 14 with (first
      | (guard_target = wpList _ _ _ (Oper.mk (some 115) _ _ _ _ none :: _) _ _; refine wpList_load_row rfl 25 _ rfl g15 rfl _ _ _ _ v15.x Try.underlying25 rfl (by kernel_rfl) ?_)
      | (guard_target = wpList _ _ _ (Oper.mk (some 116) _ _ _ _ none :: _) _ _; refine wpList_load_row rfl 27 _ rfl g8r rfl _ _ _ _ v9 Try.underlying27 rfl (by kernel_rfl) ?_)
      | (go_at_call 18; (with_reducible refine (get_c HH.out.back LD _ _ _ v15.p).mono ?_); rintro _ u ⟨ds24, rfl, d1, d2, ho, hb⟩; have hn := Held.new u 35 fzc)
      | (guard_target = wpList _ _ _ (Oper.mk _ (Op.store 35 (.tmp 24) _) _ _ _ none :: _) _ _; refine wpList_store_row rfl 35 _ _ rfl u.heap.size ds24 rfl rfl _ _ hn (by rw [d1]; kernel_rfl) (by rw [d1]; rfl) d2 ?_))
    obtain ⟨v24, hbW⟩ := new_f1 hb d1 d2 ho
    clear hb ho hn d1 d2
    replace v3 := v3.below hbW
    replace v4 := v4.below hbW
    replace v5 := v5.below hbW
    replace w7 := own_later w7 hbW
    replace v9 := Held.below v9 hbW
    replace v8 := v8.below hbW
    replace v11 := v11.below hbW
    replace v13 := v13.below hbW
    replace v16 := Held.below v16 hbW
    replace v15 := v15.below hbW
    replace v18 := v18.below hbW
    replace v20 := v20.below hbW
    replace hW := Below.step hW hbW
    clear hbW
    generalize World.setRow _ u.heap.size _ = W13 at *
    generalize u.heap.size = g24 at *
    clear v24
    go_upto_region 15 with (first
      | (guard_target = wpList _ _ _ (Oper.mk (some 121) _ _ _ _ none :: _) _ _; refine wpList_load_row rfl 25 _ rfl g15 rfl _ _ _ _ v15.x Try.underlying25 rfl (by kernel_rfl) ?_)
      | (guard_target = wpList _ _ _ (Oper.mk (some 122) _ _ _ _ none :: _) _ _; refine wpList_load_row rfl 27 _ rfl g15r rfl _ _ _ _ v16 Try.underlying27 rfl (by kernel_rfl) ?_)
      | (go_at_call 18; (with_reducible refine (get_c HH.out.z LD _ _ _ v15.p).mono ?_); rintro _ u ⟨ds26, rfl, d1, d2, ho, hb⟩; have hn := Held.new u 35 fzc)
      | (guard_target = wpList _ _ _ (Oper.mk _ (Op.store 35 (.tmp 26) _) _ _ _ none :: _) _ _; refine wpList_store_row rfl 35 _ _ rfl u.heap.size ds26 rfl rfl _ _ hn (by rw [d1]; kernel_rfl) (by rw [d1]; rfl) d2 ?_))
    obtain ⟨v26, hbW⟩ := new_f1 hb d1 d2 ho
    clear hb ho hn d1 d2
    replace v3 := v3.below hbW
    replace v4 := v4.below hbW
    replace v5 := v5.below hbW
    replace w7 := own_later w7 hbW
    replace v9 := Held.below v9 hbW
    replace v8 := v8.below hbW
    replace v11 := v11.below hbW
    replace v13 := v13.below hbW
    replace v16 := Held.below v16 hbW
    replace v15 := v15.below hbW
    replace v18 := v18.below hbW
    replace v20 := v20.below hbW
    replace hW := Below.step hW hbW
    clear hbW
    generalize World.setRow _ u.heap.size _ = W14 at *
    generalize u.heap.size = g26 at *
    have eqa : (s.1 != r.1) = false := by
      rw [HAT.out]
      simp
    have SAM : ∀ (F : Frm) (W : World) (a b : Array Value), FrmLen F → FrmAt W W.heap.size (.agg a) F → FrmAt W W.heap.size (.agg b) F → Calls Try.prog 23 #[.agg a, .agg b] W fun e w' => e = .returned (.bool true) ∧ Below W.heap.size W w' := fun F W a b hl ha hb => rsamef_c (decide_eq_true rfl) hl hl W ha hb
    go_upto_region 18 with (first
      | (guard_target = wpList _ _ _ (Oper.mk (some 141) _ _ _ _ _ :: _) _ _; refine wpList_done rfl ?_; refine wpList_load_row rfl 35 _ rfl g18 rfl _ _ _ _ v18.x Try.underlying35 rfl (by rw [v18.s]; kernel_rfl) ?_)
      | (guard_target = wpList _ _ _ (Oper.mk (some 142) _ _ _ _ _ :: _) _ _; refine wpList_done rfl ?_; refine wpList_load_row rfl 35 _ rfl (w.heap.size + 1) rfl _ _ _ _ v4.x Try.underlying35 rfl (by rw [v4.s]; kernel_rfl) ?_)
      | (guard_target = wpList _ _ _ (Oper.mk (some 151) _ _ _ _ _ :: _) _ _; refine wpList_done rfl ?_; refine wpList_load_row rfl 35 _ rfl g20 rfl _ _ _ _ v20.x Try.underlying35 rfl (by rw [v20.s]; kernel_rfl) ?_)
      | (guard_target = wpList _ _ _ (Oper.mk (some 152) _ _ _ _ _ :: _) _ _; refine wpList_done rfl ?_; refine wpList_load_row rfl 35 _ rfl (w.heap.size + 1 + 1) rfl _ _ _ _ v5.x Try.underlying35 rfl (by rw [v5.s]; kernel_rfl) ?_)
      | (guard_target = wpList _ _ _ (Oper.mk (some 167) _ _ _ _ _ :: _) _ _; refine wpList_done rfl ?_; refine wpList_load_row rfl 35 _ rfl g26 rfl _ _ _ _ v26.x Try.underlying35 rfl (by rw [v26.s]; kernel_rfl) ?_)
      | (guard_target = wpList _ _ _ (Oper.mk (some 168) _ _ _ _ _ :: _) _ _; refine wpList_done rfl ?_; refine wpList_load_row rfl 35 _ rfl (w.heap.size + 1) rfl _ _ _ _ v4.x Try.underlying35 rfl (by rw [v4.s]; kernel_rfl) ?_)
      | (go_at_call 23; (with_reducible refine (SAM f _ _ _ LF v18.p v4.p).mono ?_); rintro _ ua ⟨rfl, hbua⟩; replace v3 := v3.below hbua; replace v4 := v4.below hbua; replace v5 := v5.below hbua; replace w7 := own_later w7 hbua; replace v9 := Held.below v9 hbua; replace v8 := v8.below hbua; replace v11 := v11.below hbua; replace v13 := v13.below hbua; replace v16 := Held.below v16 hbua; replace v15 := v15.below hbua; replace v18 := v18.below hbua; replace v20 := v20.below hbua; replace v26 := v26.below hbua; replace hW := Below.step hW hbua; have y0 := v16.cell 0; have z0 := v9.cell 0; simp at y0 z0)
      | (go_at_call 23; (with_reducible refine (SAM g _ _ _ LG v20.p v5.p).mono ?_); rintro _ ub ⟨rfl, hbub⟩; replace v3 := v3.below hbub; replace v4 := v4.below hbub; replace v5 := v5.below hbub; replace w7 := own_later w7 hbub; replace v9 := Held.below v9 hbub; replace v8 := v8.below hbub; replace v11 := v11.below hbub; replace v13 := v13.below hbub; replace v16 := Held.below v16 hbub; replace v15 := v15.below hbub; replace v18 := v18.below hbub; replace v20 := v20.below hbub; replace v26 := v26.below hbub; replace hW := Below.step hW hbub; have y0 := v16.cell 0; have z0 := v9.cell 0; simp at y0 z0)
      | (go_at_call 23; (with_reducible refine (SAM f _ _ _ LF v26.p v4.p).mono ?_); rintro _ uc ⟨rfl, hbuc⟩; replace v3 := v3.below hbuc; replace v4 := v4.below hbuc; replace v5 := v5.below hbuc; replace w7 := own_later w7 hbuc; replace v9 := Held.below v9 hbuc; replace v8 := v8.below hbuc; replace v11 := v11.below hbuc; replace v13 := v13.below hbuc; replace v16 := Held.below v16 hbuc; replace v15 := v15.below hbuc; replace v18 := v18.below hbuc; replace v20 := v20.below hbuc; replace v26 := v26.below hbuc; replace hW := Below.step hW hbuc; have y0 := v16.cell 0; have z0 := v9.cell 0; simp at y0 z0))
    clear v18 v20 v26 eqa SAM
    clear y0 z0
    have HV := Lib.hid (And.intro v3 (And.intro v15 (And.intro v9 (And.intro (own2_at w7) hW))))
    have HV8 := Lib.hid (And.intro v8 (And.intro v11 (And.intro v13 w7)))
    clear v3 v4 v5 v8 v9 v11 v13 v15 v16 w7 hW
    obtain ⟨W17, hW17⟩ : ∃ W, W = uc := ⟨_, rfl⟩
    rw [← hW17] at HV HV8 ⊢
    clear hW17
    go_loopw [28] (fun iv W => ∃ j : Nat, iv = .int .i64 j ∧ j ≤ L.length ∧ Below W17.heap.size W17 W) (fun iv _ => L.length - (intOf iv).toNat)
    case atStart => exact ⟨0, rfl, by omega, Below.refl _ _⟩
    case round =>
      obtain ⟨k, rfl, hk, hw⟩ := hrel
      have HWR := Lib.hid hw
      have hk0 : (0 : Int) ≤ k := by omega
      have hLI : ((L.length : Nat) : Int) ≤ 30 := by omega
      by_cases hlt : k < L.length
      · have hlt2 : (k : Int) < (L.length : Nat) := by omega
        obtain ⟨v3, v15, v9, h7, -⟩ := HV.out
        replace v3 := v3.below hw
        replace v15 := v15.below hw
        replace v9 := Held.below v9 hw
        replace h7 := pat_later h7 hw
        obtain ⟨u, gu, gd, gne⟩ := HH.out.all k (by rw [HLR.out]; exact hlt)
        have hLk : (refsZ p)[k]'(by rw [HLR.out]; exact hlt) = L[k] := by simp only [HLR.out]
        rw [hLk] at gu gd gne
        have LU := get_len gu SP
        obtain ⟨b, off, rfl, -, hc7⟩ := h7 (by omega)
        obtain ⟨y0, y1⟩ := hc7 k hlt
        have hbl : b < wr.heap.size := block_lt_of_cell y0
        generalize L[k] = rk at *
        have GU := Lib.hid gu
        have GD := Lib.hid gd
        have hgne : (rk.1, rk.2) ≠ (r.1, r.2) := gne
        have EQ9 : ∀ W, (binOp .eql 27 (gv rk.1 rk.2) (gv r.1 r.2)).run Try.prog W = .ok (.bool false) W := fun W => by rw [eqr_run, decide_eq_false hgne]
        have Y9 := Lib.hid (And.intro y0 (And.intro y1 hbl))
        clear hw hc7 gu gd hLk gne
        go_upto_region 20 with (fail)
        go_cut [29, 30] from 179 to 222 (fun vf vb wx => ∃ k ds, vf = .pointer (some ⟨k, 0, none⟩) ∧ vb = .bool true ∧ FV wx k ds u ∧ Below wr.heap.size wr wx)
        case first =>
          have hdr := (Below.refl wr.heap.size wr).drew
          have HDR := Lib.hid hdr
          replace v3 := v3.below hdr
          replace y0 := (hdr.cell (p := ⟨b, _, none⟩) hbl).trans y0
          replace y1 := (hdr.cell (p := ⟨b, _, none⟩) hbl).trans y1
          replace hbl : b < wr.drew.heap.size := hbl
          clear hdr
          refine wp_region_held_drew (S := fun W => Below wr.drew.heap.size wr.drew W) (by kernel_rfl) (Below.refl _ _) (fun hS => ?_)
          generalize wr.drew = Wq at *
          show wpAnyH _ _ _ _ _ 12 #[false, false, false, false, false, false, false, false, false, false, false, false] _ _
          refine wpAnyH_begin (by kernel_rfl) (fun HNS => ?_)
          refine wpAnyH_takeS HNS (i := 0) (v := .agg (pc A p.cells.length c A2 p.free.length c2 p.most)) rfl (by kernel_rfl) (by kernel_rfl) (fun _ _ _ h => h) (Or.inl ⟨by kernel_rfl, fun W hW => ?_⟩) hS ?_
          · (have hz := Held.below v3.x hW; have z0 := hz.cell 0; have z1 := hz.cell 1; have z2 := hz.cell 2; simp at z0 z1 z2; go_simp)
          simp only [Act.put, List.getElem_toArray, List.getElem_cons_succ, List.getElem_cons_zero, List.setIfInBounds_toArray, List.set_cons_zero, List.set_cons_succ]
          refine wpAnyH_takeS HNS (i := 1) (v := .slice (some ⟨b, off, none⟩) L.length c7) rfl (by kernel_rfl) (by kernel_rfl) (fun _ _ _ h => h) (Or.inl ⟨by kernel_rfl, fun W hW => ?_⟩) hS ?_
          · go_simp
          simp only [Act.put, List.getElem_toArray, List.getElem_cons_succ, List.getElem_cons_zero, List.setIfInBounds_toArray, List.set_cons_zero, List.set_cons_succ]
          refine wpAnyH_takeS HNS (i := 2) (v := .int .i64 k) rfl (by kernel_rfl) (by kernel_rfl) (fun _ _ _ h => h) (Or.inl ⟨by kernel_rfl, fun W hW => ?_⟩) hS ?_
          · go_simp
          simp only [Act.put, List.getElem_toArray, List.getElem_cons_succ, List.getElem_cons_zero, List.setIfInBounds_toArray, List.set_cons_zero, List.set_cons_succ]
          refine wpAnyH_takeS HNS (i := 3) (v := .pointer (some ⟨b, off + k * 2, none⟩)) rfl (by kernel_rfl) (by kernel_rfl) (fun _ _ _ h => h) (Or.inl ⟨by kernel_rfl, fun W hW => ?_⟩) hS ?_
          · go_simp
          simp only [Act.put, List.getElem_toArray, List.getElem_cons_succ, List.getElem_cons_zero, List.setIfInBounds_toArray, List.set_cons_zero, List.set_cons_succ]
          refine wpAnyH_takeS HNS (i := 4) (v := .agg #[.int .i64 rk.1, .int .i64 rk.2]) rfl (by kernel_rfl) (by kernel_rfl) (fun _ _ _ h => h) (Or.inl ⟨by kernel_rfl, fun W hW => ?_⟩) hS ?_
          · (have z0 := (hW.cell (p := ⟨b, _, none⟩) hbl).trans y0; have z1 := (hW.cell (p := ⟨b, _, none⟩) hbl).trans y1; go_simp)
          simp only [Act.put, List.getElem_toArray, List.getElem_cons_succ, List.getElem_cons_zero, List.setIfInBounds_toArray, List.set_cons_zero, List.set_cons_succ]
          refine wpAnyH_ready (rs := [5, 9]) (by kernel_rfl) (by simp) ?_
          refine (AllReadyH.cons rfl (fun K hK => ?_) (AllReadyH.cons rfl (fun K hK => ?_) AllReadyH.nil))
          · rw [if_pos (by kernel_rfl)]
            go_simp
            go_at_call 18
            (with_reducible refine (get_o GU.out LP c c2 _ (v3.below hS).p).mono ?_)
            rintro _ u1 ⟨ds1, rfl, d11, d21, ho1, hb1⟩
            replace hS := Below.step hS hb1
            have hof := ho1
            have hd1 := d11
            have hd2 := d21
            (repeat (first | go_skip | go_guarded | go_step | go_upon))
            refine hK.out _ _ hS (fun _ => ?_)
            clear hK K
            (try simp only [Act.put, List.getElem_toArray, List.getElem_cons_succ, List.getElem_cons_zero, List.setIfInBounds_toArray, List.set_cons_zero, List.set_cons_succ])
            refine wpAnyH_takeS HNS (i := 6) (v := .tuple #[.agg ds1, .bool true]) rfl (by kernel_rfl) (by kernel_rfl) (fun _ _ _ h => h) (Or.inl ⟨by kernel_rfl, fun W hW => ?_⟩) hS ?_
            · go_simp
            simp only [Act.put, List.getElem_toArray, List.getElem_cons_succ, List.getElem_cons_zero, List.setIfInBounds_toArray, List.set_cons_zero, List.set_cons_succ]
            refine wpAnyH_takeS HNS (i := 7) (v := .agg ds1) rfl (by kernel_rfl) (by kernel_rfl) (fun _ _ _ h => h) (Or.inl ⟨by kernel_rfl, fun W hW => ?_⟩) hS ?_
            · go_simp
            simp only [Act.put, List.getElem_toArray, List.getElem_cons_succ, List.getElem_cons_zero, List.setIfInBounds_toArray, List.set_cons_zero, List.set_cons_succ]
            refine wpAnyH_takeS HNS (i := 8) (v := .bool true) rfl (by kernel_rfl) (by kernel_rfl) (fun _ _ _ h => h) (Or.inl ⟨by kernel_rfl, fun W hW => ?_⟩) hS ?_
            · go_simp
            simp only [Act.put, List.getElem_toArray, List.getElem_cons_succ, List.getElem_cons_zero, List.setIfInBounds_toArray, List.set_cons_zero, List.set_cons_succ]
            refine wpAnyH_ready (rs := [9]) (by kernel_rfl) (by simp) ?_
            refine (AllReadyH.cons rfl (fun K hK => ?_) AllReadyH.nil)
            · rw [if_pos (by kernel_rfl)]
              refine wp_alloc_R 35 rfl fzc (by kernel_rfl) ?_
              have hbA := ((Below.refl _ _).alloc (Nat.le_refl _) _ : Below u1.heap.size u1 (u1.alloc (.cells fzc 35)))
              replace hof := OwnF.below hof hbA
              have hfr := Held.new u1 35 fzc
              have lhfr := hS.size
              replace hS := Below.step hS hbA
              clear hbA
              generalize u1.alloc (.cells fzc 35) = Wd2 at *
              refine hK.out _ _ hS (fun _ => ?_)
              clear hK K
              (try simp only [Act.put, List.getElem_toArray, List.getElem_cons_succ, List.getElem_cons_zero, List.setIfInBounds_toArray, List.set_cons_zero, List.set_cons_succ])
              refine wpAnyH_ready (rs := [10]) (by kernel_rfl) (by simp) ?_
              refine (AllReadyH.cons rfl (fun K hK => ?_) AllReadyH.nil)
              · rw [if_pos (by kernel_rfl)]
                refine wp_store_row 35 _ _ rfl _ ds1 (by rfl) (by rfl) _ _ hfr (by rw [hd1]; kernel_rfl) (by rw [hd1]; rfl) hd2 ?_
                have hff := (hof.kt (kt_row hfr ds1) (by decide) (by decide)).at
                have hfv := held_rowSelf hfr ds1
                replace hS := below_setRow hS lhfr ds1
                clear hof hfr
                generalize World.setRow _ _ ds1 = Wst at *
                refine hK.out _ _ hS (fun _ => ?_)
                clear hK K
                (try simp only [Act.put, List.getElem_toArray, List.getElem_cons_succ, List.getElem_cons_zero, List.setIfInBounds_toArray, List.set_cons_zero, List.set_cons_succ])
                refine wpAnyH_takeS HNS (i := 11) (v := .bool true) rfl (by kernel_rfl) (by kernel_rfl) (fun _ _ _ h => h) (Or.inl ⟨by kernel_rfl, fun W hW => ?_⟩) hS ?_
                · go_simp
                simp only [Act.put, List.getElem_toArray, List.getElem_cons_succ, List.getElem_cons_zero, List.setIfInBounds_toArray, List.set_cons_zero, List.set_cons_succ]
                refine wpAnyH_done (by kernel_rfl) ?_ _
                go_wp2_with fail
                go_meet
                case rel => exact ⟨_, _, rfl, rfl, ⟨hfv, hd1, hd2, hff⟩, Below.step HDR.out hS⟩
          · rw [if_pos (by kernel_rfl)]
            refine wp_alloc_R 35 rfl fzc (by kernel_rfl) ?_
            have hbA := ((Below.refl _ _).alloc (Nat.le_refl _) _ : Below Wq.heap.size Wq (Wq.alloc (.cells fzc 35)))
            have hfr := Held.new Wq 35 fzc
            have lhfr := hS.size
            replace hS := Below.step hS hbA
            clear hbA
            generalize Wq.alloc (.cells fzc 35) = Wd3 at *
            refine hK.out _ _ hS (fun _ => ?_)
            clear hK K
            (try simp only [Act.put, List.getElem_toArray, List.getElem_cons_succ, List.getElem_cons_zero, List.setIfInBounds_toArray, List.set_cons_zero, List.set_cons_succ])
            refine wpAnyH_ready (rs := [5]) (by kernel_rfl) (by simp) ?_
            refine (AllReadyH.cons rfl (fun K hK => ?_) AllReadyH.nil)
            · rw [if_pos (by kernel_rfl)]
              go_simp
              go_at_call 18
              (with_reducible refine (get_o GU.out LP c c2 _ (v3.below hS).p).mono ?_)
              rintro _ u4 ⟨ds4, rfl, d14, d24, ho4, hb4⟩
              replace hfr := Held.below hfr hb4
              replace hS := Below.step hS hb4
              have hof := ho4
              have hd1 := d14
              have hd2 := d24
              (repeat (first | go_skip | go_guarded | go_step | go_upon))
              refine hK.out _ _ hS (fun _ => ?_)
              clear hK K
              (try simp only [Act.put, List.getElem_toArray, List.getElem_cons_succ, List.getElem_cons_zero, List.setIfInBounds_toArray, List.set_cons_zero, List.set_cons_succ])
              refine wpAnyH_takeS HNS (i := 6) (v := .tuple #[.agg ds4, .bool true]) rfl (by kernel_rfl) (by kernel_rfl) (fun _ _ _ h => h) (Or.inl ⟨by kernel_rfl, fun W hW => ?_⟩) hS ?_
              · go_simp
              simp only [Act.put, List.getElem_toArray, List.getElem_cons_succ, List.getElem_cons_zero, List.setIfInBounds_toArray, List.set_cons_zero, List.set_cons_succ]
              refine wpAnyH_takeS HNS (i := 7) (v := .agg ds4) rfl (by kernel_rfl) (by kernel_rfl) (fun _ _ _ h => h) (Or.inl ⟨by kernel_rfl, fun W hW => ?_⟩) hS ?_
              · go_simp
              simp only [Act.put, List.getElem_toArray, List.getElem_cons_succ, List.getElem_cons_zero, List.setIfInBounds_toArray, List.set_cons_zero, List.set_cons_succ]
              refine wpAnyH_takeS HNS (i := 8) (v := .bool true) rfl (by kernel_rfl) (by kernel_rfl) (fun _ _ _ h => h) (Or.inl ⟨by kernel_rfl, fun W hW => ?_⟩) hS ?_
              · go_simp
              simp only [Act.put, List.getElem_toArray, List.getElem_cons_succ, List.getElem_cons_zero, List.setIfInBounds_toArray, List.set_cons_zero, List.set_cons_succ]
              refine wpAnyH_ready (rs := [10]) (by kernel_rfl) (by simp) ?_
              refine (AllReadyH.cons rfl (fun K hK => ?_) AllReadyH.nil)
              · rw [if_pos (by kernel_rfl)]
                refine wp_store_row 35 _ _ rfl _ ds4 (by rfl) (by rfl) _ _ hfr (by rw [hd1]; kernel_rfl) (by rw [hd1]; rfl) hd2 ?_
                have hff := (hof.kt (kt_row hfr ds4) (by decide) (by decide)).at
                have hfv := held_rowSelf hfr ds4
                replace hS := below_setRow hS lhfr ds4
                clear hof hfr
                generalize World.setRow _ _ ds4 = Wst at *
                refine hK.out _ _ hS (fun _ => ?_)
                clear hK K
                (try simp only [Act.put, List.getElem_toArray, List.getElem_cons_succ, List.getElem_cons_zero, List.setIfInBounds_toArray, List.set_cons_zero, List.set_cons_succ])
                refine wpAnyH_takeS HNS (i := 11) (v := .bool true) rfl (by kernel_rfl) (by kernel_rfl) (fun _ _ _ h => h) (Or.inl ⟨by kernel_rfl, fun W hW => ?_⟩) hS ?_
                · go_simp
                simp only [Act.put, List.getElem_toArray, List.getElem_cons_succ, List.getElem_cons_zero, List.setIfInBounds_toArray, List.set_cons_zero, List.set_cons_succ]
                refine wpAnyH_done (by kernel_rfl) ?_ _
                go_wp2_with fail
                go_meet
                case rel => exact ⟨_, _, rfl, rfl, ⟨hfv, hd1, hd2, hff⟩, Below.step HDR.out hS⟩
        case rest =>
          obtain ⟨k29, ds29, rfl, rfl, v29, hwc⟩ := hcut
          obtain ⟨y0, y1, hbl⟩ := Y9.out
          have HWC := Lib.hid hwc
          replace v15 := v15.below hwc
          replace v9 := Held.below v9 hwc
          replace y0 := (hwc.cell (p := ⟨b, _, none⟩) hbl).trans y0
          replace y1 := (hwc.cell (p := ⟨b, _, none⟩) hbl).trans y1
          replace hbl : b < wc.heap.size := Nat.lt_of_lt_of_le hbl hwc.size
          have Y8 := Lib.hid (And.intro y0 (And.intro y1 hbl))
          clear v3 hwc
          go_upto_region 21 with (fail)
          go_cut [31, 32] from 179 to 222 (fun vf vb wx => ∃ k ds, vf = .pointer (some ⟨k, 0, none⟩) ∧ vb = .bool true ∧ FV wx k ds u ∧ Below wc.heap.size wc wx)
          case first =>
            have hdr := (Below.refl wc.heap.size wc).drew
            have HDR := Lib.hid hdr
            replace v15 := v15.below hdr
            replace y0 := (hdr.cell (p := ⟨b, _, none⟩) hbl).trans y0
            replace y1 := (hdr.cell (p := ⟨b, _, none⟩) hbl).trans y1
            replace hbl : b < wc.drew.heap.size := hbl
            clear hdr
            refine wp_region_held_drew (S := fun W => Below wc.drew.heap.size wc.drew W) (by kernel_rfl) (Below.refl _ _) (fun hS => ?_)
            generalize wc.drew = Wq at *
            show wpAnyH _ _ _ _ _ 12 #[false, false, false, false, false, false, false, false, false, false, false, false] _ _
            refine wpAnyH_begin (by kernel_rfl) (fun HNS => ?_)
            refine wpAnyH_takeS HNS (i := 0) (v := .agg (pc A15 SD.cells.length c15 B15 SD.free.length d15 SD.most)) rfl (by kernel_rfl) (by kernel_rfl) (fun _ _ _ h => h) (Or.inl ⟨by kernel_rfl, fun W hW => ?_⟩) hS ?_
            · (have hz := Held.below v15.x hW; have z0 := hz.cell 0; have z1 := hz.cell 1; have z2 := hz.cell 2; simp at z0 z1 z2; go_simp)
            simp only [Act.put, List.getElem_toArray, List.getElem_cons_succ, List.getElem_cons_zero, List.setIfInBounds_toArray, List.set_cons_zero, List.set_cons_succ]
            refine wpAnyH_takeS HNS (i := 1) (v := .slice (some ⟨b, off, none⟩) L.length c7) rfl (by kernel_rfl) (by kernel_rfl) (fun _ _ _ h => h) (Or.inl ⟨by kernel_rfl, fun W hW => ?_⟩) hS ?_
            · go_simp
            simp only [Act.put, List.getElem_toArray, List.getElem_cons_succ, List.getElem_cons_zero, List.setIfInBounds_toArray, List.set_cons_zero, List.set_cons_succ]
            refine wpAnyH_takeS HNS (i := 2) (v := .int .i64 k) rfl (by kernel_rfl) (by kernel_rfl) (fun _ _ _ h => h) (Or.inl ⟨by kernel_rfl, fun W hW => ?_⟩) hS ?_
            · go_simp
            simp only [Act.put, List.getElem_toArray, List.getElem_cons_succ, List.getElem_cons_zero, List.setIfInBounds_toArray, List.set_cons_zero, List.set_cons_succ]
            refine wpAnyH_takeS HNS (i := 3) (v := .pointer (some ⟨b, off + k * 2, none⟩)) rfl (by kernel_rfl) (by kernel_rfl) (fun _ _ _ h => h) (Or.inl ⟨by kernel_rfl, fun W hW => ?_⟩) hS ?_
            · go_simp
            simp only [Act.put, List.getElem_toArray, List.getElem_cons_succ, List.getElem_cons_zero, List.setIfInBounds_toArray, List.set_cons_zero, List.set_cons_succ]
            refine wpAnyH_takeS HNS (i := 4) (v := .agg #[.int .i64 rk.1, .int .i64 rk.2]) rfl (by kernel_rfl) (by kernel_rfl) (fun _ _ _ h => h) (Or.inl ⟨by kernel_rfl, fun W hW => ?_⟩) hS ?_
            · (have z0 := (hW.cell (p := ⟨b, _, none⟩) hbl).trans y0; have z1 := (hW.cell (p := ⟨b, _, none⟩) hbl).trans y1; go_simp)
            simp only [Act.put, List.getElem_toArray, List.getElem_cons_succ, List.getElem_cons_zero, List.setIfInBounds_toArray, List.set_cons_zero, List.set_cons_succ]
            refine wpAnyH_ready (rs := [5, 9]) (by kernel_rfl) (by simp) ?_
            refine (AllReadyH.cons rfl (fun K hK => ?_) (AllReadyH.cons rfl (fun K hK => ?_) AllReadyH.nil))
            · rw [if_pos (by kernel_rfl)]
              go_simp
              go_at_call 18
              (with_reducible refine (get_o GD.out LD c15 d15 _ (v15.below hS).p).mono ?_)
              rintro _ u5 ⟨ds5, rfl, d15, d25, ho5, hb5⟩
              replace hS := Below.step hS hb5
              have hof := ho5
              have hd1 := d15
              have hd2 := d25
              (repeat (first | go_skip | go_guarded | go_step | go_upon))
              refine hK.out _ _ hS (fun _ => ?_)
              clear hK K
              (try simp only [Act.put, List.getElem_toArray, List.getElem_cons_succ, List.getElem_cons_zero, List.setIfInBounds_toArray, List.set_cons_zero, List.set_cons_succ])
              refine wpAnyH_takeS HNS (i := 6) (v := .tuple #[.agg ds5, .bool true]) rfl (by kernel_rfl) (by kernel_rfl) (fun _ _ _ h => h) (Or.inl ⟨by kernel_rfl, fun W hW => ?_⟩) hS ?_
              · go_simp
              simp only [Act.put, List.getElem_toArray, List.getElem_cons_succ, List.getElem_cons_zero, List.setIfInBounds_toArray, List.set_cons_zero, List.set_cons_succ]
              refine wpAnyH_takeS HNS (i := 7) (v := .agg ds5) rfl (by kernel_rfl) (by kernel_rfl) (fun _ _ _ h => h) (Or.inl ⟨by kernel_rfl, fun W hW => ?_⟩) hS ?_
              · go_simp
              simp only [Act.put, List.getElem_toArray, List.getElem_cons_succ, List.getElem_cons_zero, List.setIfInBounds_toArray, List.set_cons_zero, List.set_cons_succ]
              refine wpAnyH_takeS HNS (i := 8) (v := .bool true) rfl (by kernel_rfl) (by kernel_rfl) (fun _ _ _ h => h) (Or.inl ⟨by kernel_rfl, fun W hW => ?_⟩) hS ?_
              · go_simp
              simp only [Act.put, List.getElem_toArray, List.getElem_cons_succ, List.getElem_cons_zero, List.setIfInBounds_toArray, List.set_cons_zero, List.set_cons_succ]
              refine wpAnyH_ready (rs := [9]) (by kernel_rfl) (by simp) ?_
              refine (AllReadyH.cons rfl (fun K hK => ?_) AllReadyH.nil)
              · rw [if_pos (by kernel_rfl)]
                refine wp_alloc_R 35 rfl fzc (by kernel_rfl) ?_
                have hbA := ((Below.refl _ _).alloc (Nat.le_refl _) _ : Below u5.heap.size u5 (u5.alloc (.cells fzc 35)))
                replace hof := OwnF.below hof hbA
                have hfr := Held.new u5 35 fzc
                have lhfr := hS.size
                replace hS := Below.step hS hbA
                clear hbA
                generalize u5.alloc (.cells fzc 35) = Wd6 at *
                refine hK.out _ _ hS (fun _ => ?_)
                clear hK K
                (try simp only [Act.put, List.getElem_toArray, List.getElem_cons_succ, List.getElem_cons_zero, List.setIfInBounds_toArray, List.set_cons_zero, List.set_cons_succ])
                refine wpAnyH_ready (rs := [10]) (by kernel_rfl) (by simp) ?_
                refine (AllReadyH.cons rfl (fun K hK => ?_) AllReadyH.nil)
                · rw [if_pos (by kernel_rfl)]
                  refine wp_store_row 35 _ _ rfl _ ds5 (by rfl) (by rfl) _ _ hfr (by rw [hd1]; kernel_rfl) (by rw [hd1]; rfl) hd2 ?_
                  have hff := (hof.kt (kt_row hfr ds5) (by decide) (by decide)).at
                  have hfv := held_rowSelf hfr ds5
                  replace hS := below_setRow hS lhfr ds5
                  clear hof hfr
                  generalize World.setRow _ _ ds5 = Wst at *
                  refine hK.out _ _ hS (fun _ => ?_)
                  clear hK K
                  (try simp only [Act.put, List.getElem_toArray, List.getElem_cons_succ, List.getElem_cons_zero, List.setIfInBounds_toArray, List.set_cons_zero, List.set_cons_succ])
                  refine wpAnyH_takeS HNS (i := 11) (v := .bool true) rfl (by kernel_rfl) (by kernel_rfl) (fun _ _ _ h => h) (Or.inl ⟨by kernel_rfl, fun W hW => ?_⟩) hS ?_
                  · go_simp
                  simp only [Act.put, List.getElem_toArray, List.getElem_cons_succ, List.getElem_cons_zero, List.setIfInBounds_toArray, List.set_cons_zero, List.set_cons_succ]
                  refine wpAnyH_done (by kernel_rfl) ?_ _
                  go_wp2_with fail
                  go_meet
                  case rel => exact ⟨_, _, rfl, rfl, ⟨hfv, hd1, hd2, hff⟩, Below.step HDR.out hS⟩
            · rw [if_pos (by kernel_rfl)]
              refine wp_alloc_R 35 rfl fzc (by kernel_rfl) ?_
              have hbA := ((Below.refl _ _).alloc (Nat.le_refl _) _ : Below Wq.heap.size Wq (Wq.alloc (.cells fzc 35)))
              have hfr := Held.new Wq 35 fzc
              have lhfr := hS.size
              replace hS := Below.step hS hbA
              clear hbA
              generalize Wq.alloc (.cells fzc 35) = Wd7 at *
              refine hK.out _ _ hS (fun _ => ?_)
              clear hK K
              (try simp only [Act.put, List.getElem_toArray, List.getElem_cons_succ, List.getElem_cons_zero, List.setIfInBounds_toArray, List.set_cons_zero, List.set_cons_succ])
              refine wpAnyH_ready (rs := [5]) (by kernel_rfl) (by simp) ?_
              refine (AllReadyH.cons rfl (fun K hK => ?_) AllReadyH.nil)
              · rw [if_pos (by kernel_rfl)]
                go_simp
                go_at_call 18
                (with_reducible refine (get_o GD.out LD c15 d15 _ (v15.below hS).p).mono ?_)
                rintro _ u8 ⟨ds8, rfl, d18, d28, ho8, hb8⟩
                replace hfr := Held.below hfr hb8
                replace hS := Below.step hS hb8
                have hof := ho8
                have hd1 := d18
                have hd2 := d28
                (repeat (first | go_skip | go_guarded | go_step | go_upon))
                refine hK.out _ _ hS (fun _ => ?_)
                clear hK K
                (try simp only [Act.put, List.getElem_toArray, List.getElem_cons_succ, List.getElem_cons_zero, List.setIfInBounds_toArray, List.set_cons_zero, List.set_cons_succ])
                refine wpAnyH_takeS HNS (i := 6) (v := .tuple #[.agg ds8, .bool true]) rfl (by kernel_rfl) (by kernel_rfl) (fun _ _ _ h => h) (Or.inl ⟨by kernel_rfl, fun W hW => ?_⟩) hS ?_
                · go_simp
                simp only [Act.put, List.getElem_toArray, List.getElem_cons_succ, List.getElem_cons_zero, List.setIfInBounds_toArray, List.set_cons_zero, List.set_cons_succ]
                refine wpAnyH_takeS HNS (i := 7) (v := .agg ds8) rfl (by kernel_rfl) (by kernel_rfl) (fun _ _ _ h => h) (Or.inl ⟨by kernel_rfl, fun W hW => ?_⟩) hS ?_
                · go_simp
                simp only [Act.put, List.getElem_toArray, List.getElem_cons_succ, List.getElem_cons_zero, List.setIfInBounds_toArray, List.set_cons_zero, List.set_cons_succ]
                refine wpAnyH_takeS HNS (i := 8) (v := .bool true) rfl (by kernel_rfl) (by kernel_rfl) (fun _ _ _ h => h) (Or.inl ⟨by kernel_rfl, fun W hW => ?_⟩) hS ?_
                · go_simp
                simp only [Act.put, List.getElem_toArray, List.getElem_cons_succ, List.getElem_cons_zero, List.setIfInBounds_toArray, List.set_cons_zero, List.set_cons_succ]
                refine wpAnyH_ready (rs := [10]) (by kernel_rfl) (by simp) ?_
                refine (AllReadyH.cons rfl (fun K hK => ?_) AllReadyH.nil)
                · rw [if_pos (by kernel_rfl)]
                  refine wp_store_row 35 _ _ rfl _ ds8 (by rfl) (by rfl) _ _ hfr (by rw [hd1]; kernel_rfl) (by rw [hd1]; rfl) hd2 ?_
                  have hff := (hof.kt (kt_row hfr ds8) (by decide) (by decide)).at
                  have hfv := held_rowSelf hfr ds8
                  replace hS := below_setRow hS lhfr ds8
                  clear hof hfr
                  generalize World.setRow _ _ ds8 = Wst at *
                  refine hK.out _ _ hS (fun _ => ?_)
                  clear hK K
                  (try simp only [Act.put, List.getElem_toArray, List.getElem_cons_succ, List.getElem_cons_zero, List.setIfInBounds_toArray, List.set_cons_zero, List.set_cons_succ])
                  refine wpAnyH_takeS HNS (i := 11) (v := .bool true) rfl (by kernel_rfl) (by kernel_rfl) (fun _ _ _ h => h) (Or.inl ⟨by kernel_rfl, fun W hW => ?_⟩) hS ?_
                  · go_simp
                  simp only [Act.put, List.getElem_toArray, List.getElem_cons_succ, List.getElem_cons_zero, List.setIfInBounds_toArray, List.set_cons_zero, List.set_cons_succ]
                  refine wpAnyH_done (by kernel_rfl) ?_ _
                  go_wp2_with fail
                  go_meet
                  case rel => exact ⟨_, _, rfl, rfl, ⟨hfv, hd1, hd2, hff⟩, Below.step HDR.out hS⟩
          case rest =>
            obtain ⟨k31, ds31, rfl, rfl, v31, hwc2⟩ := hcut
            obtain ⟨y0, y1, hbl⟩ := Y8.out
            replace v29 := v29.below hwc2
            replace v9 := Held.below v9 hwc2
            replace y0 := (hwc2.cell (p := ⟨b, _, none⟩) hbl).trans y0
            replace y1 := (hwc2.cell (p := ⟨b, _, none⟩) hbl).trans y1
            replace hbl := Nat.lt_of_lt_of_le hbl hwc2.size
            have HWD := Lib.hid (Below.step HWC.out hwc2)
            clear v15 hwc2
            go_upto_region 22 with (fail)
            have hdr := (Below.refl wc.heap.size wc).drew
            have HDR := Lib.hid hdr
            replace v29 := v29.below hdr
            replace v31 := v31.below hdr
            replace v9 := Held.below v9 hdr
            replace y0 := (hdr.cell (p := ⟨b, _, none⟩) hbl).trans y0
            replace y1 := (hdr.cell (p := ⟨b, _, none⟩) hbl).trans y1
            replace hbl : b < wc.drew.heap.size := hbl
            clear hdr
            refine wp_region_held_drew (S := fun W => Below wc.drew.heap.size wc.drew W) (by kernel_rfl) (Below.refl _ _) (fun hS => ?_)
            generalize wc.drew = W6 at *
            show wpAnyH _ _ _ _ _ 20 #[false, false, false, false, false, false, false, false, false, false, false, false, false, false, false, false, false, false, false, false] _ _
            refine wpAnyH_begin (by kernel_rfl) (fun HNS => ?_)
            refine wpAnyH_takeS HNS (i := 0) (v := .bool true) rfl (by kernel_rfl) (by kernel_rfl) (fun _ _ _ h => h) (Or.inl ⟨by kernel_rfl, fun W hW => ?_⟩) hS ?_
            · go_simp
            simp only [Act.put, List.getElem_toArray, List.getElem_cons_succ, List.getElem_cons_zero, List.setIfInBounds_toArray, List.set_cons_zero, List.set_cons_succ]
            refine wpAnyH_takeS HNS (i := 1) (v := .bool false) rfl (by kernel_rfl) (by kernel_rfl) (fun _ _ _ h => h) (Or.inl ⟨by kernel_rfl, fun W hW => ?_⟩) hS ?_
            · go_simp
            simp only [Act.put, List.getElem_toArray, List.getElem_cons_succ, List.getElem_cons_zero, List.setIfInBounds_toArray, List.set_cons_zero, List.set_cons_succ]
            refine wpAnyH_takeS HNS (i := 2) (v := .bool false) rfl (by kernel_rfl) (by kernel_rfl) (fun _ _ _ h => h) (Or.inl ⟨by kernel_rfl, fun W hW => ?_⟩) hS ?_
            · go_simp
            simp only [Act.put, List.getElem_toArray, List.getElem_cons_succ, List.getElem_cons_zero, List.setIfInBounds_toArray, List.set_cons_zero, List.set_cons_succ]
            refine wpAnyH_takeS HNS (i := 3) (v := .bool true) rfl (by kernel_rfl) (by kernel_rfl) (fun _ _ _ h => h) (Or.inl ⟨by kernel_rfl, fun W hW => ?_⟩) hS ?_
            · go_simp
            simp only [Act.put, List.getElem_toArray, List.getElem_cons_succ, List.getElem_cons_zero, List.setIfInBounds_toArray, List.set_cons_zero, List.set_cons_succ]
            refine wpAnyH_takeS HNS (i := 4) (v := .bool false) rfl (by kernel_rfl) (by kernel_rfl) (fun _ _ _ h => h) (Or.inl ⟨by kernel_rfl, fun W hW => ?_⟩) hS ?_
            · go_simp
            simp only [Act.put, List.getElem_toArray, List.getElem_cons_succ, List.getElem_cons_zero, List.setIfInBounds_toArray, List.set_cons_zero, List.set_cons_succ]
            refine wpAnyH_takeS HNS (i := 5) (v := .bool false) rfl (by kernel_rfl) (by kernel_rfl) (fun _ _ _ h => h) (Or.inl ⟨by kernel_rfl, fun W hW => ?_⟩) hS ?_
            · go_simp
            simp only [Act.put, List.getElem_toArray, List.getElem_cons_succ, List.getElem_cons_zero, List.setIfInBounds_toArray, List.set_cons_zero, List.set_cons_succ]
            refine wpAnyH_takeS HNS (i := 6) (v := .bool false) rfl (by kernel_rfl) (by kernel_rfl) (fun _ _ _ h => h) (Or.inl ⟨by kernel_rfl, fun W hW => ?_⟩) hS ?_
            · go_simp
            simp only [Act.put, List.getElem_toArray, List.getElem_cons_succ, List.getElem_cons_zero, List.setIfInBounds_toArray, List.set_cons_zero, List.set_cons_succ]
            refine wpAnyH_takeS HNS (i := 7) (v := .agg ds29) rfl (by kernel_rfl) (by kernel_rfl) (fun _ _ _ h => h) (yieldsIf_load_midA (by kernel_rfl) 35 _ rfl k29 0 (by rfl) ds29 _ (fun W hW => range_held (Held.below v29.x hW)) Try.underlying35 rfl (by rw [v29.s]; kernel_rfl)) hS ?_
            simp only [Act.put, List.getElem_toArray, List.getElem_cons_succ, List.getElem_cons_zero, List.setIfInBounds_toArray, List.set_cons_zero, List.set_cons_succ]
            refine wpAnyH_takeS HNS (i := 8) (v := .agg ds31) rfl (by kernel_rfl) (by kernel_rfl) (fun _ _ _ h => h) (yieldsIf_load_midA (by kernel_rfl) 35 _ rfl k31 0 (by rfl) ds31 _ (fun W hW => range_held (Held.below v31.x hW)) Try.underlying35 rfl (by rw [v31.s]; kernel_rfl)) hS ?_
            simp only [Act.put, List.getElem_toArray, List.getElem_cons_succ, List.getElem_cons_zero, List.setIfInBounds_toArray, List.set_cons_zero, List.set_cons_succ]
            refine wpAnyH_ready (rs := [9]) (by kernel_rfl) (by simp) ?_
            refine (AllReadyH.cons rfl (fun K hK => ?_) AllReadyH.nil)
            · rw [if_pos (by kernel_rfl)]
              go_simp
              go_at_call 23
              (with_reducible refine (rsamef_c (decide_eq_true rfl) LU LU _ (v29.below hS).p (v31.below hS).p).mono ?_)
              rintro _ u1 ⟨rfl, hb1⟩
              replace hS := Below.step hS hb1
              (repeat (first | go_skip | go_guarded | go_step | go_upon))
              refine hK.out _ _ hS (fun _ => ?_)
              clear hK K
              (try simp only [Act.put, List.getElem_toArray, List.getElem_cons_succ, List.getElem_cons_zero, List.setIfInBounds_toArray, List.set_cons_zero, List.set_cons_succ])
              refine wpAnyH_takeS HNS (i := 10) (v := .bool false) rfl (by kernel_rfl) (by kernel_rfl) (fun _ _ _ h => h) (Or.inl ⟨by kernel_rfl, fun W hW => ?_⟩) hS ?_
              · go_simp
              simp only [Act.put, List.getElem_toArray, List.getElem_cons_succ, List.getElem_cons_zero, List.setIfInBounds_toArray, List.set_cons_zero, List.set_cons_succ]
              refine wpAnyH_takeS HNS (i := 11) (v := .bool false) rfl (by kernel_rfl) (by kernel_rfl) (fun _ _ _ h => h) (Or.inl ⟨by kernel_rfl, fun W hW => ?_⟩) hS ?_
              · go_simp
              simp only [Act.put, List.getElem_toArray, List.getElem_cons_succ, List.getElem_cons_zero, List.setIfInBounds_toArray, List.set_cons_zero, List.set_cons_succ]
              refine wpAnyH_takeS HNS (i := 12) (v := .bool false) rfl (by kernel_rfl) (by kernel_rfl) (fun _ _ _ h => h) (Or.inl ⟨by kernel_rfl, fun W hW => ?_⟩) hS ?_
              · go_simp
              simp only [Act.put, List.getElem_toArray, List.getElem_cons_succ, List.getElem_cons_zero, List.setIfInBounds_toArray, List.set_cons_zero, List.set_cons_succ]
              refine wpAnyH_takeS HNS (i := 13) (v := .slice (some ⟨b, off, none⟩) L.length c7) rfl (by kernel_rfl) (by kernel_rfl) (fun _ _ _ h => h) (Or.inl ⟨by kernel_rfl, fun W hW => ?_⟩) hS ?_
              · go_simp
              simp only [Act.put, List.getElem_toArray, List.getElem_cons_succ, List.getElem_cons_zero, List.setIfInBounds_toArray, List.set_cons_zero, List.set_cons_succ]
              refine wpAnyH_takeS HNS (i := 14) (v := .int .i64 k) rfl (by kernel_rfl) (by kernel_rfl) (fun _ _ _ h => h) (Or.inl ⟨by kernel_rfl, fun W hW => ?_⟩) hS ?_
              · go_simp
              simp only [Act.put, List.getElem_toArray, List.getElem_cons_succ, List.getElem_cons_zero, List.setIfInBounds_toArray, List.set_cons_zero, List.set_cons_succ]
              refine wpAnyH_takeS HNS (i := 15) (v := .pointer (some ⟨b, off + k * 2, none⟩)) rfl (by kernel_rfl) (by kernel_rfl) (fun _ _ _ h => h) (Or.inl ⟨by kernel_rfl, fun W hW => ?_⟩) hS ?_
              · go_simp
              simp only [Act.put, List.getElem_toArray, List.getElem_cons_succ, List.getElem_cons_zero, List.setIfInBounds_toArray, List.set_cons_zero, List.set_cons_succ]
              refine wpAnyH_takeS HNS (i := 16) (v := .agg #[.int .i64 rk.1, .int .i64 rk.2]) rfl (by kernel_rfl) (by kernel_rfl) (fun _ _ _ h => h) (Or.inl ⟨by kernel_rfl, fun W hW => ?_⟩) hS ?_
              · (have z0 := (hW.cell (p := ⟨b, _, none⟩) hbl).trans y0; have z1 := (hW.cell (p := ⟨b, _, none⟩) hbl).trans y1; go_simp)
              simp only [Act.put, List.getElem_toArray, List.getElem_cons_succ, List.getElem_cons_zero, List.setIfInBounds_toArray, List.set_cons_zero, List.set_cons_succ]
              refine wpAnyH_takeS HNS (i := 17) (v := .agg #[.int .i64 r.1, .int .i64 r.2]) rfl (by kernel_rfl) (by kernel_rfl) (fun _ _ _ h => h) (Or.inl ⟨by kernel_rfl, fun W hW => ?_⟩) hS ?_
              · (have hz := Held.below v9 hW; have z0 := hz.cell 0; have z1 := hz.cell 1; simp at z0 z1; go_simp)
              simp only [Act.put, List.getElem_toArray, List.getElem_cons_succ, List.getElem_cons_zero, List.setIfInBounds_toArray, List.set_cons_zero, List.set_cons_succ]
              refine wpAnyH_takeS HNS (i := 18) (v := .bool false) rfl (by kernel_rfl) (by kernel_rfl) (fun _ _ _ h => h) (Or.inl ⟨by kernel_rfl, fun W hW => ?_⟩) hS ?_
              · go_simp
              simp only [Act.put, List.getElem_toArray, List.getElem_cons_succ, List.getElem_cons_zero, List.setIfInBounds_toArray, List.set_cons_zero, List.set_cons_succ]
              refine wpAnyH_takeS HNS (i := 19) (v := .bool false) rfl (by kernel_rfl) (by kernel_rfl) (fun _ _ _ h => h) (Or.inl ⟨by kernel_rfl, fun W hW => ?_⟩) hS ?_
              · go_simp
              simp only [Act.put, List.getElem_toArray, List.getElem_cons_succ, List.getElem_cons_zero, List.setIfInBounds_toArray, List.set_cons_zero, List.set_cons_succ]
              refine wpAnyH_done (by kernel_rfl) ?_ _
              (repeat (first | go_skip | go_guarded | go_step | go_upon))
              go_wp2_with fail
              go_roundw
              case rel => exact ⟨k + 1, by go_num, by omega, Below.step HWR.out (Below.step HWD.out (Below.step HDR.out hS))⟩
              case measure => simp [intOf]; omega
      · obtain rfl : k = L.length := by omega
        obtain ⟨-, -, -, h7, hW⟩ := HV.out
        obtain ⟨v8, v11, v13, -⟩ := HV8.out
        obtain ⟨-, v15, -, -, -⟩ := HV.out
        replace v8 := v8.below hw
        replace v11 := v11.below hw
        replace v13 := v13.below hw
        replace v15 := v15.below hw
        replace h7 := pat_later h7 hw
        replace hW := Below.step hW hw
        have e1 : (((refsZ SA).length : Nat) : Int) = (L.length : Int) + 1 := by have := HH.out.lenA; rw [HLR.out] at this; omega
        have e2 : (((refsZ SB).length : Nat) : Int) = (L.length : Int) + 1 := by have := HH.out.lenB; rw [HLR.out] at this; omega
        obtain ⟨RA, hRA⟩ : ∃ l, refsZ SA = l := ⟨_, rfl⟩
        obtain ⟨RB, hRB⟩ : ∃ l, refsZ SB = l := ⟨_, rfl⟩
        rw [hRA] at e1
        rw [hRB] at e2
        have hRC := HH.out.refC.trans HLR.out
        have q1 : (((RA.length : Nat) : Int) == (L.length : Int) + 1) = true := by simpa using e1
        have q2 : (((RB.length : Nat) : Int) == (L.length : Int) + 1) = true := by simpa using e2
        clear hw hlt HV HV8
        go_wp2_with (first
          | (guard_target = wpList _ _ _ (Oper.mk (some 223) _ _ _ _ none :: _) _ _; refine wpList_load_row rfl 25 _ rfl g8 rfl _ _ _ _ v8.x Try.underlying25 rfl (by kernel_rfl) ?_)
          | (guard_target = wpList _ _ _ (Oper.mk (some 226) _ _ _ _ _ :: _) _ _; refine wpList_done rfl ?_; refine wpList_load_row rfl 25 _ rfl g11 rfl _ _ _ _ v11.x Try.underlying25 rfl (by kernel_rfl) ?_)
          | (guard_target = wpList _ _ _ (Oper.mk (some 230) _ _ _ _ _ :: _) _ _; refine wpList_done rfl ?_; refine wpList_load_row rfl 25 _ rfl g13 rfl _ _ _ _ v13.x Try.underlying25 rfl (by kernel_rfl) ?_)
          | (guard_target = wpList _ _ _ (Oper.mk (some 234) _ _ _ _ _ :: _) _ _; refine wpList_done rfl ?_; refine wpList_load_row rfl 25 _ rfl g15 rfl _ _ _ _ v15.x Try.underlying25 rfl (by kernel_rfl) ?_)
          | (guard_target = wpList _ _ _ (Oper.mk (some 238) _ _ _ _ _ :: _) _ _; refine wpList_done rfl ?_; refine wpList_load_row rfl 25 _ rfl g8 rfl _ _ _ _ v8.x Try.underlying25 rfl (by kernel_rfl) ?_)
          | (guard_target = wpList _ _ _ (Oper.mk (some 247) _ _ _ _ _ :: _) _ _; refine wpList_done rfl ?_; refine wpList_load_row rfl 25 _ rfl g11 rfl _ _ _ _ v11.x Try.underlying25 rfl (by kernel_rfl) ?_)
          | (guard_target = wpList _ _ _ (Oper.mk (some 256) _ _ _ _ _ :: _) _ _; refine wpList_done rfl ?_; refine wpList_load_row rfl 25 _ rfl g13 rfl _ _ _ _ v13.x Try.underlying25 rfl (by kernel_rfl) ?_)
          | (go_at_call 27; (with_reducible refine (may_c okA LA _ _ _ v8.p).mono ?_); rintro _ um0 ⟨rfl, hbm0⟩; replace v8 := v8.below hbm0; replace v11 := v11.below hbm0; replace v13 := v13.below hbm0; replace v15 := v15.below hbm0; replace h7 := pat_later h7 hbm0; replace hW := Below.step hW hbm0; clear hbm0)
          | (go_at_call 27; (with_reducible refine (may_c okB LB _ _ _ v11.p).mono ?_); rintro _ um1 ⟨rfl, hbm1⟩; replace v8 := v8.below hbm1; replace v11 := v11.below hbm1; replace v13 := v13.below hbm1; replace v15 := v15.below hbm1; replace h7 := pat_later h7 hbm1; replace hW := Below.step hW hbm1; clear hbm1)
          | (go_at_call 27; (with_reducible refine (may_c okC LC _ _ _ v13.p).mono ?_); rintro _ um2 ⟨rfl, hbm2⟩; replace v8 := v8.below hbm2; replace v11 := v11.below hbm2; replace v13 := v13.below hbm2; replace v15 := v15.below hbm2; replace h7 := pat_later h7 hbm2; replace hW := Below.step hW hbm2; clear hbm2)
          | (go_at_call 27; (with_reducible refine (may_c okD LD _ _ _ v15.p).mono ?_); rintro _ um3 ⟨rfl, hbm3⟩; replace v8 := v8.below hbm3; replace v11 := v11.below hbm3; replace v13 := v13.below hbm3; replace v15 := v15.below hbm3; replace h7 := pat_later h7 hbm3; replace hW := Below.step hW hbm3; clear hbm3)
          | (go_at_call 25; (with_reducible refine (refs_c hRA LA _ _ _ v8.p).mono ?_); rintro _ un1 ⟨Aa, ca, rfl, -, hbn1⟩; replace v8 := v8.below hbn1; replace v11 := v11.below hbn1; replace v13 := v13.below hbn1; replace v15 := v15.below hbn1; replace h7 := pat_later h7 hbn1; replace hW := Below.step hW hbn1)
          | (go_at_call 25; (with_reducible refine (refs_c hRB LB _ _ _ v11.p).mono ?_); rintro _ un2 ⟨Ab, cb, rfl, -, hbn2⟩; replace v8 := v8.below hbn2; replace v11 := v11.below hbn2; replace v13 := v13.below hbn2; replace v15 := v15.below hbn2; replace h7 := pat_later h7 hbn2; replace hW := Below.step hW hbn2)
          | (go_at_call 25; (with_reducible refine (refs_c hRC LC _ _ _ v13.p).mono ?_); rintro _ un3 ⟨Ac, cc, rfl, wc3, hbn3⟩; replace v8 := v8.below hbn3; replace v11 := v11.below hbn3; replace v13 := v13.below hbn3; replace v15 := v15.below hbn3; replace h7 := pat_later h7 hbn3; replace hW := Below.step hW hbn3; have hpc := own2_at wc3)
          | (go_at_call 24; (with_reducible refine (rrefs_c (decide_eq_true rfl) (by omega) (by omega) _ _ _ hpc h7).mono ?_); rintro _ un4 ⟨rfl, hbn4⟩; replace hW := Below.step hW hbn4))
        go_ret
        exact ⟨rfl, hW⟩
end Go.Proofs.Ytkpjlobpaippdaa.penHolds
