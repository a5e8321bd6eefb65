/- Layer 12: Get. -/
import Derived.Test.YtjibkgildfjjoaaGreatDoorzYc
import Derived.Test.YtjibkgildfjjoaaGreatDoorzYg
namespace Go.Proofs.YtjibkgildfjjoaaGreatDoor
set_option linter.unusedVariables false
set_option linter.unusedSimpArgs false
open Go.RowKit Go.ChangeShapes Go.WideShapes Go.ChangeAt Go.Sort

theorem frm0_own (w : World) (B : Nat) : OwnF w B (.agg fzc) frm0 := ⟨_, _, _, rfl, OwnVs.nil _ _, OwnVs.nil _ _, OwnSs.nil _ _⟩
theorem frm0_at (w : World) (B : Nat) : FrmAt w B (.agg fzc) frm0 := ⟨none, 0, none, 0, none, 0, rfl, VAt.nil _ _ _, VAt.nil _ _ _, SAt.nil _ _ _⟩
theorem get_no {p : Zp} {r : V} (h : okZ p = false ∨ hasZ p r = false) : getZ p r = (frm0, false) := if_neg (by
  rintro ⟨h1, h2⟩
  rcases h with h | h
  · rw [h] at h1; cases h1
  · rw [h] at h2; cases h2)
theorem get_yes {p : Zp} {r : V} (h : okZ p = true) (h2 : hasZ p r = true) : ∃ j : Nat, ∃ hj : j < p.cells.length, r = ((j : Int), p.cells[j].gen) ∧ p.cells[j].used = true ∧ getZ p r = (p.cells[j].frm, true) := by
  obtain ⟨j, hj, e, hu, hg⟩ := (hasZ_iff p r).1 h2
  refine ⟨j, hj, ?_, hu, ?_⟩
  · obtain ⟨a, b⟩ := r
    simp only at e hg
    rw [e, hg]
  · unfold getZ
    rw [if_pos ⟨h, h2⟩, e, Int.toNat_natCast, List.getD_eq_getElem?_getD, List.getElem?_eq_getElem hj, Option.getD_some]
set_option maxHeartbeats 4000000 in
set_option maxRecDepth 100000 in
theorem rget_z {A A2 : Option Addr} {p : Zp} {B n m : Nat} (c c2 : Nat) (r : V) (w : World) (hn : p.cells.length = n) (hm : p.free.length = m) (h : PAtZ w B A A2 p) (hl : LenZ p) (hB : B ≤ w.heap.size) :
    Calls Tryz.prog 23 #[pv A n c A2 m c2 p.most, gv r.1 r.2] w fun e w' => ∃ ds : Array Value, e = .returned (.tuple #[.agg ds, .bool (getZ p r).2]) ∧ ds.size = 16 ∧ ds.all (·.oneCell') = true ∧ FrmAt w' w'.heap.size (.agg ds) (getZ p r).1 ∧ Below w.heap.size w w' := by
  have hbw : Below w.heap.size w (((w.alloc (.cells (pc A n c A2 m c2 p.most) 32)).alloc (.cells (refc r.1 r.2) 36)).alloc (.cells fzc 60)) := below3 w _ _ _
  have g2 := ((Held.new w 32 (pc A n c A2 m c2 p.most)).alloc (.cells (refc r.1 r.2) 36)).alloc (.cells fzc 60)
  have g3 := (Held.new1 w (.cells (pc A n c A2 m c2 p.most) 32) 36 (refc r.1 r.2)).alloc (.cells fzc 60)
  have g4 := Held.new2 w (.cells (pc A n c A2 m c2 p.most) 32) (.cells (refc r.1 r.2) 36) 60 fzc
  have hsz : w.heap.size + 3 ≤ (((w.alloc (.cells (pc A n c A2 m c2 p.most) 32)).alloc (.cells (refc r.1 r.2) 36)).alloc (.cells fzc 60)).heap.size := by simp
  have hp := h.below hbw hB
  have hbs := Nat.le_trans hB hbw.size
  have HN := Lib.hid hn
  have HM := Lib.hid hm
  have hn1 : n ≤ 100000 := by have := hl.cells; omega
  have hm1 : m ≤ 100000 := by have := hl.free; omega
  have HL := Lib.hid hl
  have GN := Lib.hid (fun h => get_no (p := p) (r := r) h)
  have GY := Lib.hid (fun h1 h2 => get_yes (p := p) (r := r) h1 h2)
  generalize getZ p r = G at *
  obtain ⟨b1, hb1⟩ : ∃ b, okZ p = b := ⟨_, rfl⟩
  obtain ⟨b2, hb2⟩ : ∃ b, hasZ p r = b := ⟨_, rfl⟩
  have hB0 := hB
  clear h hl hn hm hB
  have MC := fun W (hbs : B ≤ W.heap.size) (hp : PAtZ W B A A2 p) => rmay_z c c2 W HN.out HM.out hp hn1 hm1 hbs
  have HC := fun W (hbs : B ≤ W.heap.size) (hp : PAtZ W B A A2 p) => rhas_z c c2 (m := m) (t := p.most) r W HN.out hp hbs (by have := HL.out.cells; have := HN.out; omega)
  simp only [hb1] at MC
  simp only [hb2] at HC
  cases b1 with
  | false =>
    obtain rfl : G = (frm0, false) := GN.out (.inl hb1)
    clear hb1 hb2
    go_enter Tryz.func23, Tryz.ntmps23
    go_upto_region 1 with (fail)
    generalize (((w.alloc (.cells (pc A n c A2 m c2 p.most) 32)).alloc (.cells (refc r.1 r.2) 36)).alloc (.cells fzc 60)) = W0 at *
    go_wp2_with (first
      | (guard_target = wpList _ _ _ (Oper.mk (some 6) _ _ _ _ none :: _) _ _; refine wpList_load_row rfl 32 _ rfl w.heap.size rfl _ _ _ _ g2 Tryz.underlying32 rfl (by kernel_rfl) ?_)
      | (guard_target = wpList _ _ _ (Oper.mk (some 10) _ _ _ _ _ :: _) _ _; refine wpList_done rfl ?_; refine wpList_load_row rfl 32 _ rfl w.heap.size rfl _ _ _ _ g2 Tryz.underlying32 rfl (by kernel_rfl) ?_)
      | (guard_target = wpList _ _ _ (Oper.mk (some 11) _ _ _ _ _ :: _) _ _; refine wpList_done rfl ?_; refine wpList_load_row rfl 36 _ rfl (w.heap.size + 1) rfl _ _ _ _ g3 Tryz.underlying36 rfl (by kernel_rfl) ?_)
      | (go_at_call 51; (with_reducible refine (MC _ hbs hp).mono ?_); rintro _ u1 ⟨rfl, hb1⟩; replace g2 := Held.below g2 hb1; replace g3 := Held.below g3 hb1; replace g4 := Held.below g4 hb1; replace hp := (hp.below hb1 hbs); replace hbs := Nat.le_trans hbs hb1.size; replace hbw := Below.step hbw hb1; replace hsz := Nat.le_trans hsz hb1.size)
      | (go_at_call 52; (with_reducible refine (HC _ hbs hp).mono ?_); rintro _ u2 ⟨rfl, hb2⟩; replace g2 := Held.below g2 hb2; replace g3 := Held.below g3 hb2; replace g4 := Held.below g4 hb2; replace hp := (hp.below hb2 hbs); replace hbs := Nat.le_trans hbs hb2.size; replace hbw := Below.step hbw hb2; replace hsz := Nat.le_trans hsz hb2.size)
      | (guard_target = wpList _ _ _ (Oper.mk _ (Op.store 60 (.tmp 4) _) _ _ _ none :: _) _ _; refine wpList_store_row rfl 60 _ _ rfl (w.heap.size + 1 + 1) fzc rfl rfl _ _ g4 (by kernel_rfl) rfl (by simp [Value.oneCell']) ?_))
    refine bodyPost_ret (results_ct0 rfl _ _ rfl rfl (load_frm (held_rowSelf g4 fzc) rfl)) rfl ⟨fzc, rfl, rfl, by simp [Value.oneCell'], frm0_at _ _, below_setRow hbw (by omega) _⟩

  | true =>
  cases b2 with
  | false =>
    obtain rfl : G = (frm0, false) := GN.out (.inr hb2)
    clear hb1 hb2
    go_enter Tryz.func23, Tryz.ntmps23
    go_upto_region 1 with (fail)
    generalize (((w.alloc (.cells (pc A n c A2 m c2 p.most) 32)).alloc (.cells (refc r.1 r.2) 36)).alloc (.cells fzc 60)) = W0 at *
    go_wp2_with (first
      | (guard_target = wpList _ _ _ (Oper.mk (some 6) _ _ _ _ none :: _) _ _; refine wpList_load_row rfl 32 _ rfl w.heap.size rfl _ _ _ _ g2 Tryz.underlying32 rfl (by kernel_rfl) ?_)
      | (guard_target = wpList _ _ _ (Oper.mk (some 10) _ _ _ _ _ :: _) _ _; refine wpList_done rfl ?_; refine wpList_load_row rfl 32 _ rfl w.heap.size rfl _ _ _ _ g2 Tryz.underlying32 rfl (by kernel_rfl) ?_)
      | (guard_target = wpList _ _ _ (Oper.mk (some 11) _ _ _ _ _ :: _) _ _; refine wpList_done rfl ?_; refine wpList_load_row rfl 36 _ rfl (w.heap.size + 1) rfl _ _ _ _ g3 Tryz.underlying36 rfl (by kernel_rfl) ?_)
      | (go_at_call 51; (with_reducible refine (MC _ hbs hp).mono ?_); rintro _ u1 ⟨rfl, hb1⟩; replace g2 := Held.below g2 hb1; replace g3 := Held.below g3 hb1; replace g4 := Held.below g4 hb1; replace hp := (hp.below hb1 hbs); replace hbs := Nat.le_trans hbs hb1.size; replace hbw := Below.step hbw hb1; replace hsz := Nat.le_trans hsz hb1.size)
      | (go_at_call 52; (with_reducible refine (HC _ hbs hp).mono ?_); rintro _ u2 ⟨rfl, hb2⟩; replace g2 := Held.below g2 hb2; replace g3 := Held.below g3 hb2; replace g4 := Held.below g4 hb2; replace hp := (hp.below hb2 hbs); replace hbs := Nat.le_trans hbs hb2.size; replace hbw := Below.step hbw hb2; replace hsz := Nat.le_trans hsz hb2.size)
      | (guard_target = wpList _ _ _ (Oper.mk _ (Op.store 60 (.tmp 4) _) _ _ _ none :: _) _ _; refine wpList_store_row rfl 60 _ _ rfl (w.heap.size + 1 + 1) fzc rfl rfl _ _ g4 (by kernel_rfl) rfl (by simp [Value.oneCell']) ?_))
    refine bodyPost_ret (results_ct0 rfl _ _ rfl rfl (load_frm (held_rowSelf g4 fzc) rfl)) rfl ⟨fzc, rfl, rfl, by simp [Value.oneCell'], frm0_at _ _, below_setRow hbw (by omega) _⟩

  | true =>
    obtain ⟨j, hj, hr, hu, rfl⟩ := GY.out hb1 hb2
    have hj0 : (0 : Int) ≤ j := by omega
    have hjn : (j : Int) < n := by have := HN.out; omega
    have hnI : (n : Int) ≤ 100000 := by omega
    have HRR := Lib.hid hr
    clear hb1 hb2 hu hr
    have HF := Lib.hid (HL.out.frm j hj)
    go_enter Tryz.func23, Tryz.ntmps23
    go_upto_region 1 with (fail)
    generalize (((w.alloc (.cells (pc A n c A2 m c2 p.most) 32)).alloc (.cells (refc r.1 r.2) 36)).alloc (.cells fzc 60)) = W0 at *
    go_upto_region 3 with (first
  | (guard_target = wpList _ _ _ (Oper.mk (some 6) _ _ _ _ none :: _) _ _; refine wpList_load_row rfl 32 _ rfl w.heap.size rfl _ _ _ _ g2 Tryz.underlying32 rfl (by kernel_rfl) ?_)
  | (guard_target = wpList _ _ _ (Oper.mk (some 10) _ _ _ _ _ :: _) _ _; refine wpList_done rfl ?_; refine wpList_load_row rfl 32 _ rfl w.heap.size rfl _ _ _ _ g2 Tryz.underlying32 rfl (by kernel_rfl) ?_)
  | (guard_target = wpList _ _ _ (Oper.mk (some 11) _ _ _ _ _ :: _) _ _; refine wpList_done rfl ?_; refine wpList_load_row rfl 36 _ rfl (w.heap.size + 1) rfl _ _ _ _ g3 Tryz.underlying36 rfl (by kernel_rfl) ?_)
  | (go_at_call 51; (with_reducible refine (MC _ hbs hp).mono ?_); rintro _ u1 ⟨rfl, hb1⟩; replace g2 := Held.below g2 hb1; replace g3 := Held.below g3 hb1; replace g4 := Held.below g4 hb1; replace hp := (hp.below hb1 hbs); replace hbs := Nat.le_trans hbs hb1.size; replace hbw := Below.step hbw hb1; replace hsz := Nat.le_trans hsz hb1.size)
  | (go_at_call 52; (with_reducible refine (HC _ hbs hp).mono ?_); rintro _ u2 ⟨rfl, hb2⟩; replace g2 := Held.below g2 hb2; replace g3 := Held.below g3 hb2; replace g4 := Held.below g4 hb2; replace hp := (hp.below hb2 hbs); replace hbs := Nat.le_trans hbs hb2.size; replace hbw := Below.step hbw hb2; replace hsz := Nat.le_trans hsz hb2.size))
    have hr1 : r.1 = (j : Int) := by rw [HRR.out]
    obtain ⟨b, off, rfl, -, cs, s1, ho, hf, -, -, hq, -⟩ := hp.cells.cel hj
    have HO := Lib.hid ho
    have hbz := hB0
    have S1 := Lib.hid s1
    have HQ := Lib.hid hq
    have HFF := Lib.hid hf
    have x0 := g2.cell 0
    have y0 := g3.cell 0
    simp [hr1] at x0 y0
    clear s1 hq hf hr1 MC HC GN GY
    clear ho
    go_wp2_with (first
      | (guard_target = wpList _ _ _ (Oper.mk (some 22) _ _ _ _ none :: _) _ _; refine wpList_load_midA rfl 60 _ rfl b (off + j * 18 + 2) rfl cs _ HQ.out Tryz.underlying60 rfl (by rw [S1.out]; kernel_rfl) ?_)
      | (guard_target = wpList _ _ _ (Oper.mk _ (Op.store 60 (.tmp 4) _) _ _ _ none :: _) _ _; refine wpList_store_row rfl 60 _ _ rfl (w.heap.size + 1 + 1) cs rfl rfl _ _ g4 (by rw [S1.out]; kernel_rfl) (by rw [S1.out]; rfl) HO.out ?_))
    exact bodyPost_ret (results_ct0 rfl _ _ rfl rfl (load_frm (held_rowSelf g4 cs) S1.out)) rfl ⟨cs, rfl, S1.out, HO.out, ((HFF.out.below (C := w.heap.size) (below_setRow (Below.refl _ _) (by omega) _) hbz).more (by have := hbw.size; simp [World.setRow]; omega)), below_setRow hbw (by omega) _⟩
end Go.Proofs.YtjibkgildfjjoaaGreatDoor

