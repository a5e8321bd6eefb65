/- PenOrder. -/
import Derived.Test.YtkpjlobpaippdaaYl
import Derived.Test.YtkpjlobpaippdaaYz
import Derived.Test.YtkpjlobpaippdaaYfl
import Derived.Test.YtkpjlobpaippdaaYq3
import Derived.Deep.DeepCutAuto
import Derived.Deep.CutBlock
namespace Go.Proofs.Ytkpjlobpaippdaa.penOrder
set_option linter.unusedVariables false
set_option linter.unusedSimpArgs false
open Go.RowKit Go.ChangeShapes Go.WideShapes Go.ChangeAt Go.Sort Go.Proofs.Ytkpjlobpaippdaa

theorem lay_split {p S : Zp} {f : Frm} {r : V} {L : List V} (h : LayOk p S f r) (hL : refsZ p = L) : ∃ n1, n1 ≤ L.length ∧ refsZ S = L.take n1 ++ [(r.1, r.2)] ++ L.drop n1 ∧ ∀ k (hk : k < L.length), (L[k].1 < r.1 ↔ k < n1) := by
  obtain ⟨l1, l2, e1, e2, h1, h2⟩ := h.refs
  rw [hL] at e1
  subst e1
  refine ⟨l1.length, by simp, by rw [e2]; simp, fun k hk => ?_⟩
  by_cases hk1 : k < l1.length
  · rw [List.getElem_append_left hk1]
    exact ⟨fun _ => hk1, fun _ => h1 _ (List.getElem_mem _)⟩
  · rw [List.getElem_append_right (by omega)]
    have := h2 _ (List.getElem_mem (show k - l1.length < l2.length by rw [List.length_append] at hk; omega))
    exact ⟨fun h9 => by omega, fun h9 => absurd h9 hk1⟩
theorem drop_split {p : Zp} {L : List V} (h : okZ p = true) (hL : refsZ p = L) {j : Nat} (hj : j < L.length) : ∃ S, dropZ p (L[j].1, L[j].2) = (S, 0) ∧ refsZ S = L.take j ++ L.drop (j + 1) := by
  subst hL
  have hm := (refs_mem h _).1 (List.getElem_mem hj)
  obtain ⟨S, e, hD, -⟩ := drop_ok h hm
  obtain ⟨l1, l2, e1, e2, h1, h2⟩ := hD.refs
  have hs := refsL_sort p.cells 0
  rw [← refsZ_ok h] at hs
  have hsp : refsZ p = (refsZ p).take j ++ (refsZ p)[j] :: (refsZ p).drop (j + 1) := by rw [← List.drop_eq_getElem_cons hj, List.take_append_drop]
  have h9 : ∀ x ∈ (refsZ p).take j, x.1 < (refsZ p)[j].1 := fun x hx => by
    obtain ⟨i, hi, rfl⟩ := List.getElem_of_mem hx
    rw [List.length_take] at hi
    rw [List.getElem_take]
    exact List.pairwise_iff_getElem.1 hs i j (by omega) hj (by omega)
  obtain ⟨q1, q2⟩ := part_eq (e1.symm.trans hsp) h1 h9
  refine ⟨S, e, ?_⟩
  rw [e2, q1, q2]
theorem cap_le {W : World} {B n c : Nat} {A : Option Addr} {l : List V} (h : OwnR W B (.slice A n c) l) : l.length ≤ c := by
  have := h.len
  rcases h.2 with ⟨e, h9⟩ | ⟨g, cap, cur, e, _, _, hle, _⟩
  · simp only [Value.slice.injEq] at e
    omega
  · simp only [Value.slice.injEq] at e
    omega
set_option maxHeartbeats 8000000 in
set_option maxRecDepth 100000 in
theorem walk (CF : ∀ w, Calls Try.prog 11 #[] w fun e w' => e = .returned (.bool true) ∧ Below w.heap.size w w') {A A2 : Option Addr} {p : Zp} {f : Frm} {fs : Array Value} {B : Nat} (c c2 : Nat) (at_ : Int) (w : World) (hp : PAtZ w B A A2 p) (hf : FrmAt w B (.agg fs) f) (hfs : fs.size = 16) (hfn : fs.all (·.oneCell') = true) (hB : B ≤ w.heap.size) (hl1 : p.cells.length ≤ maxLen) (hl2 : p.free.length ≤ maxLen) :
    Calls Try.prog 8 #[pv A p.cells.length c A2 p.free.length c2 p.most, .agg fs, .int .i64 at_] w fun e w' => e = .returned (.bool true) ∧ Below w.heap.size w w' := by
  have hW : Below w.heap.size w ((w.alloc (.cells (pc A p.cells.length c A2 p.free.length c2 p.most) 25)).alloc (.cells fs 35)) := below2 w _ _
  have v3 : PR ((w.alloc (.cells (pc A p.cells.length c A2 p.free.length c2 p.most) 25)).alloc (.cells fs 35)) w.heap.size A c A2 c2 p := ⟨(Held.new w 25 (pc A p.cells.length c A2 p.free.length c2 p.most)).alloc (.cells fs 35), (hp.below hW hB).more (Nat.le_trans hB hW.size)⟩
  have v4 : FV ((w.alloc (.cells (pc A p.cells.length c A2 p.free.length c2 p.most) 25)).alloc (.cells fs 35)) (w.heap.size + 1) fs f := ⟨Held.new1 w (.cells (pc A p.cells.length c A2 p.free.length c2 p.most) 25) 35 fs, hfs, hfn, (hf.below hW hB).more (Nat.le_trans hB hW.size)⟩
  have HL1 := Lib.hid hl1
  have HL2 := Lib.hid hl2
  obtain ⟨b1, hb1⟩ : ∃ b, smZ p 30 = b := ⟨_, rfl⟩
  obtain ⟨b2, hb2⟩ : ∃ b, smB f = b := ⟨_, rfl⟩
  obtain ⟨b4, hb4⟩ : ∃ b, okZ p = b := ⟨_, rfl⟩
  have H1 := Lib.hid hb1
  have H2 := Lib.hid hb2
  have H4 := Lib.hid hb4
  clear hp hf hfs hfn hB hl1 hl2 hb1 hb2 hb4
  go_enter Try.func8, Try.ntmps8
  go_upto_region 1 with (guard_target = wpList _ _ _ (Oper.mk (some 4) _ _ _ _ none :: _) _ _; refine wpList_box_arr rfl 35 _ rfl fs rfl ?_)
  generalize ((w.alloc (.cells (pc A p.cells.length c A2 p.free.length c2 p.most) 25)).alloc (.cells fs 35)) = W0 at *
  cases b1
  case false =>
    go_wp2_with (first
      | (go_at_call 11; (with_reducible refine (CF _).mono ?_); rintro _ uf ⟨rfl, hbf⟩; replace v3 := v3.below hbf; replace v4 := v4.below hbf; replace hW := Below.step hW hbf)
      | (guard_target = wpList _ _ _ (Oper.mk (some 19) _ _ _ _ _ :: _) _ _; refine wpList_done rfl ?_; refine wpList_load_row rfl 25 _ rfl w.heap.size rfl _ _ _ _ v3.x Try.underlying25 rfl (by kernel_rfl) ?_)
      | (go_at_call 9; (with_reducible refine (small_c H1.out HL1.out HL2.out c c2 _ v3.p).mono ?_); rintro _ us ⟨rfl, hbs⟩; replace v3 := v3.below hbs; replace v4 := v4.below hbs; replace hW := Below.step hW hbs)
      | (guard_target = wpList _ _ _ (Oper.mk (some 24) _ _ _ _ _ :: _) _ _; refine wpList_done rfl ?_; refine wpList_load_row rfl 35 _ rfl (w.heap.size + 1) rfl _ _ _ _ v4.x Try.underlying35 rfl (by rw [v4.s]; kernel_rfl) ?_)
      | (go_at_call 10; (with_reducible refine (smallf_c H2.out _ v4.p).mono ?_); rintro _ ut ⟨rfl, hbt⟩; replace v3 := v3.below hbt; replace v4 := v4.below hbt; replace hW := Below.step hW hbt)
      | (guard_target = wpList _ _ _ (Oper.mk (some 29) _ _ _ _ _ :: _) _ _; refine wpList_done rfl ?_; refine wpList_load_row rfl 25 _ rfl w.heap.size rfl _ _ _ _ v3.x Try.underlying25 rfl (by kernel_rfl) ?_)
      | (go_at_call 28; (with_reducible refine (rmay_c H4.out (sm_len H1.out (by decide)) c c2 _ v3.p).mono ?_); rintro _ uk ⟨rfl, hbk⟩; replace v3 := v3.below hbk; replace v4 := v4.below hbk; replace hW := Below.step hW hbk))
    go_ret
    exact ⟨rfl, hW⟩
  case true =>
  cases b2
  case false =>
    go_wp2_with (first
      | (go_at_call 11; (with_reducible refine (CF _).mono ?_); rintro _ uf ⟨rfl, hbf⟩; replace v3 := v3.below hbf; replace v4 := v4.below hbf; replace hW := Below.step hW hbf)
      | (guard_target = wpList _ _ _ (Oper.mk (some 19) _ _ _ _ _ :: _) _ _; refine wpList_done rfl ?_; refine wpList_load_row rfl 25 _ rfl w.heap.size rfl _ _ _ _ v3.x Try.underlying25 rfl (by kernel_rfl) ?_)
      | (go_at_call 9; (with_reducible refine (small_c H1.out HL1.out HL2.out c c2 _ v3.p).mono ?_); rintro _ us ⟨rfl, hbs⟩; replace v3 := v3.below hbs; replace v4 := v4.below hbs; replace hW := Below.step hW hbs)
      | (guard_target = wpList _ _ _ (Oper.mk (some 24) _ _ _ _ _ :: _) _ _; refine wpList_done rfl ?_; refine wpList_load_row rfl 35 _ rfl (w.heap.size + 1) rfl _ _ _ _ v4.x Try.underlying35 rfl (by rw [v4.s]; kernel_rfl) ?_)
      | (go_at_call 10; (with_reducible refine (smallf_c H2.out _ v4.p).mono ?_); rintro _ ut ⟨rfl, hbt⟩; replace v3 := v3.below hbt; replace v4 := v4.below hbt; replace hW := Below.step hW hbt)
      | (guard_target = wpList _ _ _ (Oper.mk (some 29) _ _ _ _ _ :: _) _ _; refine wpList_done rfl ?_; refine wpList_load_row rfl 25 _ rfl w.heap.size rfl _ _ _ _ v3.x Try.underlying25 rfl (by kernel_rfl) ?_)
      | (go_at_call 28; (with_reducible refine (rmay_c H4.out (sm_len H1.out (by decide)) c c2 _ v3.p).mono ?_); rintro _ uk ⟨rfl, hbk⟩; replace v3 := v3.below hbk; replace v4 := v4.below hbk; replace hW := Below.step hW hbk))
    go_ret
    exact ⟨rfl, hW⟩
  case true =>
  cases b4
  case false =>
    go_wp2_with (first
      | (go_at_call 11; (with_reducible refine (CF _).mono ?_); rintro _ uf ⟨rfl, hbf⟩; replace v3 := v3.below hbf; replace v4 := v4.below hbf; replace hW := Below.step hW hbf)
      | (guard_target = wpList _ _ _ (Oper.mk (some 19) _ _ _ _ _ :: _) _ _; refine wpList_done rfl ?_; refine wpList_load_row rfl 25 _ rfl w.heap.size rfl _ _ _ _ v3.x Try.underlying25 rfl (by kernel_rfl) ?_)
      | (go_at_call 9; (with_reducible refine (small_c H1.out HL1.out HL2.out c c2 _ v3.p).mono ?_); rintro _ us ⟨rfl, hbs⟩; replace v3 := v3.below hbs; replace v4 := v4.below hbs; replace hW := Below.step hW hbs)
      | (guard_target = wpList _ _ _ (Oper.mk (some 24) _ _ _ _ _ :: _) _ _; refine wpList_done rfl ?_; refine wpList_load_row rfl 35 _ rfl (w.heap.size + 1) rfl _ _ _ _ v4.x Try.underlying35 rfl (by rw [v4.s]; kernel_rfl) ?_)
      | (go_at_call 10; (with_reducible refine (smallf_c H2.out _ v4.p).mono ?_); rintro _ ut ⟨rfl, hbt⟩; replace v3 := v3.below hbt; replace v4 := v4.below hbt; replace hW := Below.step hW hbt)
      | (guard_target = wpList _ _ _ (Oper.mk (some 29) _ _ _ _ _ :: _) _ _; refine wpList_done rfl ?_; refine wpList_load_row rfl 25 _ rfl w.heap.size rfl _ _ _ _ v3.x Try.underlying25 rfl (by kernel_rfl) ?_)
      | (go_at_call 28; (with_reducible refine (rmay_c H4.out (sm_len H1.out (by decide)) c c2 _ v3.p).mono ?_); rintro _ uk ⟨rfl, hbk⟩; replace v3 := v3.below hbk; replace v4 := v4.below hbk; replace hW := Below.step hW hbk))
    go_ret
    exact ⟨rfl, hW⟩
  case true =>
  have SP : SmP p 30 := by
    have h9 := H1.out
    unfold smZ at h9
    simp only [Bool.and_eq_true, decide_eq_true_eq, List.all_eq_true] at h9
    exact ⟨h9.1.1, h9.1.2, fun x hx => sm_frm (h9.2 x hx)⟩
  have LF := sm_frm H2.out
  have LP := SP.len (by decide)
  obtain ⟨L, hL⟩ : ∃ L, refsZ p = L := ⟨_, rfl⟩
  obtain ⟨⟨SA, r, x⟩, hSA⟩ : ∃ S, layZ p f = S := ⟨_, rfl⟩
  have HLY := Lib.hid (lay_ok H4.out hSA)
  have HSA := Lib.hid hSA
  have HLR := Lib.hid hL
  have PA := lay_sm hSA SP LF
  have LA := PA.len (by decide)
  have hLn : L.length ≤ 30 := by
    rw [← hL, refsZ_ok H4.out]
    have := refsL_len p.cells 0
    have := SP.cells
    omega
  have hLI : ((L.length : Nat) : Int) ≤ 30 := by omega
  have hLI0 : (0 : Int) ≤ ((L.length : Nat) : Int) := by omega
  have HLN := Lib.hid hLn
  have HSP := Lib.hid SP
  clear hSA hL SP PA hLn
  go_upto_region 3 with (first
    | (go_at_call 11; (with_reducible refine (CF _).mono ?_); rintro _ uf ⟨rfl, hbf⟩; replace v3 := v3.below hbf; replace v4 := v4.below hbf; replace hW := Below.step hW hbf)
    | (guard_target = wpList _ _ _ (Oper.mk (some 19) _ _ _ _ _ :: _) _ _; refine wpList_done rfl ?_; refine wpList_load_row rfl 25 _ rfl w.heap.size rfl _ _ _ _ v3.x Try.underlying25 rfl (by kernel_rfl) ?_)
    | (go_at_call 9; (with_reducible refine (small_c H1.out HL1.out HL2.out c c2 _ v3.p).mono ?_); rintro _ us ⟨rfl, hbs⟩; replace v3 := v3.below hbs; replace v4 := v4.below hbs; replace hW := Below.step hW hbs)
    | (guard_target = wpList _ _ _ (Oper.mk (some 24) _ _ _ _ _ :: _) _ _; refine wpList_done rfl ?_; refine wpList_load_row rfl 35 _ rfl (w.heap.size + 1) rfl _ _ _ _ v4.x Try.underlying35 rfl (by rw [v4.s]; kernel_rfl) ?_)
    | (go_at_call 10; (with_reducible refine (smallf_c H2.out _ v4.p).mono ?_); rintro _ ut ⟨rfl, hbt⟩; replace v3 := v3.below hbt; replace v4 := v4.below hbt; replace hW := Below.step hW hbt)
    | (guard_target = wpList _ _ _ (Oper.mk (some 29) _ _ _ _ _ :: _) _ _; refine wpList_done rfl ?_; refine wpList_load_row rfl 25 _ rfl w.heap.size rfl _ _ _ _ v3.x Try.underlying25 rfl (by kernel_rfl) ?_)
    | (go_at_call 28; (with_reducible refine (rmay_c H4.out (sm_len H1.out (by decide)) c c2 _ v3.p).mono ?_); rintro _ uk ⟨rfl, hbk⟩; replace v3 := v3.below hbk; replace v4 := v4.below hbk; replace hW := Below.step hW hbk))
  go_upto_region 4 with (first
    | (guard_target = wpList _ _ _ (Oper.mk (some 34) _ _ _ _ none :: _) _ _; refine wpList_load_row rfl 25 _ rfl w.heap.size rfl _ _ _ _ v3.x Try.underlying25 rfl (by kernel_rfl) ?_)
    | (go_at_call 25; (with_reducible refine (refs_c HLR.out LP c c2 _ v3.p).mono ?_); rintro _ ur ⟨A7, c7, rfl, w7, hbr⟩; replace v3 := v3.below hbr; replace v4 := v4.below hbr; replace hW := Below.step hW hbr; have HCP := Lib.hid (cap_le w7); have pl := own2_at w7; clear w7))
  go_upto_region 5 with (first
    | (guard_target = wpList _ _ _ (Oper.mk (some 37) _ _ _ _ none :: _) _ _; refine wpList_load_row rfl 25 _ rfl w.heap.size rfl _ _ _ _ v3.x Try.underlying25 rfl (by kernel_rfl) ?_)
    | (guard_target = wpList _ _ _ (Oper.mk (some 38) _ _ _ _ none :: _) _ _; refine wpList_load_row rfl 35 _ rfl (w.heap.size + 1) rfl _ _ _ _ v4.x Try.underlying35 rfl (by rw [v4.s]; kernel_rfl) ?_)
    | (go_at_call 12; (with_reducible refine (lay_c HSA.out LP LF c c2 _ v3.p v4.s v4.p).mono ?_); rintro _ u ⟨A8, c8, B8, d8, rfl, ho, hb⟩; have hn := (Held.new u 25 pz0).alloc (.cells (refc 0 0) 27); have hm := Held.new1 u (.cells pz0 25) 27 (refc 0 0))
    | (guard_target = wpList _ _ _ (Oper.mk _ (Op.store 25 (.tmp 8) _) _ _ _ none :: _) _ _; refine wpList_store_row rfl 25 _ _ rfl u.heap.size (pc A8 SA.cells.length c8 B8 SA.free.length d8 SA.most) rfl rfl _ _ hn (by kernel_rfl) rfl (by simp [Value.oneCell']) ?_; have hm2 := held_row hm (Nat.succ_ne_self u.heap.size) (pc A8 SA.cells.length c8 B8 SA.free.length d8 SA.most))
    | (guard_target = wpList _ _ _ (Oper.mk _ (Op.store 27 (.tmp 9) _) _ _ _ none :: _) _ _; refine wpList_store_row rfl 27 _ _ rfl (u.heap.size + 1) (refc r.1 r.2) rfl rfl _ _ hm2 (by kernel_rfl) rfl (by simp [Value.oneCell']) ?_))
  obtain ⟨v8, v9, hbW⟩ := new_p2 (c := c8) (c2 := d8) (P := SA) (x := r.1) (y := r.2) hb ho
  have hs_v8 := hb.size
  have hs_v8r := (show _ < u.heap.size + 1 from Nat.lt_succ_of_le hb.size)
  clear hb ho hn hm hm2
  replace v3 := v3.below hbW
  replace v4 := v4.below hbW
  replace pl := pat_later pl hbW
  replace hW := Below.step hW hbW
  clear hbW
  generalize World.setRow _ (u.heap.size + 1) _ = W4 at *
  generalize u.heap.size + 1 = g8r at *
  generalize u.heap.size = g8 at *
  rcases HLY.out with ⟨rfl, -, -, -⟩ | ⟨rfl, hok⟩
  · go_upto_region 13 with (fail)
    clear v8 v9 v4

    have hcs : (decide (at_ < 0) = true) ∨ (decide (at_ < 0) = false ∧ decide (((L.length : Nat) : Int) ≤ at_) = true) ∨ (decide (at_ < 0) = false ∧ decide (((L.length : Nat) : Int) ≤ at_) = false ∧ 0 ≤ at_ ∧ at_ < ((L.length : Nat) : Int)) := by
      simp only [decide_eq_true_eq, decide_eq_false_iff_not]
      omega
    rcases hcs with e1 | ⟨e1, e2⟩ | ⟨e1, e2, ha0, ha1⟩
    case inl => 
      go_wp2_with fail
      go_ret
      exact ⟨rfl, hW⟩
    case inr.inl =>
      go_wp2_with fail
      go_ret
      exact ⟨rfl, hW⟩
    case inr.inr =>
      go_upto_region 15 with (fail)
      clear e1 e2
      obtain ⟨j, rfl⟩ : ∃ j : Nat, at_ = j := ⟨at_.toNat, by omega⟩
      have hj : j < L.length := by omega
      obtain ⟨SB, hSB, hRB⟩ := drop_split H4.out HLR.out hj
      obtain ⟨j1, hj1⟩ : ∃ z, z = j + 1 := ⟨_, rfl⟩
      rw [← hj1] at hRB
      have HJ1 := Lib.hid hj1
      have LB := (drop_sm hSB HSP.out).len (by decide)
      obtain ⟨b, off, rfl, hbl0, hc7⟩ := pl (by omega)
      obtain ⟨y0, y1⟩ := hc7 j hj
      have HD := Lib.hid hSB
      have HRB := Lib.hid hRB
      have HJ := Lib.hid hj
      clear hSB hRB hc7 hj1
      have hbl : b < W4.heap.size := block_lt_of_cell y0
      generalize L[j] = rj at *
      go_cut [14, 15] from 87 to 112 (fun vb ve wx => ∃ k A14 c14 B14 d14, vb = .pointer (some ⟨k, 0, none⟩) ∧ ve = .int .i64 0 ∧ PV wx k A14 c14 B14 d14 SB ∧ Below W4.heap.size W4 wx)
      case first =>
        have hdr := (Below.refl W4.heap.size W4).drew
        have HDR := Lib.hid hdr
        replace v3 := v3.below hdr
        replace y0 := (hdr.cell (p := ⟨b, _, none⟩) hbl).trans y0
        replace y1 := (hdr.cell (p := ⟨b, _, none⟩) hbl).trans y1
        replace hbl : b < W4.drew.heap.size := hbl
        clear hdr
        refine wp_region_held_drew (S := fun W => Below W4.drew.heap.size W4.drew W) (by kernel_rfl) (Below.refl _ _) (fun hS => ?_)
        generalize W4.drew = Wq at *
        show wpAnyH _ _ _ _ _ 12 #[false, false, false, false, false, false, false, false, false, false, false, false] _ _
        refine wpAnyH_begin (by kernel_rfl) (fun HNS => ?_)
        refine wpAnyH_takeS HNS (i := 0) (v := .agg (pc A p.cells.length c A2 p.free.length c2 p.most)) rfl (by kernel_rfl) (by kernel_rfl) (fun _ _ _ h => h) (Or.inl ⟨by kernel_rfl, fun W hW => ?_⟩) hS ?_
        · (have hz := Held.below v3.x hW; have z0 := hz.cell 0; have z1 := hz.cell 1; have z2 := hz.cell 2; simp at z0 z1 z2; go_simp)
        simp only [Act.put, List.getElem_toArray, List.getElem_cons_succ, List.getElem_cons_zero, List.setIfInBounds_toArray, List.set_cons_zero, List.set_cons_succ]
        refine wpAnyH_takeS HNS (i := 1) (v := .slice (some ⟨b, off, none⟩) L.length c7) rfl (by kernel_rfl) (by kernel_rfl) (fun _ _ _ h => h) (Or.inl ⟨by kernel_rfl, fun W hW => ?_⟩) hS ?_
        · go_simp
        simp only [Act.put, List.getElem_toArray, List.getElem_cons_succ, List.getElem_cons_zero, List.setIfInBounds_toArray, List.set_cons_zero, List.set_cons_succ]
        refine wpAnyH_takeS HNS (i := 2) (v := .int .i64 j) rfl (by kernel_rfl) (by kernel_rfl) (fun _ _ _ h => h) (Or.inl ⟨by kernel_rfl, fun W hW => ?_⟩) hS ?_
        · go_simp
        simp only [Act.put, List.getElem_toArray, List.getElem_cons_succ, List.getElem_cons_zero, List.setIfInBounds_toArray, List.set_cons_zero, List.set_cons_succ]
        refine wpAnyH_takeS HNS (i := 3) (v := .pointer (some ⟨b, off + j * 2, none⟩)) rfl (by kernel_rfl) (by kernel_rfl) (fun _ _ _ h => h) (Or.inl ⟨by kernel_rfl, fun W hW => ?_⟩) hS ?_
        · go_simp
        simp only [Act.put, List.getElem_toArray, List.getElem_cons_succ, List.getElem_cons_zero, List.setIfInBounds_toArray, List.set_cons_zero, List.set_cons_succ]
        refine wpAnyH_takeS HNS (i := 4) (v := .agg #[.int .i64 rj.1, .int .i64 rj.2]) rfl (by kernel_rfl) (by kernel_rfl) (fun _ _ _ h => h) (Or.inl ⟨by kernel_rfl, fun W hW => ?_⟩) hS ?_
        · (have z0 := (hW.cell (p := ⟨b, _, none⟩) hbl).trans y0; have z1 := (hW.cell (p := ⟨b, _, none⟩) hbl).trans y1; go_simp)
        simp only [Act.put, List.getElem_toArray, List.getElem_cons_succ, List.getElem_cons_zero, List.setIfInBounds_toArray, List.set_cons_zero, List.set_cons_succ]
        refine wpAnyH_ready (rs := [5, 9]) (by kernel_rfl) (by simp) ?_
        refine (AllReadyH.cons rfl (fun K hK => ?_) (AllReadyH.cons rfl (fun K hK => ?_) AllReadyH.nil))
        · rw [if_pos (by kernel_rfl)]
          go_simp
          go_at_call 16
          (with_reducible refine (drop_c HD.out LP c c2 _ (v3.below hS).p).mono ?_)
          rintro _ u1 ⟨A1, c1, B1, d1, rfl, ho1, hb1⟩
          replace hS := Below.step hS hb1
          have hoz := OwnZ.mono ho1 (Nat.zero_le _)
          (repeat (first | go_skip | go_guarded | go_step | go_upon))
          refine hK.out _ _ hS (fun _ => ?_)
          clear hK K
          (try simp only [Act.put, List.getElem_toArray, List.getElem_cons_succ, List.getElem_cons_zero, List.setIfInBounds_toArray, List.set_cons_zero, List.set_cons_succ])
          refine wpAnyH_takeS HNS (i := 6) (v := .tuple #[.agg (pc A1 SB.cells.length c1 B1 SB.free.length d1 SB.most), .int .i64 0]) rfl (by kernel_rfl) (by kernel_rfl) (fun _ _ _ h => h) (Or.inl ⟨by kernel_rfl, fun W hW => ?_⟩) hS ?_
          · go_simp
          simp only [Act.put, List.getElem_toArray, List.getElem_cons_succ, List.getElem_cons_zero, List.setIfInBounds_toArray, List.set_cons_zero, List.set_cons_succ]
          refine wpAnyH_takeS HNS (i := 7) (v := .agg (pc A1 SB.cells.length c1 B1 SB.free.length d1 SB.most)) rfl (by kernel_rfl) (by kernel_rfl) (fun _ _ _ h => h) (Or.inl ⟨by kernel_rfl, fun W hW => ?_⟩) hS ?_
          · go_simp
          simp only [Act.put, List.getElem_toArray, List.getElem_cons_succ, List.getElem_cons_zero, List.setIfInBounds_toArray, List.set_cons_zero, List.set_cons_succ]
          refine wpAnyH_takeS HNS (i := 8) (v := .int .i64 0) rfl (by kernel_rfl) (by kernel_rfl) (fun _ _ _ h => h) (Or.inl ⟨by kernel_rfl, fun W hW => ?_⟩) hS ?_
          · go_simp
          simp only [Act.put, List.getElem_toArray, List.getElem_cons_succ, List.getElem_cons_zero, List.setIfInBounds_toArray, List.set_cons_zero, List.set_cons_succ]
          refine wpAnyH_ready (rs := [9]) (by kernel_rfl) (by simp) ?_
          refine (AllReadyH.cons rfl (fun K hK => ?_) AllReadyH.nil)
          · rw [if_pos (by kernel_rfl)]
            refine wp_alloc_R 25 rfl pz0 (by kernel_rfl) ?_
            have hbA := ((Below.refl _ _).alloc (Nat.le_refl _) _ : Below u1.heap.size u1 (u1.alloc (.cells pz0 25)))
            replace hoz := OwnZ.below hoz hbA
            have hfr := Held.new u1 25 pz0
            have lhfr := hS.size
            replace hS := Below.step hS hbA
            clear hbA
            generalize u1.alloc (.cells pz0 25) = Wd2 at *
            refine hK.out _ _ hS (fun _ => ?_)
            clear hK K
            (try simp only [Act.put, List.getElem_toArray, List.getElem_cons_succ, List.getElem_cons_zero, List.setIfInBounds_toArray, List.set_cons_zero, List.set_cons_succ])
            refine wpAnyH_ready (rs := [10]) (by kernel_rfl) (by simp) ?_
            refine (AllReadyH.cons rfl (fun K hK => ?_) AllReadyH.nil)
            · rw [if_pos (by kernel_rfl)]
              refine wp_store_row 25 _ _ rfl _ (pc A1 SB.cells.length c1 B1 SB.free.length d1 SB.most) (by rfl) (by rfl) _ _ hfr (by kernel_rfl) (by rfl) (by simp [Value.oneCell']) ?_
              have hpv := over_p hfr hoz
              replace hS := below_setRow hS lhfr (pc A1 SB.cells.length c1 B1 SB.free.length d1 SB.most)
              clear hoz hfr
              generalize World.setRow _ _ (pc A1 SB.cells.length c1 B1 SB.free.length d1 SB.most) = Wst at *
              refine hK.out _ _ hS (fun _ => ?_)
              clear hK K
              (try simp only [Act.put, List.getElem_toArray, List.getElem_cons_succ, List.getElem_cons_zero, List.setIfInBounds_toArray, List.set_cons_zero, List.set_cons_succ])
              refine wpAnyH_takeS HNS (i := 11) (v := .int .i64 0) rfl (by kernel_rfl) (by kernel_rfl) (fun _ _ _ h => h) (Or.inl ⟨by kernel_rfl, fun W hW => ?_⟩) hS ?_
              · go_simp
              simp only [Act.put, List.getElem_toArray, List.getElem_cons_succ, List.getElem_cons_zero, List.setIfInBounds_toArray, List.set_cons_zero, List.set_cons_succ]
              refine wpAnyH_done (by kernel_rfl) ?_ _
              go_wp2_with fail
              go_meet
              case rel => exact ⟨_, _, _, _, _, rfl, rfl, hpv, Below.step HDR.out hS⟩
        · rw [if_pos (by kernel_rfl)]
          refine wp_alloc_R 25 rfl pz0 (by kernel_rfl) ?_
          have hbA := ((Below.refl _ _).alloc (Nat.le_refl _) _ : Below Wq.heap.size Wq (Wq.alloc (.cells pz0 25)))
          have hfr := Held.new Wq 25 pz0
          have lhfr := hS.size
          replace hS := Below.step hS hbA
          clear hbA
          generalize Wq.alloc (.cells pz0 25) = Wd3 at *
          refine hK.out _ _ hS (fun _ => ?_)
          clear hK K
          (try simp only [Act.put, List.getElem_toArray, List.getElem_cons_succ, List.getElem_cons_zero, List.setIfInBounds_toArray, List.set_cons_zero, List.set_cons_succ])
          refine wpAnyH_ready (rs := [5]) (by kernel_rfl) (by simp) ?_
          refine (AllReadyH.cons rfl (fun K hK => ?_) AllReadyH.nil)
          · rw [if_pos (by kernel_rfl)]
            go_simp
            go_at_call 16
            (with_reducible refine (drop_c HD.out LP c c2 _ (v3.below hS).p).mono ?_)
            rintro _ u4 ⟨A4, c4, B4, d4, rfl, ho4, hb4⟩
            replace hfr := Held.below hfr hb4
            replace hS := Below.step hS hb4
            have hoz := OwnZ.mono ho4 (Nat.zero_le _)
            (repeat (first | go_skip | go_guarded | go_step | go_upon))
            refine hK.out _ _ hS (fun _ => ?_)
            clear hK K
            (try simp only [Act.put, List.getElem_toArray, List.getElem_cons_succ, List.getElem_cons_zero, List.setIfInBounds_toArray, List.set_cons_zero, List.set_cons_succ])
            refine wpAnyH_takeS HNS (i := 6) (v := .tuple #[.agg (pc A4 SB.cells.length c4 B4 SB.free.length d4 SB.most), .int .i64 0]) rfl (by kernel_rfl) (by kernel_rfl) (fun _ _ _ h => h) (Or.inl ⟨by kernel_rfl, fun W hW => ?_⟩) hS ?_
            · go_simp
            simp only [Act.put, List.getElem_toArray, List.getElem_cons_succ, List.getElem_cons_zero, List.setIfInBounds_toArray, List.set_cons_zero, List.set_cons_succ]
            refine wpAnyH_takeS HNS (i := 7) (v := .agg (pc A4 SB.cells.length c4 B4 SB.free.length d4 SB.most)) rfl (by kernel_rfl) (by kernel_rfl) (fun _ _ _ h => h) (Or.inl ⟨by kernel_rfl, fun W hW => ?_⟩) hS ?_
            · go_simp
            simp only [Act.put, List.getElem_toArray, List.getElem_cons_succ, List.getElem_cons_zero, List.setIfInBounds_toArray, List.set_cons_zero, List.set_cons_succ]
            refine wpAnyH_takeS HNS (i := 8) (v := .int .i64 0) rfl (by kernel_rfl) (by kernel_rfl) (fun _ _ _ h => h) (Or.inl ⟨by kernel_rfl, fun W hW => ?_⟩) hS ?_
            · go_simp
            simp only [Act.put, List.getElem_toArray, List.getElem_cons_succ, List.getElem_cons_zero, List.setIfInBounds_toArray, List.set_cons_zero, List.set_cons_succ]
            refine wpAnyH_ready (rs := [10]) (by kernel_rfl) (by simp) ?_
            refine (AllReadyH.cons rfl (fun K hK => ?_) AllReadyH.nil)
            · rw [if_pos (by kernel_rfl)]
              refine wp_store_row 25 _ _ rfl _ (pc A4 SB.cells.length c4 B4 SB.free.length d4 SB.most) (by rfl) (by rfl) _ _ hfr (by kernel_rfl) (by rfl) (by simp [Value.oneCell']) ?_
              have hpv := over_p hfr hoz
              replace hS := below_setRow hS lhfr (pc A4 SB.cells.length c4 B4 SB.free.length d4 SB.most)
              clear hoz hfr
              generalize World.setRow _ _ (pc A4 SB.cells.length c4 B4 SB.free.length d4 SB.most) = Wst at *
              refine hK.out _ _ hS (fun _ => ?_)
              clear hK K
              (try simp only [Act.put, List.getElem_toArray, List.getElem_cons_succ, List.getElem_cons_zero, List.setIfInBounds_toArray, List.set_cons_zero, List.set_cons_succ])
              refine wpAnyH_takeS HNS (i := 11) (v := .int .i64 0) rfl (by kernel_rfl) (by kernel_rfl) (fun _ _ _ h => h) (Or.inl ⟨by kernel_rfl, fun W hW => ?_⟩) hS ?_
              · go_simp
              simp only [Act.put, List.getElem_toArray, List.getElem_cons_succ, List.getElem_cons_zero, List.setIfInBounds_toArray, List.set_cons_zero, List.set_cons_succ]
              refine wpAnyH_done (by kernel_rfl) ?_ _
              go_wp2_with fail
              go_meet
              case rel => exact ⟨_, _, _, _, _, rfl, rfl, hpv, Below.step HDR.out hS⟩
      case rest =>
        obtain ⟨k14, A14, c14, B14, d14, rfl, rfl, v14, hwc⟩ := hcut
        replace pl := pat_later pl hwc
        replace hW := Below.step hW hwc
        clear hwc y0 y1 hbl hbl0 v3
        go_upto_region 16 with (fail)
        have hdr := (Below.refl wc.heap.size wc).drew
        replace pl := pat_later pl hdr
        replace v14 := v14.below hdr
        replace hW := Below.step hW hdr
        clear hdr
        refine wp_region_held_drew (S := fun W => Below wc.drew.heap.size wc.drew W) (by kernel_rfl) (Below.refl _ _) (fun hS => ?_)
        generalize wc.drew = W13 at *
        show wpAnyH _ _ _ _ _ 18 #[false, false, false, false, false, false, false, false, false, false, false, false, false, false, false, false, false, false] _ _
        refine wpAnyH_begin (by kernel_rfl) (fun HNS => ?_)
        have C1 := fun W => run_cut_head (some ⟨b, off, none⟩) L.length c7 j (by have := HCP.out; have := HJ.out; omega) W
        have C2 := fun W => run_cut_tail (some ⟨b, off, none⟩) L.length c7 j1 (by have := HJ.out; have := HJ1.out; omega) W
        have HK1 := Lib.hid (show (L.take j).length = j by rw [List.length_take]; have := HJ.out; omega)
        have HK2 := Lib.hid (show (L.drop j1).length = L.length - j1 by rw [List.length_drop])
        obtain ⟨nB, hnB⟩ : ∃ n, (refsZ SB).length = n := ⟨_, rfl⟩
        have HNB := Lib.hid (show nB ≤ 100000 by rw [← hnB, HRB.out, List.length_append, HK1.out, HK2.out]; have := HLN.out; omega)
        have HRL := Lib.hid (show (L.take j ++ L.drop j1).length = nB by rw [← hnB, HRB.out])
        have hcR : ∀ (W : World) (hp : PAtZ W W.heap.size A14 B14 SB), Calls Try.prog 25 #[pv A14 SB.cells.length c14 B14 SB.free.length d14 SB.most] W fun e w' => ∃ A' c', e = .returned (.slice A' nB c') ∧ OwnR w' W.heap.size (.slice A' nB c') (L.take j ++ L.drop j1) ∧ Below W.heap.size W w' := fun W hp => by
          have h9 := refs_c HRB.out LB c14 d14 W hp
          rw [HRL.out] at h9
          exact h9
        have HCR := Lib.hid hcR
        clear hnB hcR
        refine wpAnyH_takeS HNS (i := 0) (v := .int .i64 0) rfl (by kernel_rfl) (by kernel_rfl) (fun _ _ _ h => h) (Or.inl ⟨by kernel_rfl, fun W hW => ?_⟩) hS ?_
        · go_simp
        simp only [Act.put, List.getElem_toArray, List.getElem_cons_succ, List.getElem_cons_zero, List.setIfInBounds_toArray, List.set_cons_zero, List.set_cons_succ]
        refine wpAnyH_takeS HNS (i := 1) (v := .bool true) rfl (by kernel_rfl) (by kernel_rfl) (fun _ _ _ h => h) (Or.inl ⟨by kernel_rfl, fun W hW => ?_⟩) hS ?_
        · go_simp
        simp only [Act.put, List.getElem_toArray, List.getElem_cons_succ, List.getElem_cons_zero, List.setIfInBounds_toArray, List.set_cons_zero, List.set_cons_succ]
        refine wpAnyH_takeS HNS (i := 2) (v := .bool true) rfl (by kernel_rfl) (by kernel_rfl) (fun _ _ _ h => h) (Or.inl ⟨by kernel_rfl, fun W hW => ?_⟩) hS ?_
        · go_simp
        simp only [Act.put, List.getElem_toArray, List.getElem_cons_succ, List.getElem_cons_zero, List.setIfInBounds_toArray, List.set_cons_zero, List.set_cons_succ]
        refine wpAnyH_takeS HNS (i := 3) (v := .agg (pc A14 SB.cells.length c14 B14 SB.free.length d14 SB.most)) rfl (by kernel_rfl) (by kernel_rfl) (fun _ _ _ h => h) (Or.inl ⟨by kernel_rfl, fun W hW => ?_⟩) hS ?_
        · (have hz := Held.below v14.x hW; have z0 := hz.cell 0; have z1 := hz.cell 1; have z2 := hz.cell 2; simp at z0 z1 z2; go_simp)
        simp only [Act.put, List.getElem_toArray, List.getElem_cons_succ, List.getElem_cons_zero, List.setIfInBounds_toArray, List.set_cons_zero, List.set_cons_succ]
        refine wpAnyH_takeS HNS (i := 6) (v := .slice (some ⟨b, off, none⟩) L.length c7) rfl (by kernel_rfl) (by kernel_rfl) (fun _ _ _ h => h) (Or.inl ⟨by kernel_rfl, fun W hW => ?_⟩) hS ?_
        · go_simp
        simp only [Act.put, List.getElem_toArray, List.getElem_cons_succ, List.getElem_cons_zero, List.setIfInBounds_toArray, List.set_cons_zero, List.set_cons_succ]
        refine wpAnyH_takeS HNS (i := 7) (v := .int .i64 j) rfl (by kernel_rfl) (by kernel_rfl) (fun _ _ _ h => h) (Or.inl ⟨by kernel_rfl, fun W hW => ?_⟩) hS ?_
        · go_simp
        simp only [Act.put, List.getElem_toArray, List.getElem_cons_succ, List.getElem_cons_zero, List.setIfInBounds_toArray, List.set_cons_zero, List.set_cons_succ]
        refine wpAnyH_takeS HNS (i := 8) (v := .slice (cutA (some ⟨b, off, none⟩) c7 0) j c7) rfl (by kernel_rfl) (by kernel_rfl) (fun _ _ _ h => h) (Or.inl ⟨by kernel_rfl, fun W hW => ?_⟩) hS ?_
        · (simp only [execOp, Act.eval]; go_simp)
        simp only [Act.put, List.getElem_toArray, List.getElem_cons_succ, List.getElem_cons_zero, List.setIfInBounds_toArray, List.set_cons_zero, List.set_cons_succ]
        refine wpAnyH_takeS HNS (i := 10) (v := .slice (some ⟨b, off, none⟩) L.length c7) rfl (by kernel_rfl) (by kernel_rfl) (fun _ _ _ h => h) (Or.inl ⟨by kernel_rfl, fun W hW => ?_⟩) hS ?_
        · go_simp
        simp only [Act.put, List.getElem_toArray, List.getElem_cons_succ, List.getElem_cons_zero, List.setIfInBounds_toArray, List.set_cons_zero, List.set_cons_succ]
        refine wpAnyH_takeS HNS (i := 11) (v := .int .i64 j) rfl (by kernel_rfl) (by kernel_rfl) (fun _ _ _ h => h) (Or.inl ⟨by kernel_rfl, fun W hW => ?_⟩) hS ?_
        · go_simp
        simp only [Act.put, List.getElem_toArray, List.getElem_cons_succ, List.getElem_cons_zero, List.setIfInBounds_toArray, List.set_cons_zero, List.set_cons_succ]
        refine wpAnyH_takeS HNS (i := 12) (v := .int .i64 (j1 : Int)) rfl (by kernel_rfl) (by kernel_rfl) (fun _ _ _ h => h) (Or.inl ⟨by kernel_rfl, fun W hW => ?_⟩) hS ?_
        · (have hwr : IntKind.i64.wrap ((j : Int) + 1) = (j1 : Int) := (by rw [IntKind.wrap_i64]; have := HJ.out; have := HJ1.out; have := HLN.out; omega); go_simp)
        simp only [Act.put, List.getElem_toArray, List.getElem_cons_succ, List.getElem_cons_zero, List.setIfInBounds_toArray, List.set_cons_zero, List.set_cons_succ]
        refine wpAnyH_takeS HNS (i := 13) (v := .slice (cutA (some ⟨b, off, none⟩) c7 j1) (L.length - j1) (c7 - j1)) rfl (by kernel_rfl) (by kernel_rfl) (fun _ _ _ h => h) (Or.inl ⟨by kernel_rfl, fun W hW => ?_⟩) hS ?_
        · (simp only [execOp, Act.eval]; go_simp)
        simp only [Act.put, List.getElem_toArray, List.getElem_cons_succ, List.getElem_cons_zero, List.setIfInBounds_toArray, List.set_cons_zero, List.set_cons_succ]
        refine wpAnyH_ready (rs := [4, 5]) (by kernel_rfl) (by simp) ?_
        refine (AllReadyH.cons rfl (fun K hK => ?_) (AllReadyH.cons rfl (fun K hK => ?_) AllReadyH.nil))
        · rw [if_pos (by kernel_rfl)]
          go_simp
          go_at_call 25
          refine (HCR.out _ (v14.below hS).p).mono ?_
          rintro _ u1 ⟨AR, cR, rfl, wR, hb1⟩
          have hR := patb_own wR
          have hHi := Nat.le_refl u1.heap.size
          clear wR
          obtain ⟨lo, hlo⟩ : ∃ z, z = W13.heap.size := ⟨_, rfl⟩
          obtain ⟨hi, hhi⟩ : ∃ z, z = u1.heap.size := ⟨_, rfl⟩
          rw [← hlo, ← hhi] at hR
          replace hHi : hi ≤ u1.heap.size := Nat.le_of_eq hhi
          clear hlo hhi
          replace hS := Below.step hS hb1
          clear hb1
          (repeat (first | go_skip | go_guarded | go_step | go_upon))
          refine hK.out _ _ hS (fun _ => ?_)
          clear hK K
          (try simp only [Act.put, List.getElem_toArray, List.getElem_cons_succ, List.getElem_cons_zero, List.setIfInBounds_toArray, List.set_cons_zero, List.set_cons_succ])
          refine wpAnyH_ready (rs := [5]) (by kernel_rfl) (by simp) ?_
          refine (AllReadyH.cons rfl (fun K hK => ?_) AllReadyH.nil)
          · rw [if_pos (by kernel_rfl)]
            refine wp_build0R rfl ?_
            have hbA := ((Below.refl _ _).alloc (Nat.le_refl _) _ : Below u1.heap.size u1 (u1.alloc (.cells #[] 27)))
            have hX0 : OwnR (u1.alloc (.cells #[] 27)) u1.heap.size (.slice (some ⟨u1.heap.size, 0, none⟩) 0 0) [] := Own2.made 27 u1
            have hX := (r_mono hX0 hS.size : OwnR (u1.alloc (.cells #[] 27)) W13.heap.size (.slice (some ⟨u1.heap.size, 0, none⟩) 0 0) [])
            have APX : Apart (.slice (some ⟨u1.heap.size, 0, none⟩) 0 0) lo hi := fun g e => .inr (Nat.le_trans hHi (hX0.lt g e).1)
            replace hR := patb_below hR hbA hHi
            replace hHi := Nat.le_trans hHi hbA.size
            clear hX0
            replace hS := Below.step hS hbA
            clear hbA
            generalize (u1.alloc (.cells #[] 27)) = u2 at *
            refine hK.out _ _ hS (fun _ => ?_)
            clear hK K
            (try simp only [Act.put, List.getElem_toArray, List.getElem_cons_succ, List.getElem_cons_zero, List.setIfInBounds_toArray, List.set_cons_zero, List.set_cons_succ])
            refine wpAnyH_ready (rs := [9]) (by kernel_rfl) (by simp) ?_
            refine (AllReadyH.cons rfl (fun K hK => ?_) AllReadyH.nil)
            · rw [if_pos (by kernel_rfl)]
              refine wp_append_rb (.tmp 101) (.tmp 104) rfl W13.heap.size (l := []) (k := L.take j) (n := j) rfl hX HK1.out rfl (cut_head (pat_later pl hS) HCP.out j) (by have := HJ.out; have := HJ1.out; have := HLN.out; omega) hS.size lo hi APX hHi ?_
              clear hX APX
              intro Aa3 ca3 u3 hX hb3 APX hM
              replace hR := patb_mid hR hM
              replace hHi := Nat.le_trans hHi hM.1
              clear hM
              replace hS := Below.trans hS hb3
              clear hb3
              obtain ⟨nX3, hn3⟩ : ∃ z, z = 0 + j := ⟨_, rfl⟩
              rw [← hn3] at hX APX ⊢
              have HN3 := Lib.hid hn3
              clear hn3
              refine hK.out _ _ hS (fun _ => ?_)
              clear hK K
              (try simp only [Act.put, List.getElem_toArray, List.getElem_cons_succ, List.getElem_cons_zero, List.setIfInBounds_toArray, List.set_cons_zero, List.set_cons_succ])
              refine wpAnyH_ready (rs := [14]) (by kernel_rfl) (by simp) ?_
              refine (AllReadyH.cons rfl (fun K hK => ?_) AllReadyH.nil)
              · rw [if_pos (by kernel_rfl)]
                refine wp_append_rb (.tmp 105) (.tmp 109) rfl W13.heap.size (l := [] ++ L.take j) (k := L.drop j1) (n := (L.length - j1)) rfl hX HK2.out rfl (cut_tail (pat_later pl hS) HCP.out j1) (by have := HJ.out; have := HJ1.out; have := HLN.out; have := HN3.out; omega) hS.size lo hi APX hHi ?_
                clear hX APX
                intro Aa4 ca4 u4 hX hb4 APX hM
                replace hR := patb_mid hR hM
                replace hHi := Nat.le_trans hHi hM.1
                clear hM
                replace hS := Below.trans hS hb4
                clear hb4
                obtain ⟨nX4, hn4⟩ : ∃ z, z = nX3 + (L.length - j1) := ⟨_, rfl⟩
                rw [← hn4] at hX APX ⊢
                have HN4 := Lib.hid hn4
                clear hn4
                refine hK.out _ _ hS (fun _ => ?_)
                clear hK K
                (try simp only [Act.put, List.getElem_toArray, List.getElem_cons_succ, List.getElem_cons_zero, List.setIfInBounds_toArray, List.set_cons_zero, List.set_cons_succ])
                refine wpAnyH_ready (rs := [15]) (by kernel_rfl) (by simp) ?_
                refine (AllReadyH.cons rfl (fun K hK => ?_) AllReadyH.nil)
                · rw [if_pos (by kernel_rfl)]
                  have hnn : ([] ++ L.take j ++ L.drop j1).length = nX4 := by have := HN3.out; have := HN4.out; simp only [List.length_append, List.length_nil, HK1.out, HK2.out]; omega
                  have hn5 : nX4 ≤ 100000 := by have := HN3.out; have := HN4.out; have := HLN.out; have := HJ.out; have := HJ1.out; omega
                  go_simp
                  go_at_call 24
                  refine (rrefs_l (l := L.take j ++ L.drop j1) (k := [] ++ L.take j ++ L.drop j1) (R := true) (by simp) HRL.out hnn HNB.out hn5 _ _ _ (patb_at hR hHi) (own2_at hX)).mono ?_
                  rintro _ u5 ⟨rfl, hb5⟩
                  replace hS := Below.step hS hb5
                  clear hR hHi hX APX hnn hn5 hb5
                  (repeat (first | go_skip | go_guarded | go_step | go_upon))
                  refine hK.out _ _ hS (fun _ => ?_)
                  clear hK K
                  (try simp only [Act.put, List.getElem_toArray, List.getElem_cons_succ, List.getElem_cons_zero, List.setIfInBounds_toArray, List.set_cons_zero, List.set_cons_succ])
                  refine wpAnyH_takeS HNS (i := 16) (v := .bool true) rfl (by kernel_rfl) (by kernel_rfl) (fun _ _ _ h => h) (Or.inl ⟨by kernel_rfl, fun W hW => ?_⟩) hS ?_
                  · go_simp
                  simp only [Act.put, List.getElem_toArray, List.getElem_cons_succ, List.getElem_cons_zero, List.setIfInBounds_toArray, List.set_cons_zero, List.set_cons_succ]
                  refine wpAnyH_takeS HNS (i := 17) (v := .bool true) rfl (by kernel_rfl) (by kernel_rfl) (fun _ _ _ h => h) (Or.inl ⟨by kernel_rfl, fun W hW => ?_⟩) hS ?_
                  · go_simp
                  simp only [Act.put, List.getElem_toArray, List.getElem_cons_succ, List.getElem_cons_zero, List.setIfInBounds_toArray, List.set_cons_zero, List.set_cons_succ]
                  refine wpAnyH_done (by kernel_rfl) ?_ _
                  (repeat (first | go_skip | go_guarded | go_step | go_upon))
                  go_ret
                  exact ⟨rfl, Below.step hW hS⟩
        · rw [if_pos (by kernel_rfl)]
          refine wp_build0R rfl ?_
          have hbA := ((Below.refl _ _).alloc (Nat.le_refl _) _ : Below W13.heap.size W13 (W13.alloc (.cells #[] 27)))
          have hX0 : OwnR (W13.alloc (.cells #[] 27)) W13.heap.size (.slice (some ⟨W13.heap.size, 0, none⟩) 0 0) [] := Own2.made 27 W13
          have hX := (r_mono hX0 hS.size : OwnR (W13.alloc (.cells #[] 27)) W13.heap.size (.slice (some ⟨W13.heap.size, 0, none⟩) 0 0) [])
          clear hX0
          replace hS := Below.step hS hbA
          clear hbA
          generalize (W13.alloc (.cells #[] 27)) = u6 at *
          refine hK.out _ _ hS (fun _ => ?_)
          clear hK K
          (try simp only [Act.put, List.getElem_toArray, List.getElem_cons_succ, List.getElem_cons_zero, List.setIfInBounds_toArray, List.set_cons_zero, List.set_cons_succ])
          refine wpAnyH_ready (rs := [4]) (by kernel_rfl) (by simp) ?_
          refine (AllReadyH.cons rfl (fun K hK => ?_) AllReadyH.nil)
          · rw [if_pos (by kernel_rfl)]
            go_simp
            go_at_call 25
            refine (HCR.out _ (v14.below hS).p).mono ?_
            rintro _ u7 ⟨AR, cR, rfl, wR, hb7⟩
            have APX : Apart (.slice (some ⟨W13.heap.size, 0, none⟩) 0 0) u6.heap.size u7.heap.size := fun g e => .inl (hX.lt g e).2
            replace hX := own_later hX hb7
            have hR := patb_own wR
            have hHi := Nat.le_refl u7.heap.size
            clear wR
            obtain ⟨lo, hlo⟩ : ∃ z, z = u6.heap.size := ⟨_, rfl⟩
            obtain ⟨hi, hhi⟩ : ∃ z, z = u7.heap.size := ⟨_, rfl⟩
            rw [← hlo, ← hhi] at hR
            rw [← hlo, ← hhi] at APX
            replace hHi : hi ≤ u7.heap.size := Nat.le_of_eq hhi
            clear hlo hhi
            replace hS := Below.step hS hb7
            clear hb7
            (repeat (first | go_skip | go_guarded | go_step | go_upon))
            refine hK.out _ _ hS (fun _ => ?_)
            clear hK K
            (try simp only [Act.put, List.getElem_toArray, List.getElem_cons_succ, List.getElem_cons_zero, List.setIfInBounds_toArray, List.set_cons_zero, List.set_cons_succ])
            refine wpAnyH_ready (rs := [9]) (by kernel_rfl) (by simp) ?_
            refine (AllReadyH.cons rfl (fun K hK => ?_) AllReadyH.nil)
            · rw [if_pos (by kernel_rfl)]
              refine wp_append_rb (.tmp 101) (.tmp 104) rfl W13.heap.size (l := []) (k := L.take j) (n := j) rfl hX HK1.out rfl (cut_head (pat_later pl hS) HCP.out j) (by have := HJ.out; have := HJ1.out; have := HLN.out; omega) hS.size lo hi APX hHi ?_
              clear hX APX
              intro Aa8 ca8 u8 hX hb8 APX hM
              replace hR := patb_mid hR hM
              replace hHi := Nat.le_trans hHi hM.1
              clear hM
              replace hS := Below.trans hS hb8
              clear hb8
              obtain ⟨nX8, hn8⟩ : ∃ z, z = 0 + j := ⟨_, rfl⟩
              rw [← hn8] at hX APX ⊢
              have HN8 := Lib.hid hn8
              clear hn8
              refine hK.out _ _ hS (fun _ => ?_)
              clear hK K
              (try simp only [Act.put, List.getElem_toArray, List.getElem_cons_succ, List.getElem_cons_zero, List.setIfInBounds_toArray, List.set_cons_zero, List.set_cons_succ])
              refine wpAnyH_ready (rs := [14]) (by kernel_rfl) (by simp) ?_
              refine (AllReadyH.cons rfl (fun K hK => ?_) AllReadyH.nil)
              · rw [if_pos (by kernel_rfl)]
                refine wp_append_rb (.tmp 105) (.tmp 109) rfl W13.heap.size (l := [] ++ L.take j) (k := L.drop j1) (n := (L.length - j1)) rfl hX HK2.out rfl (cut_tail (pat_later pl hS) HCP.out j1) (by have := HJ.out; have := HJ1.out; have := HLN.out; have := HN8.out; omega) hS.size lo hi APX hHi ?_
                clear hX APX
                intro Aa9 ca9 u9 hX hb9 APX hM
                replace hR := patb_mid hR hM
                replace hHi := Nat.le_trans hHi hM.1
                clear hM
                replace hS := Below.trans hS hb9
                clear hb9
                obtain ⟨nX9, hn9⟩ : ∃ z, z = nX8 + (L.length - j1) := ⟨_, rfl⟩
                rw [← hn9] at hX APX ⊢
                have HN9 := Lib.hid hn9
                clear hn9
                refine hK.out _ _ hS (fun _ => ?_)
                clear hK K
                (try simp only [Act.put, List.getElem_toArray, List.getElem_cons_succ, List.getElem_cons_zero, List.setIfInBounds_toArray, List.set_cons_zero, List.set_cons_succ])
                refine wpAnyH_ready (rs := [15]) (by kernel_rfl) (by simp) ?_
                refine (AllReadyH.cons rfl (fun K hK => ?_) AllReadyH.nil)
                · rw [if_pos (by kernel_rfl)]
                  have hnn : ([] ++ L.take j ++ L.drop j1).length = nX9 := by have := HN8.out; have := HN9.out; simp only [List.length_append, List.length_nil, HK1.out, HK2.out]; omega
                  have hn5 : nX9 ≤ 100000 := by have := HN8.out; have := HN9.out; have := HLN.out; have := HJ.out; have := HJ1.out; omega
                  go_simp
                  go_at_call 24
                  refine (rrefs_l (l := L.take j ++ L.drop j1) (k := [] ++ L.take j ++ L.drop j1) (R := true) (by simp) HRL.out hnn HNB.out hn5 _ _ _ (patb_at hR hHi) (own2_at hX)).mono ?_
                  rintro _ u10 ⟨rfl, hb10⟩
                  replace hS := Below.step hS hb10
                  clear hR hHi hX APX hnn hn5 hb10
                  (repeat (first | go_skip | go_guarded | go_step | go_upon))
                  refine hK.out _ _ hS (fun _ => ?_)
                  clear hK K
                  (try simp only [Act.put, List.getElem_toArray, List.getElem_cons_succ, List.getElem_cons_zero, List.setIfInBounds_toArray, List.set_cons_zero, List.set_cons_succ])
                  refine wpAnyH_takeS HNS (i := 16) (v := .bool true) rfl (by kernel_rfl) (by kernel_rfl) (fun _ _ _ h => h) (Or.inl ⟨by kernel_rfl, fun W hW => ?_⟩) hS ?_
                  · go_simp
                  simp only [Act.put, List.getElem_toArray, List.getElem_cons_succ, List.getElem_cons_zero, List.setIfInBounds_toArray, List.set_cons_zero, List.set_cons_succ]
                  refine wpAnyH_takeS HNS (i := 17) (v := .bool true) rfl (by kernel_rfl) (by kernel_rfl) (fun _ _ _ h => h) (Or.inl ⟨by kernel_rfl, fun W hW => ?_⟩) hS ?_
                  · go_simp
                  simp only [Act.put, List.getElem_toArray, List.getElem_cons_succ, List.getElem_cons_zero, List.setIfInBounds_toArray, List.set_cons_zero, List.set_cons_succ]
                  refine wpAnyH_done (by kernel_rfl) ?_ _
                  (repeat (first | go_skip | go_guarded | go_step | go_upon))
                  go_ret
                  exact ⟨rfl, Below.step hW hS⟩
  · obtain ⟨n1, hn1, hRA, hat⟩ := lay_split hok HLR.out
    obtain ⟨RA, hRA0⟩ : ∃ l, refsZ SA = l := ⟨_, rfl⟩
    rw [hRA0] at hRA
    have HN1 := Lib.hid hn1
    have HRA := Lib.hid hRA0
    have HRE := Lib.hid hRA
    have HAT := Lib.hid hat
    clear hn1 hRA hRA0 hat hok
    go_upto_region 7 with (first
      | (guard_target = wpList _ _ _ (Oper.mk (some 45) _ _ _ _ none :: _) _ _; refine wpList_load_row rfl 25 _ rfl g8 rfl _ _ _ _ v8.x Try.underlying25 rfl (by kernel_rfl) ?_)
      | (go_at_call 25; (with_reducible refine (refs_c HRA.out LA _ _ _ v8.p).mono ?_); rintro _ um ⟨A11, c11, rfl, w11, hbm⟩; replace v3 := v3.below hbm; replace v4 := v4.below hbm; replace pl := pat_later pl hbm; replace v9 := Held.below v9 hbm; replace v8 := v8.below hbm; replace hW := Below.step hW hbm; have pm := own2_at w11; clear w11))
    clear v8 v4
    have HAL := Lib.hid (show (L.take n1 ++ [(r.1, r.2)] ++ L.drop n1).length = RA.length by rw [HRE.out])
    have HNA := Lib.hid (show RA.length ≤ 100000 by rw [← HAL.out]; simp only [List.length_append, List.length_take, List.length_drop, List.length_cons, List.length_nil]; have := HLN.out; omega)
    have HV := Lib.hid (And.intro v3 (And.intro v9 (And.intro pl (And.intro pm hW))))
    clear v3 v9 pl pm hW
    obtain ⟨W7, hW7⟩ : ∃ W, W = um := ⟨_, rfl⟩
    rw [← hW7] at HV ⊢
    clear hW7
    go_upto_region 8 with (fail)
    go_loopw [12] (fun iv W => ∃ k : Nat, iv = .int .i64 k ∧ k ≤ n1 ∧ Below W7.heap.size W7 W) (fun iv _ => n1 - (intOf iv).toNat)
    case atStart => exact ⟨0, rfl, by omega, Below.refl _ _⟩
    case round =>
      obtain ⟨k, rfl, hk, hw⟩ := hrel
      have hk0 : (0 : Int) ≤ k := by omega
      obtain ⟨v3, v9, pl, pm, hW⟩ := HV.out
      replace v3 := v3.below hw
      replace v9 := Held.below v9 hw
      replace pl := pat_later pl hw
      replace pm := pat_later pm hw
      replace hW := Below.step hW hw
      have HWR := Lib.hid hw
      have hkL : k ≤ L.length := by have := HN1.out; omega
      clear hw
      by_cases hlt : k < L.length
      · by_cases hqn : k < n1
        · have hltI : (k : Int) < ((L.length : Nat) : Int) := by omega
          obtain ⟨b, off, eA, -, hc7⟩ := pl (by omega)
          obtain ⟨y0, -⟩ := hc7 k hlt
          have hbl : b < wr.heap.size := block_lt_of_cell y0
          have hq : decide (L[k].1 < r.1) = true := decide_eq_true ((HAT.out k hlt).2 hqn)
          generalize L[k] = rk at *
          subst eA
          clear hc7
          go_upto_region 8 with (fail)
          have hdr := (Below.refl wr.heap.size wr).drew
          replace v3 := v3.below hdr
          replace v9 := Held.below v9 hdr
          replace pl := pat_later pl hdr
          replace pm := pat_later pm hdr
          replace hW := Below.step hW hdr
          have HWD := Lib.hid (Below.step HWR.out hdr)
          replace y0 := (hdr.cell (p := ⟨b, _, none⟩) hbl).trans y0
          replace hbl : b < wr.drew.heap.size := hbl
          clear hdr
          have HV2 := Lib.hid (And.intro v3 (And.intro v9 (And.intro pl (And.intro pm hW))))
          clear v3 pl pm hW
          refine wp_region_held_drew (S := fun W => Below wr.drew.heap.size wr.drew W) (by kernel_rfl) (Below.refl _ _) (fun hS => ?_)
          generalize wr.drew = W8 at *
          show wpAnyH _ _ _ _ _ 14 #[false, false, false, false, false, false, false, false, false, false, false, false, false, false] _ _
          refine wpAnyH_begin (by kernel_rfl) (fun HNS => ?_)
          refine wpAnyH_takeS HNS (i := 0) (v := .int .i64 k) rfl (by kernel_rfl) (by kernel_rfl) (fun _ _ _ h => h) (Or.inl ⟨by kernel_rfl, fun W hW => ?_⟩) hS ?_
          · go_simp
          simp only [Act.put, List.getElem_toArray, List.getElem_cons_succ, List.getElem_cons_zero, List.setIfInBounds_toArray, List.set_cons_zero, List.set_cons_succ]
          refine wpAnyH_takeS HNS (i := 1) (v := .slice (some ⟨b, off, none⟩) L.length c7) rfl (by kernel_rfl) (by kernel_rfl) (fun _ _ _ h => h) (Or.inl ⟨by kernel_rfl, fun W hW => ?_⟩) hS ?_
          · go_simp
          simp only [Act.put, List.getElem_toArray, List.getElem_cons_succ, List.getElem_cons_zero, List.setIfInBounds_toArray, List.set_cons_zero, List.set_cons_succ]
          refine wpAnyH_takeS HNS (i := 2) (v := .int .i64 (L.length : Nat)) rfl (by kernel_rfl) (by kernel_rfl) (fun _ _ _ h => h) (Or.inl ⟨by kernel_rfl, fun W hW => ?_⟩) hS ?_
          · go_simp
          simp only [Act.put, List.getElem_toArray, List.getElem_cons_succ, List.getElem_cons_zero, List.setIfInBounds_toArray, List.set_cons_zero, List.set_cons_succ]
          refine wpAnyH_takeS HNS (i := 3) (v := .bool true) rfl (by kernel_rfl) (by kernel_rfl) (fun _ _ _ h => h) (Or.inl ⟨by kernel_rfl, fun W hW => ?_⟩) hS ?_
          · go_simp
          simp only [Act.put, List.getElem_toArray, List.getElem_cons_succ, List.getElem_cons_zero, List.setIfInBounds_toArray, List.set_cons_zero, List.set_cons_succ]
          refine wpAnyH_takeS HNS (i := 4) (v := .bool true) rfl (by kernel_rfl) (by kernel_rfl) (fun _ _ _ h => h) (Or.inl ⟨by kernel_rfl, fun W hW => ?_⟩) hS ?_
          · go_simp
          simp only [Act.put, List.getElem_toArray, List.getElem_cons_succ, List.getElem_cons_zero, List.setIfInBounds_toArray, List.set_cons_zero, List.set_cons_succ]
          refine wpAnyH_takeS HNS (i := 5) (v := .slice (some ⟨b, off, none⟩) L.length c7) rfl (by kernel_rfl) (by kernel_rfl) (fun _ _ _ h => h) (Or.inl ⟨by kernel_rfl, fun W hW => ?_⟩) hS ?_
          · go_simp
          simp only [Act.put, List.getElem_toArray, List.getElem_cons_succ, List.getElem_cons_zero, List.setIfInBounds_toArray, List.set_cons_zero, List.set_cons_succ]
          refine wpAnyH_takeS HNS (i := 6) (v := .int .i64 k) rfl (by kernel_rfl) (by kernel_rfl) (fun _ _ _ h => h) (Or.inl ⟨by kernel_rfl, fun W hW => ?_⟩) hS ?_
          · go_simp
          simp only [Act.put, List.getElem_toArray, List.getElem_cons_succ, List.getElem_cons_zero, List.setIfInBounds_toArray, List.set_cons_zero, List.set_cons_succ]
          refine wpAnyH_takeS HNS (i := 7) (v := .pointer (some ⟨b, off + k * 2, none⟩)) rfl (by kernel_rfl) (by kernel_rfl) (fun _ _ _ h => h) (Or.inl ⟨by kernel_rfl, fun W hW => ?_⟩) hS ?_
          · go_simp
          simp only [Act.put, List.getElem_toArray, List.getElem_cons_succ, List.getElem_cons_zero, List.setIfInBounds_toArray, List.set_cons_zero, List.set_cons_succ]
          refine wpAnyH_takeS HNS (i := 8) (v := .pointer (some ⟨b, off + k * 2, none⟩)) rfl (by kernel_rfl) (by kernel_rfl) (fun _ _ _ h => h) (Or.inl ⟨by kernel_rfl, fun W hW => ?_⟩) hS ?_
          · go_simp
          simp only [Act.put, List.getElem_toArray, List.getElem_cons_succ, List.getElem_cons_zero, List.setIfInBounds_toArray, List.set_cons_zero, List.set_cons_succ]
          refine wpAnyH_takeS HNS (i := 9) (v := .int .i64 rk.1) rfl (by kernel_rfl) (by kernel_rfl) (fun _ _ _ h => h) (Or.inl ⟨by kernel_rfl, fun W hW => ?_⟩) hS ?_
          · (have z0 := (hW.cell (p := ⟨b, _, none⟩) hbl).trans y0; go_simp)
          simp only [Act.put, List.getElem_toArray, List.getElem_cons_succ, List.getElem_cons_zero, List.setIfInBounds_toArray, List.set_cons_zero, List.set_cons_succ]
          refine wpAnyH_takeS HNS (i := 10) (v := .pointer (some ⟨g8r, 0, none⟩)) rfl (by kernel_rfl) (by kernel_rfl) (fun _ _ _ h => h) (Or.inl ⟨by kernel_rfl, fun W hW => ?_⟩) hS ?_
          · go_simp
          simp only [Act.put, List.getElem_toArray, List.getElem_cons_succ, List.getElem_cons_zero, List.setIfInBounds_toArray, List.set_cons_zero, List.set_cons_succ]
          refine wpAnyH_takeS HNS (i := 11) (v := .int .i64 r.1) rfl (by kernel_rfl) (by kernel_rfl) (fun _ _ _ h => h) (Or.inl ⟨by kernel_rfl, fun W hW => ?_⟩) hS ?_
          · (have hz := Held.below v9 hW; have z0 := hz.cell 0; simp at z0; go_simp)
          simp only [Act.put, List.getElem_toArray, List.getElem_cons_succ, List.getElem_cons_zero, List.setIfInBounds_toArray, List.set_cons_zero, List.set_cons_succ]
          refine wpAnyH_takeS HNS (i := 12) (v := .bool true) rfl (by kernel_rfl) (by kernel_rfl) (fun _ _ _ h => h) (Or.inl ⟨by kernel_rfl, fun W hW => ?_⟩) hS ?_
          · go_simp
          simp only [Act.put, List.getElem_toArray, List.getElem_cons_succ, List.getElem_cons_zero, List.setIfInBounds_toArray, List.set_cons_zero, List.set_cons_succ]
          refine wpAnyH_takeS HNS (i := 13) (v := .bool true) rfl (by kernel_rfl) (by kernel_rfl) (fun _ _ _ h => h) (Or.inl ⟨by kernel_rfl, fun W hW => ?_⟩) hS ?_
          · go_simp
          simp only [Act.put, List.getElem_toArray, List.getElem_cons_succ, List.getElem_cons_zero, List.setIfInBounds_toArray, List.set_cons_zero, List.set_cons_succ]
          refine wpAnyH_done (by kernel_rfl) ?_ _
          clear HV2
          have hkI : (k : Int) ≤ 30 := by have := HLN.out; have := HN1.out; omega
          go_wp2_with fail
          go_roundw
          case rel => exact ⟨k + 1, by go_num, by omega, HWD.out⟩
          case measure => simp [intOf]; omega
        · have hltI : (k : Int) < ((L.length : Nat) : Int) := by omega
          obtain ⟨b, off, eA, -, hc7⟩ := pl (by omega)
          obtain ⟨y0, -⟩ := hc7 k hlt
          have hbl : b < wr.heap.size := block_lt_of_cell y0
          have hq : decide (L[k].1 < r.1) = false := decide_eq_false (fun h9 => hqn ((HAT.out k hlt).1 h9))
          generalize L[k] = rk at *
          subst eA
          clear hc7
          go_upto_region 8 with (fail)
          have hdr := (Below.refl wr.heap.size wr).drew
          replace v3 := v3.below hdr
          replace v9 := Held.below v9 hdr
          replace pl := pat_later pl hdr
          replace pm := pat_later pm hdr
          replace hW := Below.step hW hdr
          have HWD := Lib.hid (Below.step HWR.out hdr)
          replace y0 := (hdr.cell (p := ⟨b, _, none⟩) hbl).trans y0
          replace hbl : b < wr.drew.heap.size := hbl
          clear hdr
          have HV2 := Lib.hid (And.intro v3 (And.intro v9 (And.intro pl (And.intro pm hW))))
          clear v3 pl pm hW
          refine wp_region_held_drew (S := fun W => Below wr.drew.heap.size wr.drew W) (by kernel_rfl) (Below.refl _ _) (fun hS => ?_)
          generalize wr.drew = W8 at *
          show wpAnyH _ _ _ _ _ 14 #[false, false, false, false, false, false, false, false, false, false, false, false, false, false] _ _
          refine wpAnyH_begin (by kernel_rfl) (fun HNS => ?_)
          refine wpAnyH_takeS HNS (i := 0) (v := .int .i64 k) rfl (by kernel_rfl) (by kernel_rfl) (fun _ _ _ h => h) (Or.inl ⟨by kernel_rfl, fun W hW => ?_⟩) hS ?_
          · go_simp
          simp only [Act.put, List.getElem_toArray, List.getElem_cons_succ, List.getElem_cons_zero, List.setIfInBounds_toArray, List.set_cons_zero, List.set_cons_succ]
          refine wpAnyH_takeS HNS (i := 1) (v := .slice (some ⟨b, off, none⟩) L.length c7) rfl (by kernel_rfl) (by kernel_rfl) (fun _ _ _ h => h) (Or.inl ⟨by kernel_rfl, fun W hW => ?_⟩) hS ?_
          · go_simp
          simp only [Act.put, List.getElem_toArray, List.getElem_cons_succ, List.getElem_cons_zero, List.setIfInBounds_toArray, List.set_cons_zero, List.set_cons_succ]
          refine wpAnyH_takeS HNS (i := 2) (v := .int .i64 (L.length : Nat)) rfl (by kernel_rfl) (by kernel_rfl) (fun _ _ _ h => h) (Or.inl ⟨by kernel_rfl, fun W hW => ?_⟩) hS ?_
          · go_simp
          simp only [Act.put, List.getElem_toArray, List.getElem_cons_succ, List.getElem_cons_zero, List.setIfInBounds_toArray, List.set_cons_zero, List.set_cons_succ]
          refine wpAnyH_takeS HNS (i := 3) (v := .bool true) rfl (by kernel_rfl) (by kernel_rfl) (fun _ _ _ h => h) (Or.inl ⟨by kernel_rfl, fun W hW => ?_⟩) hS ?_
          · go_simp
          simp only [Act.put, List.getElem_toArray, List.getElem_cons_succ, List.getElem_cons_zero, List.setIfInBounds_toArray, List.set_cons_zero, List.set_cons_succ]
          refine wpAnyH_takeS HNS (i := 4) (v := .bool true) rfl (by kernel_rfl) (by kernel_rfl) (fun _ _ _ h => h) (Or.inl ⟨by kernel_rfl, fun W hW => ?_⟩) hS ?_
          · go_simp
          simp only [Act.put, List.getElem_toArray, List.getElem_cons_succ, List.getElem_cons_zero, List.setIfInBounds_toArray, List.set_cons_zero, List.set_cons_succ]
          refine wpAnyH_takeS HNS (i := 5) (v := .slice (some ⟨b, off, none⟩) L.length c7) rfl (by kernel_rfl) (by kernel_rfl) (fun _ _ _ h => h) (Or.inl ⟨by kernel_rfl, fun W hW => ?_⟩) hS ?_
          · go_simp
          simp only [Act.put, List.getElem_toArray, List.getElem_cons_succ, List.getElem_cons_zero, List.setIfInBounds_toArray, List.set_cons_zero, List.set_cons_succ]
          refine wpAnyH_takeS HNS (i := 6) (v := .int .i64 k) rfl (by kernel_rfl) (by kernel_rfl) (fun _ _ _ h => h) (Or.inl ⟨by kernel_rfl, fun W hW => ?_⟩) hS ?_
          · go_simp
          simp only [Act.put, List.getElem_toArray, List.getElem_cons_succ, List.getElem_cons_zero, List.setIfInBounds_toArray, List.set_cons_zero, List.set_cons_succ]
          refine wpAnyH_takeS HNS (i := 7) (v := .pointer (some ⟨b, off + k * 2, none⟩)) rfl (by kernel_rfl) (by kernel_rfl) (fun _ _ _ h => h) (Or.inl ⟨by kernel_rfl, fun W hW => ?_⟩) hS ?_
          · go_simp
          simp only [Act.put, List.getElem_toArray, List.getElem_cons_succ, List.getElem_cons_zero, List.setIfInBounds_toArray, List.set_cons_zero, List.set_cons_succ]
          refine wpAnyH_takeS HNS (i := 8) (v := .pointer (some ⟨b, off + k * 2, none⟩)) rfl (by kernel_rfl) (by kernel_rfl) (fun _ _ _ h => h) (Or.inl ⟨by kernel_rfl, fun W hW => ?_⟩) hS ?_
          · go_simp
          simp only [Act.put, List.getElem_toArray, List.getElem_cons_succ, List.getElem_cons_zero, List.setIfInBounds_toArray, List.set_cons_zero, List.set_cons_succ]
          refine wpAnyH_takeS HNS (i := 9) (v := .int .i64 rk.1) rfl (by kernel_rfl) (by kernel_rfl) (fun _ _ _ h => h) (Or.inl ⟨by kernel_rfl, fun W hW => ?_⟩) hS ?_
          · (have z0 := (hW.cell (p := ⟨b, _, none⟩) hbl).trans y0; go_simp)
          simp only [Act.put, List.getElem_toArray, List.getElem_cons_succ, List.getElem_cons_zero, List.setIfInBounds_toArray, List.set_cons_zero, List.set_cons_succ]
          refine wpAnyH_takeS HNS (i := 10) (v := .pointer (some ⟨g8r, 0, none⟩)) rfl (by kernel_rfl) (by kernel_rfl) (fun _ _ _ h => h) (Or.inl ⟨by kernel_rfl, fun W hW => ?_⟩) hS ?_
          · go_simp
          simp only [Act.put, List.getElem_toArray, List.getElem_cons_succ, List.getElem_cons_zero, List.setIfInBounds_toArray, List.set_cons_zero, List.set_cons_succ]
          refine wpAnyH_takeS HNS (i := 11) (v := .int .i64 r.1) rfl (by kernel_rfl) (by kernel_rfl) (fun _ _ _ h => h) (Or.inl ⟨by kernel_rfl, fun W hW => ?_⟩) hS ?_
          · (have hz := Held.below v9 hW; have z0 := hz.cell 0; simp at z0; go_simp)
          simp only [Act.put, List.getElem_toArray, List.getElem_cons_succ, List.getElem_cons_zero, List.setIfInBounds_toArray, List.set_cons_zero, List.set_cons_succ]
          refine wpAnyH_takeS HNS (i := 12) (v := .bool false) rfl (by kernel_rfl) (by kernel_rfl) (fun _ _ _ h => h) (Or.inl ⟨by kernel_rfl, fun W hW => ?_⟩) hS ?_
          · go_simp
          simp only [Act.put, List.getElem_toArray, List.getElem_cons_succ, List.getElem_cons_zero, List.setIfInBounds_toArray, List.set_cons_zero, List.set_cons_succ]
          refine wpAnyH_takeS HNS (i := 13) (v := .bool false) rfl (by kernel_rfl) (by kernel_rfl) (fun _ _ _ h => h) (Or.inl ⟨by kernel_rfl, fun W hW => ?_⟩) hS ?_
          · go_simp
          simp only [Act.put, List.getElem_toArray, List.getElem_cons_succ, List.getElem_cons_zero, List.setIfInBounds_toArray, List.set_cons_zero, List.set_cons_succ]
          refine wpAnyH_done (by kernel_rfl) ?_ _
          obtain rfl : k = n1 := by have := HN1.out; omega
          have HCX := Lib.hid hkL
          clear hlt hltI v9 HWD HWR HV y0 hbl hq hqn
          obtain ⟨v3, v9, pl, pm, hW⟩ := HV2.out
          clear HV2
          go_upto_region 10 with (fail)
          go_cut [13] from 63 to 74 (fun v wx => ∃ Aw cw, v = .slice Aw RA.length cw ∧ PAt wx wx.heap.size Aw (L.take k ++ [(r.1, r.2)] ++ L.drop k) ∧ Below W8.heap.size W8 wx)
          case first =>
            have hdr := (Below.refl W8.heap.size W8).drew
            have HDR := Lib.hid hdr
            replace v9 := Held.below v9 hdr
            replace pl := pat_later pl hdr
            clear hdr pm v3 hW
            refine wp_region_held_drew (S := fun W => Below W8.drew.heap.size W8.drew W) (by kernel_rfl) (Below.refl _ _) (fun hS => ?_)
            generalize W8.drew = W10 at *
            show wpAnyH _ _ _ _ _ 13 #[false, false, false, false, false, false, false, false, false, false, false, false, false] _ _
            refine wpAnyH_begin (by kernel_rfl) (fun HNS => ?_)
            have C1 := fun W => run_cut_head (some ⟨b, off, none⟩) L.length c7 k (by have := HCP.out; have := HCX.out; omega) W
            have C2 := fun W => run_cut_tail (some ⟨b, off, none⟩) L.length c7 k HCX.out W
            have HK1 := Lib.hid (show (L.take k).length = k by rw [List.length_take]; have := HCX.out; omega)
            have HK2 := Lib.hid (show (L.drop k).length = L.length - k by rw [List.length_drop])
            refine wpAnyH_takeS HNS (i := 1) (v := .slice (some ⟨b, off, none⟩) L.length c7) rfl (by kernel_rfl) (by kernel_rfl) (fun _ _ _ h => h) (Or.inl ⟨by kernel_rfl, fun W hW => ?_⟩) hS ?_
            · go_simp
            simp only [Act.put, List.getElem_toArray, List.getElem_cons_succ, List.getElem_cons_zero, List.setIfInBounds_toArray, List.set_cons_zero, List.set_cons_succ]
            refine wpAnyH_takeS HNS (i := 2) (v := .int .i64 k) rfl (by kernel_rfl) (by kernel_rfl) (fun _ _ _ h => h) (Or.inl ⟨by kernel_rfl, fun W hW => ?_⟩) hS ?_
            · go_simp
            simp only [Act.put, List.getElem_toArray, List.getElem_cons_succ, List.getElem_cons_zero, List.setIfInBounds_toArray, List.set_cons_zero, List.set_cons_succ]
            refine wpAnyH_takeS HNS (i := 3) (v := .slice (cutA (some ⟨b, off, none⟩) c7 0) k c7) rfl (by kernel_rfl) (by kernel_rfl) (fun _ _ _ h => h) (Or.inl ⟨by kernel_rfl, fun W hW => ?_⟩) hS ?_
            · (simp only [execOp, Act.eval]; go_simp)
            simp only [Act.put, List.getElem_toArray, List.getElem_cons_succ, List.getElem_cons_zero, List.setIfInBounds_toArray, List.set_cons_zero, List.set_cons_succ]
            refine wpAnyH_takeS HNS (i := 5) (v := .agg #[.int .i64 r.1, .int .i64 r.2]) rfl (by kernel_rfl) (by kernel_rfl) (fun _ _ _ h => h) (Or.inl ⟨by kernel_rfl, fun W hW => ?_⟩) hS ?_
            · (have hz := Held.below v9 hW; have z0 := hz.cell 0; have z1 := hz.cell 1; simp at z0 z1; go_simp)
            simp only [Act.put, List.getElem_toArray, List.getElem_cons_succ, List.getElem_cons_zero, List.setIfInBounds_toArray, List.set_cons_zero, List.set_cons_succ]
            refine wpAnyH_takeS HNS (i := 8) (v := .slice (some ⟨b, off, none⟩) L.length c7) rfl (by kernel_rfl) (by kernel_rfl) (fun _ _ _ h => h) (Or.inl ⟨by kernel_rfl, fun W hW => ?_⟩) hS ?_
            · go_simp
            simp only [Act.put, List.getElem_toArray, List.getElem_cons_succ, List.getElem_cons_zero, List.setIfInBounds_toArray, List.set_cons_zero, List.set_cons_succ]
            refine wpAnyH_takeS HNS (i := 9) (v := .int .i64 k) rfl (by kernel_rfl) (by kernel_rfl) (fun _ _ _ h => h) (Or.inl ⟨by kernel_rfl, fun W hW => ?_⟩) hS ?_
            · go_simp
            simp only [Act.put, List.getElem_toArray, List.getElem_cons_succ, List.getElem_cons_zero, List.setIfInBounds_toArray, List.set_cons_zero, List.set_cons_succ]
            refine wpAnyH_takeS HNS (i := 10) (v := .slice (cutA (some ⟨b, off, none⟩) c7 k) (L.length - k) (c7 - k)) rfl (by kernel_rfl) (by kernel_rfl) (fun _ _ _ h => h) (Or.inl ⟨by kernel_rfl, fun W hW => ?_⟩) hS ?_
            · (simp only [execOp, Act.eval]; go_simp)
            simp only [Act.put, List.getElem_toArray, List.getElem_cons_succ, List.getElem_cons_zero, List.setIfInBounds_toArray, List.set_cons_zero, List.set_cons_succ]
            refine wpAnyH_ready (rs := [0, 6]) (by kernel_rfl) (by simp) ?_
            refine (AllReadyH.cons rfl (fun K hK => ?_) (AllReadyH.cons rfl (fun K hK => ?_) AllReadyH.nil))
            · rw [if_pos (by kernel_rfl)]
              refine wp_build0R rfl ?_
              have hbA := ((Below.refl _ _).alloc (Nat.le_refl _) _ : Below W10.heap.size W10 (W10.alloc (.cells #[] 27)))
              have hX0 : OwnR (W10.alloc (.cells #[] 27)) W10.heap.size (.slice (some ⟨W10.heap.size, 0, none⟩) 0 0) [] := Own2.made 27 W10
              have hX := (r_mono hX0 hS.size : OwnR (W10.alloc (.cells #[] 27)) W10.heap.size (.slice (some ⟨W10.heap.size, 0, none⟩) 0 0) [])
              clear hX0
              replace hS := Below.step hS hbA
              clear hbA
              generalize (W10.alloc (.cells #[] 27)) = u11 at *
              refine hK.out _ _ hS (fun _ => ?_)
              clear hK K
              (try simp only [Act.put, List.getElem_toArray, List.getElem_cons_succ, List.getElem_cons_zero, List.setIfInBounds_toArray, List.set_cons_zero, List.set_cons_succ])
              refine wpAnyH_ready (rs := [4, 6]) (by kernel_rfl) (by simp) ?_
              refine (AllReadyH.cons rfl (fun K hK => ?_) (AllReadyH.cons rfl (fun K hK => ?_) AllReadyH.nil))
              · rw [if_pos (by kernel_rfl)]
                refine wp_append_rb (.tmp 63) (.tmp 66) rfl W10.heap.size (l := []) (k := L.take k) (n := k) rfl hX HK1.out rfl (cut_head (pat_later pl hS) HCP.out k) (by have := HCX.out; have := HLN.out; omega) hS.size 0 0 (apart0 _) (Nat.zero_le _) ?_
                clear hX
                intro Aa12 ca12 u12 hX hb12 APX hM
                clear APX
                clear hM
                replace hS := Below.trans hS hb12
                clear hb12
                obtain ⟨nX12, hn12⟩ : ∃ z, z = 0 + k := ⟨_, rfl⟩
                rw [← hn12] at hX ⊢
                have HN12 := Lib.hid hn12
                clear hn12
                refine hK.out _ _ hS (fun _ => ?_)
                clear hK K
                (try simp only [Act.put, List.getElem_toArray, List.getElem_cons_succ, List.getElem_cons_zero, List.setIfInBounds_toArray, List.set_cons_zero, List.set_cons_succ])
                refine wpAnyH_ready (rs := [6]) (by kernel_rfl) (by simp) ?_
                refine (AllReadyH.cons rfl (fun K hK => ?_) AllReadyH.nil)
                · rw [if_pos (by kernel_rfl)]
                  refine wp_build1R rfl rfl ?_
                  have hbA := ((Below.refl _ _).alloc (Nat.le_refl _) _ : Below u12.heap.size u12 (u12.alloc (.cells #[.int .i64 r.1, .int .i64 r.2] 27)))
                  have APX : Apart (.slice Aa12 nX12 ca12) u12.heap.size (u12.heap.size + 1) := fun g e => .inl (hX.lt g e).2
                  replace hX := own_later hX hbA
                  have hR := (patb_one r.1 r.2 : PAtB (u12.alloc (.cells #[.int .i64 r.1, .int .i64 r.2] 27)) u12.heap.size (u12.heap.size + 1) _ _)
                  have hHi := (patb_one_hi r.1 r.2 : u12.heap.size + 1 ≤ (u12.alloc (.cells #[.int .i64 r.1, .int .i64 r.2] 27)).heap.size)
                  replace hS := Below.step hS hbA
                  clear hbA
                  generalize (u12.alloc (.cells #[.int .i64 r.1, .int .i64 r.2] 27)) = u13 at *
                  obtain ⟨gO, hgO⟩ : ∃ z, z = u12.heap.size := ⟨_, rfl⟩
                  rw [← hgO] at hR hHi ⊢
                  rw [← hgO] at APX
                  clear hgO
                  obtain ⟨lo, hlo⟩ : ∃ z, z = gO := ⟨_, rfl⟩
                  obtain ⟨hi, hhi⟩ : ∃ z, z = gO + 1 := ⟨_, rfl⟩
                  rw [← hhi] at hR hHi APX
                  rw [show PAtB u13 gO hi = PAtB u13 lo hi by rw [hlo]] at hR
                  rw [← hlo] at APX
                  clear hlo hhi
                  refine hK.out _ _ hS (fun _ => ?_)
                  clear hK K
                  (try simp only [Act.put, List.getElem_toArray, List.getElem_cons_succ, List.getElem_cons_zero, List.setIfInBounds_toArray, List.set_cons_zero, List.set_cons_succ])
                  refine wpAnyH_ready (rs := [7]) (by kernel_rfl) (by simp) ?_
                  refine (AllReadyH.cons rfl (fun K hK => ?_) AllReadyH.nil)
                  · rw [if_pos (by kernel_rfl)]
                    refine wp_append_rb (.tmp 67) (.tmp 69) rfl W10.heap.size (l := [] ++ L.take k) (k := [(r.1, r.2)]) (n := 1) rfl hX rfl rfl (patb_at hR hHi) (by have := HN12.out; have := HCX.out; have := HLN.out; omega) hS.size 0 0 (apart0 _) (Nat.zero_le _) ?_
                    clear hX APX
                    intro Aa14 ca14 u14 hX hb14 APX hM
                    clear hR hHi
                    clear APX
                    clear hM
                    replace hS := Below.trans hS hb14
                    clear hb14
                    obtain ⟨nX14, hn14⟩ : ∃ z, z = nX12 + 1 := ⟨_, rfl⟩
                    rw [← hn14] at hX ⊢
                    have HN14 := Lib.hid hn14
                    clear hn14
                    refine hK.out _ _ hS (fun _ => ?_)
                    clear hK K
                    (try simp only [Act.put, List.getElem_toArray, List.getElem_cons_succ, List.getElem_cons_zero, List.setIfInBounds_toArray, List.set_cons_zero, List.set_cons_succ])
                    refine wpAnyH_ready (rs := [11]) (by kernel_rfl) (by simp) ?_
                    refine (AllReadyH.cons rfl (fun K hK => ?_) AllReadyH.nil)
                    · rw [if_pos (by kernel_rfl)]
                      refine wp_append_rb (.tmp 70) (.tmp 73) rfl W10.heap.size (l := [] ++ L.take k ++ [(r.1, r.2)]) (k := L.drop k) (n := (L.length - k)) rfl hX HK2.out rfl (cut_tail (pat_later pl hS) HCP.out k) (by have := HN14.out; have := HN12.out; have := HCX.out; have := HLN.out; omega) hS.size 0 0 (apart0 _) (Nat.zero_le _) ?_
                      clear hX
                      intro Aa15 ca15 u15 hX hb15 APX hM
                      clear APX
                      clear hM
                      replace hS := Below.trans hS hb15
                      clear hb15
                      obtain ⟨nX15, hn15⟩ : ∃ z, z = nX14 + (L.length - k) := ⟨_, rfl⟩
                      rw [← hn15] at hX ⊢
                      have HN15 := Lib.hid hn15
                      clear hn15
                      refine hK.out _ _ hS (fun _ => ?_)
                      clear hK K
                      (try simp only [Act.put, List.getElem_toArray, List.getElem_cons_succ, List.getElem_cons_zero, List.setIfInBounds_toArray, List.set_cons_zero, List.set_cons_succ])
                      refine wpAnyH_takeS HNS (i := 12) (v := .slice Aa15 nX15 ca15) rfl (by kernel_rfl) (by kernel_rfl) (fun _ _ _ h => h) (Or.inl ⟨by kernel_rfl, fun W hW => ?_⟩) hS ?_
                      · go_simp
                      simp only [Act.put, List.getElem_toArray, List.getElem_cons_succ, List.getElem_cons_zero, List.setIfInBounds_toArray, List.set_cons_zero, List.set_cons_succ]
                      refine wpAnyH_done (by kernel_rfl) ?_ _
                      have hnn : nX15 = RA.length := by
                        have q1 := HN12.out
                        have q2 := HN14.out
                        have q3 := HN15.out
                        rw [← HAL.out]
                        simp only [List.length_append, List.length_cons, List.length_nil, HK1.out, HK2.out]
                        omega
                      rw [hnn] at hX ⊢
                      have hpX := own2_at hX
                      rw [List.nil_append] at hpX
                      go_wp2_with fail
                      go_meet
                      case rel => exact ⟨_, _, rfl, hpX, Below.step HDR.out hS⟩
              · rw [if_pos (by kernel_rfl)]
                refine wp_build1R rfl rfl ?_
                have hbA := ((Below.refl _ _).alloc (Nat.le_refl _) _ : Below u11.heap.size u11 (u11.alloc (.cells #[.int .i64 r.1, .int .i64 r.2] 27)))
                have APX : Apart (.slice (some ⟨W10.heap.size, 0, none⟩) 0 0) u11.heap.size (u11.heap.size + 1) := fun g e => .inl (hX.lt g e).2
                replace hX := own_later hX hbA
                have hR := (patb_one r.1 r.2 : PAtB (u11.alloc (.cells #[.int .i64 r.1, .int .i64 r.2] 27)) u11.heap.size (u11.heap.size + 1) _ _)
                have hHi := (patb_one_hi r.1 r.2 : u11.heap.size + 1 ≤ (u11.alloc (.cells #[.int .i64 r.1, .int .i64 r.2] 27)).heap.size)
                replace hS := Below.step hS hbA
                clear hbA
                generalize (u11.alloc (.cells #[.int .i64 r.1, .int .i64 r.2] 27)) = u16 at *
                obtain ⟨gO, hgO⟩ : ∃ z, z = u11.heap.size := ⟨_, rfl⟩
                rw [← hgO] at hR hHi ⊢
                rw [← hgO] at APX
                clear hgO
                obtain ⟨lo, hlo⟩ : ∃ z, z = gO := ⟨_, rfl⟩
                obtain ⟨hi, hhi⟩ : ∃ z, z = gO + 1 := ⟨_, rfl⟩
                rw [← hhi] at hR hHi APX
                rw [show PAtB u16 gO hi = PAtB u16 lo hi by rw [hlo]] at hR
                rw [← hlo] at APX
                clear hlo hhi
                refine hK.out _ _ hS (fun _ => ?_)
                clear hK K
                (try simp only [Act.put, List.getElem_toArray, List.getElem_cons_succ, List.getElem_cons_zero, List.setIfInBounds_toArray, List.set_cons_zero, List.set_cons_succ])
                refine wpAnyH_ready (rs := [4]) (by kernel_rfl) (by simp) ?_
                refine (AllReadyH.cons rfl (fun K hK => ?_) AllReadyH.nil)
                · rw [if_pos (by kernel_rfl)]
                  refine wp_append_rb (.tmp 63) (.tmp 66) rfl W10.heap.size (l := []) (k := L.take k) (n := k) rfl hX HK1.out rfl (cut_head (pat_later pl hS) HCP.out k) (by have := HCX.out; have := HLN.out; omega) hS.size lo hi APX hHi ?_
                  clear hX APX
                  intro Aa17 ca17 u17 hX hb17 APX hM
                  replace hR := patb_mid hR hM
                  replace hHi := Nat.le_trans hHi hM.1
                  clear hM
                  replace hS := Below.trans hS hb17
                  clear hb17
                  obtain ⟨nX17, hn17⟩ : ∃ z, z = 0 + k := ⟨_, rfl⟩
                  rw [← hn17] at hX APX ⊢
                  have HN17 := Lib.hid hn17
                  clear hn17
                  refine hK.out _ _ hS (fun _ => ?_)
                  clear hK K
                  (try simp only [Act.put, List.getElem_toArray, List.getElem_cons_succ, List.getElem_cons_zero, List.setIfInBounds_toArray, List.set_cons_zero, List.set_cons_succ])
                  refine wpAnyH_ready (rs := [7]) (by kernel_rfl) (by simp) ?_
                  refine (AllReadyH.cons rfl (fun K hK => ?_) AllReadyH.nil)
                  · rw [if_pos (by kernel_rfl)]
                    refine wp_append_rb (.tmp 67) (.tmp 69) rfl W10.heap.size (l := [] ++ L.take k) (k := [(r.1, r.2)]) (n := 1) rfl hX rfl rfl (patb_at hR hHi) (by have := HN17.out; have := HCX.out; have := HLN.out; omega) hS.size 0 0 (apart0 _) (Nat.zero_le _) ?_
                    clear hX APX
                    intro Aa18 ca18 u18 hX hb18 APX hM
                    clear hR hHi
                    clear APX
                    clear hM
                    replace hS := Below.trans hS hb18
                    clear hb18
                    obtain ⟨nX18, hn18⟩ : ∃ z, z = nX17 + 1 := ⟨_, rfl⟩
                    rw [← hn18] at hX ⊢
                    have HN18 := Lib.hid hn18
                    clear hn18
                    refine hK.out _ _ hS (fun _ => ?_)
                    clear hK K
                    (try simp only [Act.put, List.getElem_toArray, List.getElem_cons_succ, List.getElem_cons_zero, List.setIfInBounds_toArray, List.set_cons_zero, List.set_cons_succ])
                    refine wpAnyH_ready (rs := [11]) (by kernel_rfl) (by simp) ?_
                    refine (AllReadyH.cons rfl (fun K hK => ?_) AllReadyH.nil)
                    · rw [if_pos (by kernel_rfl)]
                      refine wp_append_rb (.tmp 70) (.tmp 73) rfl W10.heap.size (l := [] ++ L.take k ++ [(r.1, r.2)]) (k := L.drop k) (n := (L.length - k)) rfl hX HK2.out rfl (cut_tail (pat_later pl hS) HCP.out k) (by have := HN18.out; have := HN17.out; have := HCX.out; have := HLN.out; omega) hS.size 0 0 (apart0 _) (Nat.zero_le _) ?_
                      clear hX
                      intro Aa19 ca19 u19 hX hb19 APX hM
                      clear APX
                      clear hM
                      replace hS := Below.trans hS hb19
                      clear hb19
                      obtain ⟨nX19, hn19⟩ : ∃ z, z = nX18 + (L.length - k) := ⟨_, rfl⟩
                      rw [← hn19] at hX ⊢
                      have HN19 := Lib.hid hn19
                      clear hn19
                      refine hK.out _ _ hS (fun _ => ?_)
                      clear hK K
                      (try simp only [Act.put, List.getElem_toArray, List.getElem_cons_succ, List.getElem_cons_zero, List.setIfInBounds_toArray, List.set_cons_zero, List.set_cons_succ])
                      refine wpAnyH_takeS HNS (i := 12) (v := .slice Aa19 nX19 ca19) rfl (by kernel_rfl) (by kernel_rfl) (fun _ _ _ h => h) (Or.inl ⟨by kernel_rfl, fun W hW => ?_⟩) hS ?_
                      · go_simp
                      simp only [Act.put, List.getElem_toArray, List.getElem_cons_succ, List.getElem_cons_zero, List.setIfInBounds_toArray, List.set_cons_zero, List.set_cons_succ]
                      refine wpAnyH_done (by kernel_rfl) ?_ _
                      have hnn : nX19 = RA.length := by
                        have q1 := HN17.out
                        have q2 := HN18.out
                        have q3 := HN19.out
                        rw [← HAL.out]
                        simp only [List.length_append, List.length_cons, List.length_nil, HK1.out, HK2.out]
                        omega
                      rw [hnn] at hX ⊢
                      have hpX := own2_at hX
                      rw [List.nil_append] at hpX
                      go_wp2_with fail
                      go_meet
                      case rel => exact ⟨_, _, rfl, hpX, Below.step HDR.out hS⟩
            · rw [if_pos (by kernel_rfl)]
              refine wp_build1R rfl rfl ?_
              have hbA := ((Below.refl _ _).alloc (Nat.le_refl _) _ : Below W10.heap.size W10 (W10.alloc (.cells #[.int .i64 r.1, .int .i64 r.2] 27)))
              have hR := (patb_one r.1 r.2 : PAtB (W10.alloc (.cells #[.int .i64 r.1, .int .i64 r.2] 27)) W10.heap.size (W10.heap.size + 1) _ _)
              have hHi := (patb_one_hi r.1 r.2 : W10.heap.size + 1 ≤ (W10.alloc (.cells #[.int .i64 r.1, .int .i64 r.2] 27)).heap.size)
              replace hS := Below.step hS hbA
              clear hbA
              generalize (W10.alloc (.cells #[.int .i64 r.1, .int .i64 r.2] 27)) = u20 at *
              obtain ⟨gO, hgO⟩ : ∃ z, z = W10.heap.size := ⟨_, rfl⟩
              rw [← hgO] at hR hHi ⊢
              clear hgO
              obtain ⟨lo, hlo⟩ : ∃ z, z = gO := ⟨_, rfl⟩
              obtain ⟨hi, hhi⟩ : ∃ z, z = gO + 1 := ⟨_, rfl⟩
              rw [← hhi] at hR hHi
              rw [show PAtB u20 gO hi = PAtB u20 lo hi by rw [hlo]] at hR
              clear hlo hhi
              refine hK.out _ _ hS (fun _ => ?_)
              clear hK K
              (try simp only [Act.put, List.getElem_toArray, List.getElem_cons_succ, List.getElem_cons_zero, List.setIfInBounds_toArray, List.set_cons_zero, List.set_cons_succ])
              refine wpAnyH_ready (rs := [0]) (by kernel_rfl) (by simp) ?_
              refine (AllReadyH.cons rfl (fun K hK => ?_) AllReadyH.nil)
              · rw [if_pos (by kernel_rfl)]
                refine wp_build0R rfl ?_
                have hbA := ((Below.refl _ _).alloc (Nat.le_refl _) _ : Below u20.heap.size u20 (u20.alloc (.cells #[] 27)))
                have hX0 : OwnR (u20.alloc (.cells #[] 27)) u20.heap.size (.slice (some ⟨u20.heap.size, 0, none⟩) 0 0) [] := Own2.made 27 u20
                have hX := (r_mono hX0 hS.size : OwnR (u20.alloc (.cells #[] 27)) W10.heap.size (.slice (some ⟨u20.heap.size, 0, none⟩) 0 0) [])
                have APX : Apart (.slice (some ⟨u20.heap.size, 0, none⟩) 0 0) lo hi := fun g e => .inr (Nat.le_trans hHi (hX0.lt g e).1)
                replace hR := patb_below hR hbA hHi
                replace hHi := Nat.le_trans hHi hbA.size
                clear hX0
                replace hS := Below.step hS hbA
                clear hbA
                generalize (u20.alloc (.cells #[] 27)) = u21 at *
                refine hK.out _ _ hS (fun _ => ?_)
                clear hK K
                (try simp only [Act.put, List.getElem_toArray, List.getElem_cons_succ, List.getElem_cons_zero, List.setIfInBounds_toArray, List.set_cons_zero, List.set_cons_succ])
                refine wpAnyH_ready (rs := [4]) (by kernel_rfl) (by simp) ?_
                refine (AllReadyH.cons rfl (fun K hK => ?_) AllReadyH.nil)
                · rw [if_pos (by kernel_rfl)]
                  refine wp_append_rb (.tmp 63) (.tmp 66) rfl W10.heap.size (l := []) (k := L.take k) (n := k) rfl hX HK1.out rfl (cut_head (pat_later pl hS) HCP.out k) (by have := HCX.out; have := HLN.out; omega) hS.size lo hi APX hHi ?_
                  clear hX APX
                  intro Aa22 ca22 u22 hX hb22 APX hM
                  replace hR := patb_mid hR hM
                  replace hHi := Nat.le_trans hHi hM.1
                  clear hM
                  replace hS := Below.trans hS hb22
                  clear hb22
                  obtain ⟨nX22, hn22⟩ : ∃ z, z = 0 + k := ⟨_, rfl⟩
                  rw [← hn22] at hX APX ⊢
                  have HN22 := Lib.hid hn22
                  clear hn22
                  refine hK.out _ _ hS (fun _ => ?_)
                  clear hK K
                  (try simp only [Act.put, List.getElem_toArray, List.getElem_cons_succ, List.getElem_cons_zero, List.setIfInBounds_toArray, List.set_cons_zero, List.set_cons_succ])
                  refine wpAnyH_ready (rs := [7]) (by kernel_rfl) (by simp) ?_
                  refine (AllReadyH.cons rfl (fun K hK => ?_) AllReadyH.nil)
                  · rw [if_pos (by kernel_rfl)]
                    refine wp_append_rb (.tmp 67) (.tmp 69) rfl W10.heap.size (l := [] ++ L.take k) (k := [(r.1, r.2)]) (n := 1) rfl hX rfl rfl (patb_at hR hHi) (by have := HN22.out; have := HCX.out; have := HLN.out; omega) hS.size 0 0 (apart0 _) (Nat.zero_le _) ?_
                    clear hX APX
                    intro Aa23 ca23 u23 hX hb23 APX hM
                    clear hR hHi
                    clear APX
                    clear hM
                    replace hS := Below.trans hS hb23
                    clear hb23
                    obtain ⟨nX23, hn23⟩ : ∃ z, z = nX22 + 1 := ⟨_, rfl⟩
                    rw [← hn23] at hX ⊢
                    have HN23 := Lib.hid hn23
                    clear hn23
                    refine hK.out _ _ hS (fun _ => ?_)
                    clear hK K
                    (try simp only [Act.put, List.getElem_toArray, List.getElem_cons_succ, List.getElem_cons_zero, List.setIfInBounds_toArray, List.set_cons_zero, List.set_cons_succ])
                    refine wpAnyH_ready (rs := [11]) (by kernel_rfl) (by simp) ?_
                    refine (AllReadyH.cons rfl (fun K hK => ?_) AllReadyH.nil)
                    · rw [if_pos (by kernel_rfl)]
                      refine wp_append_rb (.tmp 70) (.tmp 73) rfl W10.heap.size (l := [] ++ L.take k ++ [(r.1, r.2)]) (k := L.drop k) (n := (L.length - k)) rfl hX HK2.out rfl (cut_tail (pat_later pl hS) HCP.out k) (by have := HN23.out; have := HN22.out; have := HCX.out; have := HLN.out; omega) hS.size 0 0 (apart0 _) (Nat.zero_le _) ?_
                      clear hX
                      intro Aa24 ca24 u24 hX hb24 APX hM
                      clear APX
                      clear hM
                      replace hS := Below.trans hS hb24
                      clear hb24
                      obtain ⟨nX24, hn24⟩ : ∃ z, z = nX23 + (L.length - k) := ⟨_, rfl⟩
                      rw [← hn24] at hX ⊢
                      have HN24 := Lib.hid hn24
                      clear hn24
                      refine hK.out _ _ hS (fun _ => ?_)
                      clear hK K
                      (try simp only [Act.put, List.getElem_toArray, List.getElem_cons_succ, List.getElem_cons_zero, List.setIfInBounds_toArray, List.set_cons_zero, List.set_cons_succ])
                      refine wpAnyH_takeS HNS (i := 12) (v := .slice Aa24 nX24 ca24) rfl (by kernel_rfl) (by kernel_rfl) (fun _ _ _ h => h) (Or.inl ⟨by kernel_rfl, fun W hW => ?_⟩) hS ?_
                      · go_simp
                      simp only [Act.put, List.getElem_toArray, List.getElem_cons_succ, List.getElem_cons_zero, List.setIfInBounds_toArray, List.set_cons_zero, List.set_cons_succ]
                      refine wpAnyH_done (by kernel_rfl) ?_ _
                      have hnn : nX24 = RA.length := by
                        have q1 := HN22.out
                        have q2 := HN23.out
                        have q3 := HN24.out
                        rw [← HAL.out]
                        simp only [List.length_append, List.length_cons, List.length_nil, HK1.out, HK2.out]
                        omega
                      rw [hnn] at hX ⊢
                      have hpX := own2_at hX
                      rw [List.nil_append] at hpX
                      go_wp2_with fail
                      go_meet
                      case rel => exact ⟨_, _, rfl, hpX, Below.step HDR.out hS⟩
          case rest =>
            obtain ⟨Aw, cw, rfl, pw, hwc⟩ := hcut
            replace v3 := v3.below hwc
            replace pl := pat_later pl hwc
            replace pm := pat_later pm hwc
            replace hW := Below.step hW hwc
            clear hwc v9
            go_upto_region 13 with (first
              | (go_at_call 24; (with_reducible refine (rrefs_l (R := true) (decide_eq_true HRE.out) rfl HAL.out HNA.out HNA.out _ _ _ pm pw).mono ?_); rintro _ uz ⟨rfl, hbz⟩; replace v3 := v3.below hbz; replace pl := pat_later pl hbz; replace hW := Below.step hW hbz; clear hbz))
            clear pm pw
            have hcs : (decide (at_ < 0) = true) ∨ (decide (at_ < 0) = false ∧ decide (((L.length : Nat) : Int) ≤ at_) = true) ∨ (decide (at_ < 0) = false ∧ decide (((L.length : Nat) : Int) ≤ at_) = false ∧ 0 ≤ at_ ∧ at_ < ((L.length : Nat) : Int)) := by
              simp only [decide_eq_true_eq, decide_eq_false_iff_not]
              omega
            rcases hcs with e1 | ⟨e1, e2⟩ | ⟨e1, e2, ha0, ha1⟩
            case inl => 
              go_wp2_with fail
              go_ret
              exact ⟨rfl, hW⟩
            case inr.inl =>
              go_wp2_with fail
              go_ret
              exact ⟨rfl, hW⟩
            case inr.inr =>
              go_upto_region 15 with (fail)
              clear e1 e2
              obtain ⟨j, rfl⟩ : ∃ j : Nat, at_ = j := ⟨at_.toNat, by omega⟩
              have hj : j < L.length := by omega
              obtain ⟨SB, hSB, hRB⟩ := drop_split H4.out HLR.out hj
              obtain ⟨j1, hj1⟩ : ∃ z, z = j + 1 := ⟨_, rfl⟩
              rw [← hj1] at hRB
              have HJ1 := Lib.hid hj1
              have LB := (drop_sm hSB HSP.out).len (by decide)
              obtain ⟨b1, off1, eA, hbl0, hc7⟩ := pl (by omega)
              simp only [Option.some.injEq, Addr.mk.injEq, and_true] at eA
              obtain ⟨rfl, rfl⟩ := eA
              obtain ⟨y0, y1⟩ := hc7 j hj
              have HD := Lib.hid hSB
              have HRB := Lib.hid hRB
              have HJ := Lib.hid hj
              clear hSB hRB hc7 hj1
              have hbl : b < uz.heap.size := block_lt_of_cell y0
              generalize L[j] = rj at *
              go_cut [14, 15] from 87 to 112 (fun vb ve wx => ∃ k A14 c14 B14 d14, vb = .pointer (some ⟨k, 0, none⟩) ∧ ve = .int .i64 0 ∧ PV wx k A14 c14 B14 d14 SB ∧ Below uz.heap.size uz wx)
              case first =>
                have hdr := (Below.refl uz.heap.size uz).drew
                have HDR := Lib.hid hdr
                replace v3 := v3.below hdr
                replace y0 := (hdr.cell (p := ⟨b, _, none⟩) hbl).trans y0
                replace y1 := (hdr.cell (p := ⟨b, _, none⟩) hbl).trans y1
                replace hbl : b < uz.drew.heap.size := hbl
                clear hdr
                refine wp_region_held_drew (S := fun W => Below uz.drew.heap.size uz.drew W) (by kernel_rfl) (Below.refl _ _) (fun hS => ?_)
                generalize uz.drew = Wq at *
                show wpAnyH _ _ _ _ _ 12 #[false, false, false, false, false, false, false, false, false, false, false, false] _ _
                refine wpAnyH_begin (by kernel_rfl) (fun HNS => ?_)
                refine wpAnyH_takeS HNS (i := 0) (v := .agg (pc A p.cells.length c A2 p.free.length c2 p.most)) rfl (by kernel_rfl) (by kernel_rfl) (fun _ _ _ h => h) (Or.inl ⟨by kernel_rfl, fun W hW => ?_⟩) hS ?_
                · (have hz := Held.below v3.x hW; have z0 := hz.cell 0; have z1 := hz.cell 1; have z2 := hz.cell 2; simp at z0 z1 z2; go_simp)
                simp only [Act.put, List.getElem_toArray, List.getElem_cons_succ, List.getElem_cons_zero, List.setIfInBounds_toArray, List.set_cons_zero, List.set_cons_succ]
                refine wpAnyH_takeS HNS (i := 1) (v := .slice (some ⟨b, off, none⟩) L.length c7) rfl (by kernel_rfl) (by kernel_rfl) (fun _ _ _ h => h) (Or.inl ⟨by kernel_rfl, fun W hW => ?_⟩) hS ?_
                · go_simp
                simp only [Act.put, List.getElem_toArray, List.getElem_cons_succ, List.getElem_cons_zero, List.setIfInBounds_toArray, List.set_cons_zero, List.set_cons_succ]
                refine wpAnyH_takeS HNS (i := 2) (v := .int .i64 j) rfl (by kernel_rfl) (by kernel_rfl) (fun _ _ _ h => h) (Or.inl ⟨by kernel_rfl, fun W hW => ?_⟩) hS ?_
                · go_simp
                simp only [Act.put, List.getElem_toArray, List.getElem_cons_succ, List.getElem_cons_zero, List.setIfInBounds_toArray, List.set_cons_zero, List.set_cons_succ]
                refine wpAnyH_takeS HNS (i := 3) (v := .pointer (some ⟨b, off + j * 2, none⟩)) rfl (by kernel_rfl) (by kernel_rfl) (fun _ _ _ h => h) (Or.inl ⟨by kernel_rfl, fun W hW => ?_⟩) hS ?_
                · go_simp
                simp only [Act.put, List.getElem_toArray, List.getElem_cons_succ, List.getElem_cons_zero, List.setIfInBounds_toArray, List.set_cons_zero, List.set_cons_succ]
                refine wpAnyH_takeS HNS (i := 4) (v := .agg #[.int .i64 rj.1, .int .i64 rj.2]) rfl (by kernel_rfl) (by kernel_rfl) (fun _ _ _ h => h) (Or.inl ⟨by kernel_rfl, fun W hW => ?_⟩) hS ?_
                · (have z0 := (hW.cell (p := ⟨b, _, none⟩) hbl).trans y0; have z1 := (hW.cell (p := ⟨b, _, none⟩) hbl).trans y1; go_simp)
                simp only [Act.put, List.getElem_toArray, List.getElem_cons_succ, List.getElem_cons_zero, List.setIfInBounds_toArray, List.set_cons_zero, List.set_cons_succ]
                refine wpAnyH_ready (rs := [5, 9]) (by kernel_rfl) (by simp) ?_
                refine (AllReadyH.cons rfl (fun K hK => ?_) (AllReadyH.cons rfl (fun K hK => ?_) AllReadyH.nil))
                · rw [if_pos (by kernel_rfl)]
                  go_simp
                  go_at_call 16
                  (with_reducible refine (drop_c HD.out LP c c2 _ (v3.below hS).p).mono ?_)
                  rintro _ u5 ⟨A5, c5, B5, d5, rfl, ho5, hb5⟩
                  replace hS := Below.step hS hb5
                  have hoz := OwnZ.mono ho5 (Nat.zero_le _)
                  (repeat (first | go_skip | go_guarded | go_step | go_upon))
                  refine hK.out _ _ hS (fun _ => ?_)
                  clear hK K
                  (try simp only [Act.put, List.getElem_toArray, List.getElem_cons_succ, List.getElem_cons_zero, List.setIfInBounds_toArray, List.set_cons_zero, List.set_cons_succ])
                  refine wpAnyH_takeS HNS (i := 6) (v := .tuple #[.agg (pc A5 SB.cells.length c5 B5 SB.free.length d5 SB.most), .int .i64 0]) rfl (by kernel_rfl) (by kernel_rfl) (fun _ _ _ h => h) (Or.inl ⟨by kernel_rfl, fun W hW => ?_⟩) hS ?_
                  · go_simp
                  simp only [Act.put, List.getElem_toArray, List.getElem_cons_succ, List.getElem_cons_zero, List.setIfInBounds_toArray, List.set_cons_zero, List.set_cons_succ]
                  refine wpAnyH_takeS HNS (i := 7) (v := .agg (pc A5 SB.cells.length c5 B5 SB.free.length d5 SB.most)) rfl (by kernel_rfl) (by kernel_rfl) (fun _ _ _ h => h) (Or.inl ⟨by kernel_rfl, fun W hW => ?_⟩) hS ?_
                  · go_simp
                  simp only [Act.put, List.getElem_toArray, List.getElem_cons_succ, List.getElem_cons_zero, List.setIfInBounds_toArray, List.set_cons_zero, List.set_cons_succ]
                  refine wpAnyH_takeS HNS (i := 8) (v := .int .i64 0) rfl (by kernel_rfl) (by kernel_rfl) (fun _ _ _ h => h) (Or.inl ⟨by kernel_rfl, fun W hW => ?_⟩) hS ?_
                  · go_simp
                  simp only [Act.put, List.getElem_toArray, List.getElem_cons_succ, List.getElem_cons_zero, List.setIfInBounds_toArray, List.set_cons_zero, List.set_cons_succ]
                  refine wpAnyH_ready (rs := [9]) (by kernel_rfl) (by simp) ?_
                  refine (AllReadyH.cons rfl (fun K hK => ?_) AllReadyH.nil)
                  · rw [if_pos (by kernel_rfl)]
                    refine wp_alloc_R 25 rfl pz0 (by kernel_rfl) ?_
                    have hbA := ((Below.refl _ _).alloc (Nat.le_refl _) _ : Below u5.heap.size u5 (u5.alloc (.cells pz0 25)))
                    replace hoz := OwnZ.below hoz hbA
                    have hfr := Held.new u5 25 pz0
                    have lhfr := hS.size
                    replace hS := Below.step hS hbA
                    clear hbA
                    generalize u5.alloc (.cells pz0 25) = Wd6 at *
                    refine hK.out _ _ hS (fun _ => ?_)
                    clear hK K
                    (try simp only [Act.put, List.getElem_toArray, List.getElem_cons_succ, List.getElem_cons_zero, List.setIfInBounds_toArray, List.set_cons_zero, List.set_cons_succ])
                    refine wpAnyH_ready (rs := [10]) (by kernel_rfl) (by simp) ?_
                    refine (AllReadyH.cons rfl (fun K hK => ?_) AllReadyH.nil)
                    · rw [if_pos (by kernel_rfl)]
                      refine wp_store_row 25 _ _ rfl _ (pc A5 SB.cells.length c5 B5 SB.free.length d5 SB.most) (by rfl) (by rfl) _ _ hfr (by kernel_rfl) (by rfl) (by simp [Value.oneCell']) ?_
                      have hpv := over_p hfr hoz
                      replace hS := below_setRow hS lhfr (pc A5 SB.cells.length c5 B5 SB.free.length d5 SB.most)
                      clear hoz hfr
                      generalize World.setRow _ _ (pc A5 SB.cells.length c5 B5 SB.free.length d5 SB.most) = Wst at *
                      refine hK.out _ _ hS (fun _ => ?_)
                      clear hK K
                      (try simp only [Act.put, List.getElem_toArray, List.getElem_cons_succ, List.getElem_cons_zero, List.setIfInBounds_toArray, List.set_cons_zero, List.set_cons_succ])
                      refine wpAnyH_takeS HNS (i := 11) (v := .int .i64 0) rfl (by kernel_rfl) (by kernel_rfl) (fun _ _ _ h => h) (Or.inl ⟨by kernel_rfl, fun W hW => ?_⟩) hS ?_
                      · go_simp
                      simp only [Act.put, List.getElem_toArray, List.getElem_cons_succ, List.getElem_cons_zero, List.setIfInBounds_toArray, List.set_cons_zero, List.set_cons_succ]
                      refine wpAnyH_done (by kernel_rfl) ?_ _
                      go_wp2_with fail
                      go_meet
                      case rel => exact ⟨_, _, _, _, _, rfl, rfl, hpv, Below.step HDR.out hS⟩
                · rw [if_pos (by kernel_rfl)]
                  refine wp_alloc_R 25 rfl pz0 (by kernel_rfl) ?_
                  have hbA := ((Below.refl _ _).alloc (Nat.le_refl _) _ : Below Wq.heap.size Wq (Wq.alloc (.cells pz0 25)))
                  have hfr := Held.new Wq 25 pz0
                  have lhfr := hS.size
                  replace hS := Below.step hS hbA
                  clear hbA
                  generalize Wq.alloc (.cells pz0 25) = Wd7 at *
                  refine hK.out _ _ hS (fun _ => ?_)
                  clear hK K
                  (try simp only [Act.put, List.getElem_toArray, List.getElem_cons_succ, List.getElem_cons_zero, List.setIfInBounds_toArray, List.set_cons_zero, List.set_cons_succ])
                  refine wpAnyH_ready (rs := [5]) (by kernel_rfl) (by simp) ?_
                  refine (AllReadyH.cons rfl (fun K hK => ?_) AllReadyH.nil)
                  · rw [if_pos (by kernel_rfl)]
                    go_simp
                    go_at_call 16
                    (with_reducible refine (drop_c HD.out LP c c2 _ (v3.below hS).p).mono ?_)
                    rintro _ u8 ⟨A8, c8, B8, d8, rfl, ho8, hb8⟩
                    replace hfr := Held.below hfr hb8
                    replace hS := Below.step hS hb8
                    have hoz := OwnZ.mono ho8 (Nat.zero_le _)
                    (repeat (first | go_skip | go_guarded | go_step | go_upon))
                    refine hK.out _ _ hS (fun _ => ?_)
                    clear hK K
                    (try simp only [Act.put, List.getElem_toArray, List.getElem_cons_succ, List.getElem_cons_zero, List.setIfInBounds_toArray, List.set_cons_zero, List.set_cons_succ])
                    refine wpAnyH_takeS HNS (i := 6) (v := .tuple #[.agg (pc A8 SB.cells.length c8 B8 SB.free.length d8 SB.most), .int .i64 0]) rfl (by kernel_rfl) (by kernel_rfl) (fun _ _ _ h => h) (Or.inl ⟨by kernel_rfl, fun W hW => ?_⟩) hS ?_
                    · go_simp
                    simp only [Act.put, List.getElem_toArray, List.getElem_cons_succ, List.getElem_cons_zero, List.setIfInBounds_toArray, List.set_cons_zero, List.set_cons_succ]
                    refine wpAnyH_takeS HNS (i := 7) (v := .agg (pc A8 SB.cells.length c8 B8 SB.free.length d8 SB.most)) rfl (by kernel_rfl) (by kernel_rfl) (fun _ _ _ h => h) (Or.inl ⟨by kernel_rfl, fun W hW => ?_⟩) hS ?_
                    · go_simp
                    simp only [Act.put, List.getElem_toArray, List.getElem_cons_succ, List.getElem_cons_zero, List.setIfInBounds_toArray, List.set_cons_zero, List.set_cons_succ]
                    refine wpAnyH_takeS HNS (i := 8) (v := .int .i64 0) rfl (by kernel_rfl) (by kernel_rfl) (fun _ _ _ h => h) (Or.inl ⟨by kernel_rfl, fun W hW => ?_⟩) hS ?_
                    · go_simp
                    simp only [Act.put, List.getElem_toArray, List.getElem_cons_succ, List.getElem_cons_zero, List.setIfInBounds_toArray, List.set_cons_zero, List.set_cons_succ]
                    refine wpAnyH_ready (rs := [10]) (by kernel_rfl) (by simp) ?_
                    refine (AllReadyH.cons rfl (fun K hK => ?_) AllReadyH.nil)
                    · rw [if_pos (by kernel_rfl)]
                      refine wp_store_row 25 _ _ rfl _ (pc A8 SB.cells.length c8 B8 SB.free.length d8 SB.most) (by rfl) (by rfl) _ _ hfr (by kernel_rfl) (by rfl) (by simp [Value.oneCell']) ?_
                      have hpv := over_p hfr hoz
                      replace hS := below_setRow hS lhfr (pc A8 SB.cells.length c8 B8 SB.free.length d8 SB.most)
                      clear hoz hfr
                      generalize World.setRow _ _ (pc A8 SB.cells.length c8 B8 SB.free.length d8 SB.most) = Wst at *
                      refine hK.out _ _ hS (fun _ => ?_)
                      clear hK K
                      (try simp only [Act.put, List.getElem_toArray, List.getElem_cons_succ, List.getElem_cons_zero, List.setIfInBounds_toArray, List.set_cons_zero, List.set_cons_succ])
                      refine wpAnyH_takeS HNS (i := 11) (v := .int .i64 0) rfl (by kernel_rfl) (by kernel_rfl) (fun _ _ _ h => h) (Or.inl ⟨by kernel_rfl, fun W hW => ?_⟩) hS ?_
                      · go_simp
                      simp only [Act.put, List.getElem_toArray, List.getElem_cons_succ, List.getElem_cons_zero, List.setIfInBounds_toArray, List.set_cons_zero, List.set_cons_succ]
                      refine wpAnyH_done (by kernel_rfl) ?_ _
                      go_wp2_with fail
                      go_meet
                      case rel => exact ⟨_, _, _, _, _, rfl, rfl, hpv, Below.step HDR.out hS⟩
              case rest =>
                obtain ⟨k14, A14, c14, B14, d14, rfl, rfl, v14, hwc⟩ := hcut
                replace pl := pat_later pl hwc
                replace hW := Below.step hW hwc
                clear hwc y0 y1 hbl hbl0 v3
                go_upto_region 16 with (fail)
                have hdr := (Below.refl wc.heap.size wc).drew
                replace pl := pat_later pl hdr
                replace v14 := v14.below hdr
                replace hW := Below.step hW hdr
                clear hdr
                refine wp_region_held_drew (S := fun W => Below wc.drew.heap.size wc.drew W) (by kernel_rfl) (Below.refl _ _) (fun hS => ?_)
                generalize wc.drew = W13 at *
                show wpAnyH _ _ _ _ _ 18 #[false, false, false, false, false, false, false, false, false, false, false, false, false, false, false, false, false, false] _ _
                refine wpAnyH_begin (by kernel_rfl) (fun HNS => ?_)
                have C1 := fun W => run_cut_head (some ⟨b, off, none⟩) L.length c7 j (by have := HCP.out; have := HJ.out; omega) W
                have C2 := fun W => run_cut_tail (some ⟨b, off, none⟩) L.length c7 j1 (by have := HJ.out; have := HJ1.out; omega) W
                have HK1 := Lib.hid (show (L.take j).length = j by rw [List.length_take]; have := HJ.out; omega)
                have HK2 := Lib.hid (show (L.drop j1).length = L.length - j1 by rw [List.length_drop])
                obtain ⟨nB, hnB⟩ : ∃ n, (refsZ SB).length = n := ⟨_, rfl⟩
                have HNB := Lib.hid (show nB ≤ 100000 by rw [← hnB, HRB.out, List.length_append, HK1.out, HK2.out]; have := HLN.out; omega)
                have HRL := Lib.hid (show (L.take j ++ L.drop j1).length = nB by rw [← hnB, HRB.out])
                have hcR : ∀ (W : World) (hp : PAtZ W W.heap.size A14 B14 SB), Calls Try.prog 25 #[pv A14 SB.cells.length c14 B14 SB.free.length d14 SB.most] W fun e w' => ∃ A' c', e = .returned (.slice A' nB c') ∧ OwnR w' W.heap.size (.slice A' nB c') (L.take j ++ L.drop j1) ∧ Below W.heap.size W w' := fun W hp => by
                  have h9 := refs_c HRB.out LB c14 d14 W hp
                  rw [HRL.out] at h9
                  exact h9
                have HCR := Lib.hid hcR
                clear hnB hcR
                refine wpAnyH_takeS HNS (i := 0) (v := .int .i64 0) rfl (by kernel_rfl) (by kernel_rfl) (fun _ _ _ h => h) (Or.inl ⟨by kernel_rfl, fun W hW => ?_⟩) hS ?_
                · go_simp
                simp only [Act.put, List.getElem_toArray, List.getElem_cons_succ, List.getElem_cons_zero, List.setIfInBounds_toArray, List.set_cons_zero, List.set_cons_succ]
                refine wpAnyH_takeS HNS (i := 1) (v := .bool true) rfl (by kernel_rfl) (by kernel_rfl) (fun _ _ _ h => h) (Or.inl ⟨by kernel_rfl, fun W hW => ?_⟩) hS ?_
                · go_simp
                simp only [Act.put, List.getElem_toArray, List.getElem_cons_succ, List.getElem_cons_zero, List.setIfInBounds_toArray, List.set_cons_zero, List.set_cons_succ]
                refine wpAnyH_takeS HNS (i := 2) (v := .bool true) rfl (by kernel_rfl) (by kernel_rfl) (fun _ _ _ h => h) (Or.inl ⟨by kernel_rfl, fun W hW => ?_⟩) hS ?_
                · go_simp
                simp only [Act.put, List.getElem_toArray, List.getElem_cons_succ, List.getElem_cons_zero, List.setIfInBounds_toArray, List.set_cons_zero, List.set_cons_succ]
                refine wpAnyH_takeS HNS (i := 3) (v := .agg (pc A14 SB.cells.length c14 B14 SB.free.length d14 SB.most)) rfl (by kernel_rfl) (by kernel_rfl) (fun _ _ _ h => h) (Or.inl ⟨by kernel_rfl, fun W hW => ?_⟩) hS ?_
                · (have hz := Held.below v14.x hW; have z0 := hz.cell 0; have z1 := hz.cell 1; have z2 := hz.cell 2; simp at z0 z1 z2; go_simp)
                simp only [Act.put, List.getElem_toArray, List.getElem_cons_succ, List.getElem_cons_zero, List.setIfInBounds_toArray, List.set_cons_zero, List.set_cons_succ]
                refine wpAnyH_takeS HNS (i := 6) (v := .slice (some ⟨b, off, none⟩) L.length c7) rfl (by kernel_rfl) (by kernel_rfl) (fun _ _ _ h => h) (Or.inl ⟨by kernel_rfl, fun W hW => ?_⟩) hS ?_
                · go_simp
                simp only [Act.put, List.getElem_toArray, List.getElem_cons_succ, List.getElem_cons_zero, List.setIfInBounds_toArray, List.set_cons_zero, List.set_cons_succ]
                refine wpAnyH_takeS HNS (i := 7) (v := .int .i64 j) rfl (by kernel_rfl) (by kernel_rfl) (fun _ _ _ h => h) (Or.inl ⟨by kernel_rfl, fun W hW => ?_⟩) hS ?_
                · go_simp
                simp only [Act.put, List.getElem_toArray, List.getElem_cons_succ, List.getElem_cons_zero, List.setIfInBounds_toArray, List.set_cons_zero, List.set_cons_succ]
                refine wpAnyH_takeS HNS (i := 8) (v := .slice (cutA (some ⟨b, off, none⟩) c7 0) j c7) rfl (by kernel_rfl) (by kernel_rfl) (fun _ _ _ h => h) (Or.inl ⟨by kernel_rfl, fun W hW => ?_⟩) hS ?_
                · (simp only [execOp, Act.eval]; go_simp)
                simp only [Act.put, List.getElem_toArray, List.getElem_cons_succ, List.getElem_cons_zero, List.setIfInBounds_toArray, List.set_cons_zero, List.set_cons_succ]
                refine wpAnyH_takeS HNS (i := 10) (v := .slice (some ⟨b, off, none⟩) L.length c7) rfl (by kernel_rfl) (by kernel_rfl) (fun _ _ _ h => h) (Or.inl ⟨by kernel_rfl, fun W hW => ?_⟩) hS ?_
                · go_simp
                simp only [Act.put, List.getElem_toArray, List.getElem_cons_succ, List.getElem_cons_zero, List.setIfInBounds_toArray, List.set_cons_zero, List.set_cons_succ]
                refine wpAnyH_takeS HNS (i := 11) (v := .int .i64 j) rfl (by kernel_rfl) (by kernel_rfl) (fun _ _ _ h => h) (Or.inl ⟨by kernel_rfl, fun W hW => ?_⟩) hS ?_
                · go_simp
                simp only [Act.put, List.getElem_toArray, List.getElem_cons_succ, List.getElem_cons_zero, List.setIfInBounds_toArray, List.set_cons_zero, List.set_cons_succ]
                refine wpAnyH_takeS HNS (i := 12) (v := .int .i64 (j1 : Int)) rfl (by kernel_rfl) (by kernel_rfl) (fun _ _ _ h => h) (Or.inl ⟨by kernel_rfl, fun W hW => ?_⟩) hS ?_
                · (have hwr : IntKind.i64.wrap ((j : Int) + 1) = (j1 : Int) := (by rw [IntKind.wrap_i64]; have := HJ.out; have := HJ1.out; have := HLN.out; omega); go_simp)
                simp only [Act.put, List.getElem_toArray, List.getElem_cons_succ, List.getElem_cons_zero, List.setIfInBounds_toArray, List.set_cons_zero, List.set_cons_succ]
                refine wpAnyH_takeS HNS (i := 13) (v := .slice (cutA (some ⟨b, off, none⟩) c7 j1) (L.length - j1) (c7 - j1)) rfl (by kernel_rfl) (by kernel_rfl) (fun _ _ _ h => h) (Or.inl ⟨by kernel_rfl, fun W hW => ?_⟩) hS ?_
                · (simp only [execOp, Act.eval]; go_simp)
                simp only [Act.put, List.getElem_toArray, List.getElem_cons_succ, List.getElem_cons_zero, List.setIfInBounds_toArray, List.set_cons_zero, List.set_cons_succ]
                refine wpAnyH_ready (rs := [4, 5]) (by kernel_rfl) (by simp) ?_
                refine (AllReadyH.cons rfl (fun K hK => ?_) (AllReadyH.cons rfl (fun K hK => ?_) AllReadyH.nil))
                · rw [if_pos (by kernel_rfl)]
                  go_simp
                  go_at_call 25
                  refine (HCR.out _ (v14.below hS).p).mono ?_
                  rintro _ u25 ⟨AR, cR, rfl, wR, hb25⟩
                  have hR := patb_own wR
                  have hHi := Nat.le_refl u25.heap.size
                  clear wR
                  obtain ⟨lo, hlo⟩ : ∃ z, z = W13.heap.size := ⟨_, rfl⟩
                  obtain ⟨hi, hhi⟩ : ∃ z, z = u25.heap.size := ⟨_, rfl⟩
                  rw [← hlo, ← hhi] at hR
                  replace hHi : hi ≤ u25.heap.size := Nat.le_of_eq hhi
                  clear hlo hhi
                  replace hS := Below.step hS hb25
                  clear hb25
                  (repeat (first | go_skip | go_guarded | go_step | go_upon))
                  refine hK.out _ _ hS (fun _ => ?_)
                  clear hK K
                  (try simp only [Act.put, List.getElem_toArray, List.getElem_cons_succ, List.getElem_cons_zero, List.setIfInBounds_toArray, List.set_cons_zero, List.set_cons_succ])
                  refine wpAnyH_ready (rs := [5]) (by kernel_rfl) (by simp) ?_
                  refine (AllReadyH.cons rfl (fun K hK => ?_) AllReadyH.nil)
                  · rw [if_pos (by kernel_rfl)]
                    refine wp_build0R rfl ?_
                    have hbA := ((Below.refl _ _).alloc (Nat.le_refl _) _ : Below u25.heap.size u25 (u25.alloc (.cells #[] 27)))
                    have hX0 : OwnR (u25.alloc (.cells #[] 27)) u25.heap.size (.slice (some ⟨u25.heap.size, 0, none⟩) 0 0) [] := Own2.made 27 u25
                    have hX := (r_mono hX0 hS.size : OwnR (u25.alloc (.cells #[] 27)) W13.heap.size (.slice (some ⟨u25.heap.size, 0, none⟩) 0 0) [])
                    have APX : Apart (.slice (some ⟨u25.heap.size, 0, none⟩) 0 0) lo hi := fun g e => .inr (Nat.le_trans hHi (hX0.lt g e).1)
                    replace hR := patb_below hR hbA hHi
                    replace hHi := Nat.le_trans hHi hbA.size
                    clear hX0
                    replace hS := Below.step hS hbA
                    clear hbA
                    generalize (u25.alloc (.cells #[] 27)) = u26 at *
                    refine hK.out _ _ hS (fun _ => ?_)
                    clear hK K
                    (try simp only [Act.put, List.getElem_toArray, List.getElem_cons_succ, List.getElem_cons_zero, List.setIfInBounds_toArray, List.set_cons_zero, List.set_cons_succ])
                    refine wpAnyH_ready (rs := [9]) (by kernel_rfl) (by simp) ?_
                    refine (AllReadyH.cons rfl (fun K hK => ?_) AllReadyH.nil)
                    · rw [if_pos (by kernel_rfl)]
                      refine wp_append_rb (.tmp 101) (.tmp 104) rfl W13.heap.size (l := []) (k := L.take j) (n := j) rfl hX HK1.out rfl (cut_head (pat_later pl hS) HCP.out j) (by have := HJ.out; have := HJ1.out; have := HLN.out; omega) hS.size lo hi APX hHi ?_
                      clear hX APX
                      intro Aa27 ca27 u27 hX hb27 APX hM
                      replace hR := patb_mid hR hM
                      replace hHi := Nat.le_trans hHi hM.1
                      clear hM
                      replace hS := Below.trans hS hb27
                      clear hb27
                      obtain ⟨nX27, hn27⟩ : ∃ z, z = 0 + j := ⟨_, rfl⟩
                      rw [← hn27] at hX APX ⊢
                      have HN27 := Lib.hid hn27
                      clear hn27
                      refine hK.out _ _ hS (fun _ => ?_)
                      clear hK K
                      (try simp only [Act.put, List.getElem_toArray, List.getElem_cons_succ, List.getElem_cons_zero, List.setIfInBounds_toArray, List.set_cons_zero, List.set_cons_succ])
                      refine wpAnyH_ready (rs := [14]) (by kernel_rfl) (by simp) ?_
                      refine (AllReadyH.cons rfl (fun K hK => ?_) AllReadyH.nil)
                      · rw [if_pos (by kernel_rfl)]
                        refine wp_append_rb (.tmp 105) (.tmp 109) rfl W13.heap.size (l := [] ++ L.take j) (k := L.drop j1) (n := (L.length - j1)) rfl hX HK2.out rfl (cut_tail (pat_later pl hS) HCP.out j1) (by have := HJ.out; have := HJ1.out; have := HLN.out; have := HN27.out; omega) hS.size lo hi APX hHi ?_
                        clear hX APX
                        intro Aa28 ca28 u28 hX hb28 APX hM
                        replace hR := patb_mid hR hM
                        replace hHi := Nat.le_trans hHi hM.1
                        clear hM
                        replace hS := Below.trans hS hb28
                        clear hb28
                        obtain ⟨nX28, hn28⟩ : ∃ z, z = nX27 + (L.length - j1) := ⟨_, rfl⟩
                        rw [← hn28] at hX APX ⊢
                        have HN28 := Lib.hid hn28
                        clear hn28
                        refine hK.out _ _ hS (fun _ => ?_)
                        clear hK K
                        (try simp only [Act.put, List.getElem_toArray, List.getElem_cons_succ, List.getElem_cons_zero, List.setIfInBounds_toArray, List.set_cons_zero, List.set_cons_succ])
                        refine wpAnyH_ready (rs := [15]) (by kernel_rfl) (by simp) ?_
                        refine (AllReadyH.cons rfl (fun K hK => ?_) AllReadyH.nil)
                        · rw [if_pos (by kernel_rfl)]
                          have hnn : ([] ++ L.take j ++ L.drop j1).length = nX28 := by have := HN27.out; have := HN28.out; simp only [List.length_append, List.length_nil, HK1.out, HK2.out]; omega
                          have hn5 : nX28 ≤ 100000 := by have := HN27.out; have := HN28.out; have := HLN.out; have := HJ.out; have := HJ1.out; omega
                          go_simp
                          go_at_call 24
                          refine (rrefs_l (l := L.take j ++ L.drop j1) (k := [] ++ L.take j ++ L.drop j1) (R := true) (by simp) HRL.out hnn HNB.out hn5 _ _ _ (patb_at hR hHi) (own2_at hX)).mono ?_
                          rintro _ u29 ⟨rfl, hb29⟩
                          replace hS := Below.step hS hb29
                          clear hR hHi hX APX hnn hn5 hb29
                          (repeat (first | go_skip | go_guarded | go_step | go_upon))
                          refine hK.out _ _ hS (fun _ => ?_)
                          clear hK K
                          (try simp only [Act.put, List.getElem_toArray, List.getElem_cons_succ, List.getElem_cons_zero, List.setIfInBounds_toArray, List.set_cons_zero, List.set_cons_succ])
                          refine wpAnyH_takeS HNS (i := 16) (v := .bool true) rfl (by kernel_rfl) (by kernel_rfl) (fun _ _ _ h => h) (Or.inl ⟨by kernel_rfl, fun W hW => ?_⟩) hS ?_
                          · go_simp
                          simp only [Act.put, List.getElem_toArray, List.getElem_cons_succ, List.getElem_cons_zero, List.setIfInBounds_toArray, List.set_cons_zero, List.set_cons_succ]
                          refine wpAnyH_takeS HNS (i := 17) (v := .bool true) rfl (by kernel_rfl) (by kernel_rfl) (fun _ _ _ h => h) (Or.inl ⟨by kernel_rfl, fun W hW => ?_⟩) hS ?_
                          · go_simp
                          simp only [Act.put, List.getElem_toArray, List.getElem_cons_succ, List.getElem_cons_zero, List.setIfInBounds_toArray, List.set_cons_zero, List.set_cons_succ]
                          refine wpAnyH_done (by kernel_rfl) ?_ _
                          (repeat (first | go_skip | go_guarded | go_step | go_upon))
                          go_ret
                          exact ⟨rfl, Below.step hW hS⟩
                · rw [if_pos (by kernel_rfl)]
                  refine wp_build0R rfl ?_
                  have hbA := ((Below.refl _ _).alloc (Nat.le_refl _) _ : Below W13.heap.size W13 (W13.alloc (.cells #[] 27)))
                  have hX0 : OwnR (W13.alloc (.cells #[] 27)) W13.heap.size (.slice (some ⟨W13.heap.size, 0, none⟩) 0 0) [] := Own2.made 27 W13
                  have hX := (r_mono hX0 hS.size : OwnR (W13.alloc (.cells #[] 27)) W13.heap.size (.slice (some ⟨W13.heap.size, 0, none⟩) 0 0) [])
                  clear hX0
                  replace hS := Below.step hS hbA
                  clear hbA
                  generalize (W13.alloc (.cells #[] 27)) = u30 at *
                  refine hK.out _ _ hS (fun _ => ?_)
                  clear hK K
                  (try simp only [Act.put, List.getElem_toArray, List.getElem_cons_succ, List.getElem_cons_zero, List.setIfInBounds_toArray, List.set_cons_zero, List.set_cons_succ])
                  refine wpAnyH_ready (rs := [4]) (by kernel_rfl) (by simp) ?_
                  refine (AllReadyH.cons rfl (fun K hK => ?_) AllReadyH.nil)
                  · rw [if_pos (by kernel_rfl)]
                    go_simp
                    go_at_call 25
                    refine (HCR.out _ (v14.below hS).p).mono ?_
                    rintro _ u31 ⟨AR, cR, rfl, wR, hb31⟩
                    have APX : Apart (.slice (some ⟨W13.heap.size, 0, none⟩) 0 0) u30.heap.size u31.heap.size := fun g e => .inl (hX.lt g e).2
                    replace hX := own_later hX hb31
                    have hR := patb_own wR
                    have hHi := Nat.le_refl u31.heap.size
                    clear wR
                    obtain ⟨lo, hlo⟩ : ∃ z, z = u30.heap.size := ⟨_, rfl⟩
                    obtain ⟨hi, hhi⟩ : ∃ z, z = u31.heap.size := ⟨_, rfl⟩
                    rw [← hlo, ← hhi] at hR
                    rw [← hlo, ← hhi] at APX
                    replace hHi : hi ≤ u31.heap.size := Nat.le_of_eq hhi
                    clear hlo hhi
                    replace hS := Below.step hS hb31
                    clear hb31
                    (repeat (first | go_skip | go_guarded | go_step | go_upon))
                    refine hK.out _ _ hS (fun _ => ?_)
                    clear hK K
                    (try simp only [Act.put, List.getElem_toArray, List.getElem_cons_succ, List.getElem_cons_zero, List.setIfInBounds_toArray, List.set_cons_zero, List.set_cons_succ])
                    refine wpAnyH_ready (rs := [9]) (by kernel_rfl) (by simp) ?_
                    refine (AllReadyH.cons rfl (fun K hK => ?_) AllReadyH.nil)
                    · rw [if_pos (by kernel_rfl)]
                      refine wp_append_rb (.tmp 101) (.tmp 104) rfl W13.heap.size (l := []) (k := L.take j) (n := j) rfl hX HK1.out rfl (cut_head (pat_later pl hS) HCP.out j) (by have := HJ.out; have := HJ1.out; have := HLN.out; omega) hS.size lo hi APX hHi ?_
                      clear hX APX
                      intro Aa32 ca32 u32 hX hb32 APX hM
                      replace hR := patb_mid hR hM
                      replace hHi := Nat.le_trans hHi hM.1
                      clear hM
                      replace hS := Below.trans hS hb32
                      clear hb32
                      obtain ⟨nX32, hn32⟩ : ∃ z, z = 0 + j := ⟨_, rfl⟩
                      rw [← hn32] at hX APX ⊢
                      have HN32 := Lib.hid hn32
                      clear hn32
                      refine hK.out _ _ hS (fun _ => ?_)
                      clear hK K
                      (try simp only [Act.put, List.getElem_toArray, List.getElem_cons_succ, List.getElem_cons_zero, List.setIfInBounds_toArray, List.set_cons_zero, List.set_cons_succ])
                      refine wpAnyH_ready (rs := [14]) (by kernel_rfl) (by simp) ?_
                      refine (AllReadyH.cons rfl (fun K hK => ?_) AllReadyH.nil)
                      · rw [if_pos (by kernel_rfl)]
                        refine wp_append_rb (.tmp 105) (.tmp 109) rfl W13.heap.size (l := [] ++ L.take j) (k := L.drop j1) (n := (L.length - j1)) rfl hX HK2.out rfl (cut_tail (pat_later pl hS) HCP.out j1) (by have := HJ.out; have := HJ1.out; have := HLN.out; have := HN32.out; omega) hS.size lo hi APX hHi ?_
                        clear hX APX
                        intro Aa33 ca33 u33 hX hb33 APX hM
                        replace hR := patb_mid hR hM
                        replace hHi := Nat.le_trans hHi hM.1
                        clear hM
                        replace hS := Below.trans hS hb33
                        clear hb33
                        obtain ⟨nX33, hn33⟩ : ∃ z, z = nX32 + (L.length - j1) := ⟨_, rfl⟩
                        rw [← hn33] at hX APX ⊢
                        have HN33 := Lib.hid hn33
                        clear hn33
                        refine hK.out _ _ hS (fun _ => ?_)
                        clear hK K
                        (try simp only [Act.put, List.getElem_toArray, List.getElem_cons_succ, List.getElem_cons_zero, List.setIfInBounds_toArray, List.set_cons_zero, List.set_cons_succ])
                        refine wpAnyH_ready (rs := [15]) (by kernel_rfl) (by simp) ?_
                        refine (AllReadyH.cons rfl (fun K hK => ?_) AllReadyH.nil)
                        · rw [if_pos (by kernel_rfl)]
                          have hnn : ([] ++ L.take j ++ L.drop j1).length = nX33 := by have := HN32.out; have := HN33.out; simp only [List.length_append, List.length_nil, HK1.out, HK2.out]; omega
                          have hn5 : nX33 ≤ 100000 := by have := HN32.out; have := HN33.out; have := HLN.out; have := HJ.out; have := HJ1.out; omega
                          go_simp
                          go_at_call 24
                          refine (rrefs_l (l := L.take j ++ L.drop j1) (k := [] ++ L.take j ++ L.drop j1) (R := true) (by simp) HRL.out hnn HNB.out hn5 _ _ _ (patb_at hR hHi) (own2_at hX)).mono ?_
                          rintro _ u34 ⟨rfl, hb34⟩
                          replace hS := Below.step hS hb34
                          clear hR hHi hX APX hnn hn5 hb34
                          (repeat (first | go_skip | go_guarded | go_step | go_upon))
                          refine hK.out _ _ hS (fun _ => ?_)
                          clear hK K
                          (try simp only [Act.put, List.getElem_toArray, List.getElem_cons_succ, List.getElem_cons_zero, List.setIfInBounds_toArray, List.set_cons_zero, List.set_cons_succ])
                          refine wpAnyH_takeS HNS (i := 16) (v := .bool true) rfl (by kernel_rfl) (by kernel_rfl) (fun _ _ _ h => h) (Or.inl ⟨by kernel_rfl, fun W hW => ?_⟩) hS ?_
                          · go_simp
                          simp only [Act.put, List.getElem_toArray, List.getElem_cons_succ, List.getElem_cons_zero, List.setIfInBounds_toArray, List.set_cons_zero, List.set_cons_succ]
                          refine wpAnyH_takeS HNS (i := 17) (v := .bool true) rfl (by kernel_rfl) (by kernel_rfl) (fun _ _ _ h => h) (Or.inl ⟨by kernel_rfl, fun W hW => ?_⟩) hS ?_
                          · go_simp
                          simp only [Act.put, List.getElem_toArray, List.getElem_cons_succ, List.getElem_cons_zero, List.setIfInBounds_toArray, List.set_cons_zero, List.set_cons_succ]
                          refine wpAnyH_done (by kernel_rfl) ?_ _
                          (repeat (first | go_skip | go_guarded | go_step | go_upon))
                          go_ret
                          exact ⟨rfl, Below.step hW hS⟩
      · have hltI : decide ((k : Int) < ((L.length : Nat) : Int)) = false := decide_eq_false (by omega)
        have hltN : ¬ k < L.length := hlt
        go_upto_region 8 with (fail)
        have hdr := (Below.refl wr.heap.size wr).drew
        replace v3 := v3.below hdr
        replace v9 := Held.below v9 hdr
        replace pl := pat_later pl hdr
        replace pm := pat_later pm hdr
        replace hW := Below.step hW hdr
        have HWD := Lib.hid (Below.step HWR.out hdr)
        clear hdr
        have HV2 := Lib.hid (And.intro v3 (And.intro v9 (And.intro pl (And.intro pm hW))))
        clear v3 pl pm hW
        refine wp_region_held_drew (S := fun W => Below wr.drew.heap.size wr.drew W) (by kernel_rfl) (Below.refl _ _) (fun hS => ?_)
        generalize wr.drew = W8 at *
        show wpAnyH _ _ _ _ _ 14 #[false, false, false, false, false, false, false, false, false, false, false, false, false, false] _ _
        refine wpAnyH_begin (by kernel_rfl) (fun HNS => ?_)
        refine wpAnyH_takeS HNS (i := 0) (v := .int .i64 k) rfl (by kernel_rfl) (by kernel_rfl) (fun _ _ _ h => h) (Or.inl ⟨by kernel_rfl, fun W hW => ?_⟩) hS ?_
        · go_simp
        simp only [Act.put, List.getElem_toArray, List.getElem_cons_succ, List.getElem_cons_zero, List.setIfInBounds_toArray, List.set_cons_zero, List.set_cons_succ]
        refine wpAnyH_takeS HNS (i := 1) (v := .slice A7 L.length c7) rfl (by kernel_rfl) (by kernel_rfl) (fun _ _ _ h => h) (Or.inl ⟨by kernel_rfl, fun W hW => ?_⟩) hS ?_
        · go_simp
        simp only [Act.put, List.getElem_toArray, List.getElem_cons_succ, List.getElem_cons_zero, List.setIfInBounds_toArray, List.set_cons_zero, List.set_cons_succ]
        refine wpAnyH_takeS HNS (i := 2) (v := .int .i64 (L.length : Nat)) rfl (by kernel_rfl) (by kernel_rfl) (fun _ _ _ h => h) (Or.inl ⟨by kernel_rfl, fun W hW => ?_⟩) hS ?_
        · go_simp
        simp only [Act.put, List.getElem_toArray, List.getElem_cons_succ, List.getElem_cons_zero, List.setIfInBounds_toArray, List.set_cons_zero, List.set_cons_succ]
        refine wpAnyH_takeS HNS (i := 3) (v := .bool false) rfl (by kernel_rfl) (by kernel_rfl) (fun _ _ _ h => h) (Or.inl ⟨by kernel_rfl, fun W hW => ?_⟩) hS ?_
        · go_simp
        simp only [Act.put, List.getElem_toArray, List.getElem_cons_succ, List.getElem_cons_zero, List.setIfInBounds_toArray, List.set_cons_zero, List.set_cons_succ]
        refine wpAnyH_takeS HNS (i := 4) (v := .bool false) rfl (by kernel_rfl) (by kernel_rfl) (fun _ _ _ h => h) (Or.inl ⟨by kernel_rfl, fun W hW => ?_⟩) hS ?_
        · go_simp
        simp only [Act.put, List.getElem_toArray, List.getElem_cons_succ, List.getElem_cons_zero, List.setIfInBounds_toArray, List.set_cons_zero, List.set_cons_succ]
        refine wpAnyH_takeS HNS (i := 5) (v := undef) rfl (by kernel_rfl) (by kernel_rfl) (fun _ _ _ h => h) (Or.inr ⟨by kernel_rfl, rfl⟩) hS ?_
        simp only [Act.put, List.getElem_toArray, List.getElem_cons_succ, List.getElem_cons_zero, List.setIfInBounds_toArray, List.set_cons_zero, List.set_cons_succ]
        refine wpAnyH_takeS HNS (i := 6) (v := undef) rfl (by kernel_rfl) (by kernel_rfl) (fun _ _ _ h => h) (Or.inr ⟨by kernel_rfl, rfl⟩) hS ?_
        simp only [Act.put, List.getElem_toArray, List.getElem_cons_succ, List.getElem_cons_zero, List.setIfInBounds_toArray, List.set_cons_zero, List.set_cons_succ]
        refine wpAnyH_takeS HNS (i := 7) (v := undef) rfl (by kernel_rfl) (by kernel_rfl) (fun _ _ _ h => h) (Or.inr ⟨by kernel_rfl, rfl⟩) hS ?_
        simp only [Act.put, List.getElem_toArray, List.getElem_cons_succ, List.getElem_cons_zero, List.setIfInBounds_toArray, List.set_cons_zero, List.set_cons_succ]
        refine wpAnyH_takeS HNS (i := 8) (v := undef) rfl (by kernel_rfl) (by kernel_rfl) (fun _ _ _ h => h) (Or.inr ⟨by kernel_rfl, rfl⟩) hS ?_
        simp only [Act.put, List.getElem_toArray, List.getElem_cons_succ, List.getElem_cons_zero, List.setIfInBounds_toArray, List.set_cons_zero, List.set_cons_succ]
        refine wpAnyH_takeS HNS (i := 9) (v := undef) rfl (by kernel_rfl) (by kernel_rfl) (fun _ _ _ h => h) (Or.inr ⟨by kernel_rfl, rfl⟩) hS ?_
        simp only [Act.put, List.getElem_toArray, List.getElem_cons_succ, List.getElem_cons_zero, List.setIfInBounds_toArray, List.set_cons_zero, List.set_cons_succ]
        refine wpAnyH_takeS HNS (i := 10) (v := undef) rfl (by kernel_rfl) (by kernel_rfl) (fun _ _ _ h => h) (Or.inr ⟨by kernel_rfl, rfl⟩) hS ?_
        simp only [Act.put, List.getElem_toArray, List.getElem_cons_succ, List.getElem_cons_zero, List.setIfInBounds_toArray, List.set_cons_zero, List.set_cons_succ]
        refine wpAnyH_takeS HNS (i := 11) (v := undef) rfl (by kernel_rfl) (by kernel_rfl) (fun _ _ _ h => h) (Or.inr ⟨by kernel_rfl, rfl⟩) hS ?_
        simp only [Act.put, List.getElem_toArray, List.getElem_cons_succ, List.getElem_cons_zero, List.setIfInBounds_toArray, List.set_cons_zero, List.set_cons_succ]
        refine wpAnyH_takeS HNS (i := 12) (v := undef) rfl (by kernel_rfl) (by kernel_rfl) (fun _ _ _ h => h) (Or.inr ⟨by kernel_rfl, rfl⟩) hS ?_
        simp only [Act.put, List.getElem_toArray, List.getElem_cons_succ, List.getElem_cons_zero, List.setIfInBounds_toArray, List.set_cons_zero, List.set_cons_succ]
        refine wpAnyH_takeS HNS (i := 13) (v := .bool false) rfl (by kernel_rfl) (by kernel_rfl) (fun _ _ _ h => h) (Or.inl ⟨by kernel_rfl, fun W hW => ?_⟩) hS ?_
        · go_simp
        simp only [Act.put, List.getElem_toArray, List.getElem_cons_succ, List.getElem_cons_zero, List.setIfInBounds_toArray, List.set_cons_zero, List.set_cons_succ]
        refine wpAnyH_done (by kernel_rfl) ?_ _
        obtain rfl : k = n1 := by have := HN1.out; omega
        have HCX := Lib.hid hkL
        clear hlt hltI v9 HWD HWR HV hltN
        obtain ⟨v3, v9, pl, pm, hW⟩ := HV2.out
        clear HV2
        go_upto_region 10 with (fail)
        go_cut [13] from 63 to 74 (fun v wx => ∃ Aw cw, v = .slice Aw RA.length cw ∧ PAt wx wx.heap.size Aw (L.take k ++ [(r.1, r.2)] ++ L.drop k) ∧ Below W8.heap.size W8 wx)
        case first =>
          have hdr := (Below.refl W8.heap.size W8).drew
          have HDR := Lib.hid hdr
          replace v9 := Held.below v9 hdr
          replace pl := pat_later pl hdr
          clear hdr pm v3 hW
          refine wp_region_held_drew (S := fun W => Below W8.drew.heap.size W8.drew W) (by kernel_rfl) (Below.refl _ _) (fun hS => ?_)
          generalize W8.drew = W10 at *
          show wpAnyH _ _ _ _ _ 13 #[false, false, false, false, false, false, false, false, false, false, false, false, false] _ _
          refine wpAnyH_begin (by kernel_rfl) (fun HNS => ?_)
          have C1 := fun W => run_cut_head A7 L.length c7 k (by have := HCP.out; have := HCX.out; omega) W
          have C2 := fun W => run_cut_tail A7 L.length c7 k HCX.out W
          have HK1 := Lib.hid (show (L.take k).length = k by rw [List.length_take]; have := HCX.out; omega)
          have HK2 := Lib.hid (show (L.drop k).length = L.length - k by rw [List.length_drop])
          refine wpAnyH_takeS HNS (i := 1) (v := .slice A7 L.length c7) rfl (by kernel_rfl) (by kernel_rfl) (fun _ _ _ h => h) (Or.inl ⟨by kernel_rfl, fun W hW => ?_⟩) hS ?_
          · go_simp
          simp only [Act.put, List.getElem_toArray, List.getElem_cons_succ, List.getElem_cons_zero, List.setIfInBounds_toArray, List.set_cons_zero, List.set_cons_succ]
          refine wpAnyH_takeS HNS (i := 2) (v := .int .i64 k) rfl (by kernel_rfl) (by kernel_rfl) (fun _ _ _ h => h) (Or.inl ⟨by kernel_rfl, fun W hW => ?_⟩) hS ?_
          · go_simp
          simp only [Act.put, List.getElem_toArray, List.getElem_cons_succ, List.getElem_cons_zero, List.setIfInBounds_toArray, List.set_cons_zero, List.set_cons_succ]
          refine wpAnyH_takeS HNS (i := 3) (v := .slice (cutA A7 c7 0) k c7) rfl (by kernel_rfl) (by kernel_rfl) (fun _ _ _ h => h) (Or.inl ⟨by kernel_rfl, fun W hW => ?_⟩) hS ?_
          · (simp only [execOp, Act.eval]; go_simp)
          simp only [Act.put, List.getElem_toArray, List.getElem_cons_succ, List.getElem_cons_zero, List.setIfInBounds_toArray, List.set_cons_zero, List.set_cons_succ]
          refine wpAnyH_takeS HNS (i := 5) (v := .agg #[.int .i64 r.1, .int .i64 r.2]) rfl (by kernel_rfl) (by kernel_rfl) (fun _ _ _ h => h) (Or.inl ⟨by kernel_rfl, fun W hW => ?_⟩) hS ?_
          · (have hz := Held.below v9 hW; have z0 := hz.cell 0; have z1 := hz.cell 1; simp at z0 z1; go_simp)
          simp only [Act.put, List.getElem_toArray, List.getElem_cons_succ, List.getElem_cons_zero, List.setIfInBounds_toArray, List.set_cons_zero, List.set_cons_succ]
          refine wpAnyH_takeS HNS (i := 8) (v := .slice A7 L.length c7) rfl (by kernel_rfl) (by kernel_rfl) (fun _ _ _ h => h) (Or.inl ⟨by kernel_rfl, fun W hW => ?_⟩) hS ?_
          · go_simp
          simp only [Act.put, List.getElem_toArray, List.getElem_cons_succ, List.getElem_cons_zero, List.setIfInBounds_toArray, List.set_cons_zero, List.set_cons_succ]
          refine wpAnyH_takeS HNS (i := 9) (v := .int .i64 k) rfl (by kernel_rfl) (by kernel_rfl) (fun _ _ _ h => h) (Or.inl ⟨by kernel_rfl, fun W hW => ?_⟩) hS ?_
          · go_simp
          simp only [Act.put, List.getElem_toArray, List.getElem_cons_succ, List.getElem_cons_zero, List.setIfInBounds_toArray, List.set_cons_zero, List.set_cons_succ]
          refine wpAnyH_takeS HNS (i := 10) (v := .slice (cutA A7 c7 k) (L.length - k) (c7 - k)) rfl (by kernel_rfl) (by kernel_rfl) (fun _ _ _ h => h) (Or.inl ⟨by kernel_rfl, fun W hW => ?_⟩) hS ?_
          · (simp only [execOp, Act.eval]; go_simp)
          simp only [Act.put, List.getElem_toArray, List.getElem_cons_succ, List.getElem_cons_zero, List.setIfInBounds_toArray, List.set_cons_zero, List.set_cons_succ]
          refine wpAnyH_ready (rs := [0, 6]) (by kernel_rfl) (by simp) ?_
          refine (AllReadyH.cons rfl (fun K hK => ?_) (AllReadyH.cons rfl (fun K hK => ?_) AllReadyH.nil))
          · rw [if_pos (by kernel_rfl)]
            refine wp_build0R rfl ?_
            have hbA := ((Below.refl _ _).alloc (Nat.le_refl _) _ : Below W10.heap.size W10 (W10.alloc (.cells #[] 27)))
            have hX0 : OwnR (W10.alloc (.cells #[] 27)) W10.heap.size (.slice (some ⟨W10.heap.size, 0, none⟩) 0 0) [] := Own2.made 27 W10
            have hX := (r_mono hX0 hS.size : OwnR (W10.alloc (.cells #[] 27)) W10.heap.size (.slice (some ⟨W10.heap.size, 0, none⟩) 0 0) [])
            clear hX0
            replace hS := Below.step hS hbA
            clear hbA
            generalize (W10.alloc (.cells #[] 27)) = u35 at *
            refine hK.out _ _ hS (fun _ => ?_)
            clear hK K
            (try simp only [Act.put, List.getElem_toArray, List.getElem_cons_succ, List.getElem_cons_zero, List.setIfInBounds_toArray, List.set_cons_zero, List.set_cons_succ])
            refine wpAnyH_ready (rs := [4, 6]) (by kernel_rfl) (by simp) ?_
            refine (AllReadyH.cons rfl (fun K hK => ?_) (AllReadyH.cons rfl (fun K hK => ?_) AllReadyH.nil))
            · rw [if_pos (by kernel_rfl)]
              refine wp_append_rb (.tmp 63) (.tmp 66) rfl W10.heap.size (l := []) (k := L.take k) (n := k) rfl hX HK1.out rfl (cut_head (pat_later pl hS) HCP.out k) (by have := HCX.out; have := HLN.out; omega) hS.size 0 0 (apart0 _) (Nat.zero_le _) ?_
              clear hX
              intro Aa36 ca36 u36 hX hb36 APX hM
              clear APX
              clear hM
              replace hS := Below.trans hS hb36
              clear hb36
              obtain ⟨nX36, hn36⟩ : ∃ z, z = 0 + k := ⟨_, rfl⟩
              rw [← hn36] at hX ⊢
              have HN36 := Lib.hid hn36
              clear hn36
              refine hK.out _ _ hS (fun _ => ?_)
              clear hK K
              (try simp only [Act.put, List.getElem_toArray, List.getElem_cons_succ, List.getElem_cons_zero, List.setIfInBounds_toArray, List.set_cons_zero, List.set_cons_succ])
              refine wpAnyH_ready (rs := [6]) (by kernel_rfl) (by simp) ?_
              refine (AllReadyH.cons rfl (fun K hK => ?_) AllReadyH.nil)
              · rw [if_pos (by kernel_rfl)]
                refine wp_build1R rfl rfl ?_
                have hbA := ((Below.refl _ _).alloc (Nat.le_refl _) _ : Below u36.heap.size u36 (u36.alloc (.cells #[.int .i64 r.1, .int .i64 r.2] 27)))
                have APX : Apart (.slice Aa36 nX36 ca36) u36.heap.size (u36.heap.size + 1) := fun g e => .inl (hX.lt g e).2
                replace hX := own_later hX hbA
                have hR := (patb_one r.1 r.2 : PAtB (u36.alloc (.cells #[.int .i64 r.1, .int .i64 r.2] 27)) u36.heap.size (u36.heap.size + 1) _ _)
                have hHi := (patb_one_hi r.1 r.2 : u36.heap.size + 1 ≤ (u36.alloc (.cells #[.int .i64 r.1, .int .i64 r.2] 27)).heap.size)
                replace hS := Below.step hS hbA
                clear hbA
                generalize (u36.alloc (.cells #[.int .i64 r.1, .int .i64 r.2] 27)) = u37 at *
                obtain ⟨gO, hgO⟩ : ∃ z, z = u36.heap.size := ⟨_, rfl⟩
                rw [← hgO] at hR hHi ⊢
                rw [← hgO] at APX
                clear hgO
                obtain ⟨lo, hlo⟩ : ∃ z, z = gO := ⟨_, rfl⟩
                obtain ⟨hi, hhi⟩ : ∃ z, z = gO + 1 := ⟨_, rfl⟩
                rw [← hhi] at hR hHi APX
                rw [show PAtB u37 gO hi = PAtB u37 lo hi by rw [hlo]] at hR
                rw [← hlo] at APX
                clear hlo hhi
                refine hK.out _ _ hS (fun _ => ?_)
                clear hK K
                (try simp only [Act.put, List.getElem_toArray, List.getElem_cons_succ, List.getElem_cons_zero, List.setIfInBounds_toArray, List.set_cons_zero, List.set_cons_succ])
                refine wpAnyH_ready (rs := [7]) (by kernel_rfl) (by simp) ?_
                refine (AllReadyH.cons rfl (fun K hK => ?_) AllReadyH.nil)
                · rw [if_pos (by kernel_rfl)]
                  refine wp_append_rb (.tmp 67) (.tmp 69) rfl W10.heap.size (l := [] ++ L.take k) (k := [(r.1, r.2)]) (n := 1) rfl hX rfl rfl (patb_at hR hHi) (by have := HN36.out; have := HCX.out; have := HLN.out; omega) hS.size 0 0 (apart0 _) (Nat.zero_le _) ?_
                  clear hX APX
                  intro Aa38 ca38 u38 hX hb38 APX hM
                  clear hR hHi
                  clear APX
                  clear hM
                  replace hS := Below.trans hS hb38
                  clear hb38
                  obtain ⟨nX38, hn38⟩ : ∃ z, z = nX36 + 1 := ⟨_, rfl⟩
                  rw [← hn38] at hX ⊢
                  have HN38 := Lib.hid hn38
                  clear hn38
                  refine hK.out _ _ hS (fun _ => ?_)
                  clear hK K
                  (try simp only [Act.put, List.getElem_toArray, List.getElem_cons_succ, List.getElem_cons_zero, List.setIfInBounds_toArray, List.set_cons_zero, List.set_cons_succ])
                  refine wpAnyH_ready (rs := [11]) (by kernel_rfl) (by simp) ?_
                  refine (AllReadyH.cons rfl (fun K hK => ?_) AllReadyH.nil)
                  · rw [if_pos (by kernel_rfl)]
                    refine wp_append_rb (.tmp 70) (.tmp 73) rfl W10.heap.size (l := [] ++ L.take k ++ [(r.1, r.2)]) (k := L.drop k) (n := (L.length - k)) rfl hX HK2.out rfl (cut_tail (pat_later pl hS) HCP.out k) (by have := HN38.out; have := HN36.out; have := HCX.out; have := HLN.out; omega) hS.size 0 0 (apart0 _) (Nat.zero_le _) ?_
                    clear hX
                    intro Aa39 ca39 u39 hX hb39 APX hM
                    clear APX
                    clear hM
                    replace hS := Below.trans hS hb39
                    clear hb39
                    obtain ⟨nX39, hn39⟩ : ∃ z, z = nX38 + (L.length - k) := ⟨_, rfl⟩
                    rw [← hn39] at hX ⊢
                    have HN39 := Lib.hid hn39
                    clear hn39
                    refine hK.out _ _ hS (fun _ => ?_)
                    clear hK K
                    (try simp only [Act.put, List.getElem_toArray, List.getElem_cons_succ, List.getElem_cons_zero, List.setIfInBounds_toArray, List.set_cons_zero, List.set_cons_succ])
                    refine wpAnyH_takeS HNS (i := 12) (v := .slice Aa39 nX39 ca39) rfl (by kernel_rfl) (by kernel_rfl) (fun _ _ _ h => h) (Or.inl ⟨by kernel_rfl, fun W hW => ?_⟩) hS ?_
                    · go_simp
                    simp only [Act.put, List.getElem_toArray, List.getElem_cons_succ, List.getElem_cons_zero, List.setIfInBounds_toArray, List.set_cons_zero, List.set_cons_succ]
                    refine wpAnyH_done (by kernel_rfl) ?_ _
                    have hnn : nX39 = RA.length := by
                      have q1 := HN36.out
                      have q2 := HN38.out
                      have q3 := HN39.out
                      rw [← HAL.out]
                      simp only [List.length_append, List.length_cons, List.length_nil, HK1.out, HK2.out]
                      omega
                    rw [hnn] at hX ⊢
                    have hpX := own2_at hX
                    rw [List.nil_append] at hpX
                    go_wp2_with fail
                    go_meet
                    case rel => exact ⟨_, _, rfl, hpX, Below.step HDR.out hS⟩
            · rw [if_pos (by kernel_rfl)]
              refine wp_build1R rfl rfl ?_
              have hbA := ((Below.refl _ _).alloc (Nat.le_refl _) _ : Below u35.heap.size u35 (u35.alloc (.cells #[.int .i64 r.1, .int .i64 r.2] 27)))
              have APX : Apart (.slice (some ⟨W10.heap.size, 0, none⟩) 0 0) u35.heap.size (u35.heap.size + 1) := fun g e => .inl (hX.lt g e).2
              replace hX := own_later hX hbA
              have hR := (patb_one r.1 r.2 : PAtB (u35.alloc (.cells #[.int .i64 r.1, .int .i64 r.2] 27)) u35.heap.size (u35.heap.size + 1) _ _)
              have hHi := (patb_one_hi r.1 r.2 : u35.heap.size + 1 ≤ (u35.alloc (.cells #[.int .i64 r.1, .int .i64 r.2] 27)).heap.size)
              replace hS := Below.step hS hbA
              clear hbA
              generalize (u35.alloc (.cells #[.int .i64 r.1, .int .i64 r.2] 27)) = u40 at *
              obtain ⟨gO, hgO⟩ : ∃ z, z = u35.heap.size := ⟨_, rfl⟩
              rw [← hgO] at hR hHi ⊢
              rw [← hgO] at APX
              clear hgO
              obtain ⟨lo, hlo⟩ : ∃ z, z = gO := ⟨_, rfl⟩
              obtain ⟨hi, hhi⟩ : ∃ z, z = gO + 1 := ⟨_, rfl⟩
              rw [← hhi] at hR hHi APX
              rw [show PAtB u40 gO hi = PAtB u40 lo hi by rw [hlo]] at hR
              rw [← hlo] at APX
              clear hlo hhi
              refine hK.out _ _ hS (fun _ => ?_)
              clear hK K
              (try simp only [Act.put, List.getElem_toArray, List.getElem_cons_succ, List.getElem_cons_zero, List.setIfInBounds_toArray, List.set_cons_zero, List.set_cons_succ])
              refine wpAnyH_ready (rs := [4]) (by kernel_rfl) (by simp) ?_
              refine (AllReadyH.cons rfl (fun K hK => ?_) AllReadyH.nil)
              · rw [if_pos (by kernel_rfl)]
                refine wp_append_rb (.tmp 63) (.tmp 66) rfl W10.heap.size (l := []) (k := L.take k) (n := k) rfl hX HK1.out rfl (cut_head (pat_later pl hS) HCP.out k) (by have := HCX.out; have := HLN.out; omega) hS.size lo hi APX hHi ?_
                clear hX APX
                intro Aa41 ca41 u41 hX hb41 APX hM
                replace hR := patb_mid hR hM
                replace hHi := Nat.le_trans hHi hM.1
                clear hM
                replace hS := Below.trans hS hb41
                clear hb41
                obtain ⟨nX41, hn41⟩ : ∃ z, z = 0 + k := ⟨_, rfl⟩
                rw [← hn41] at hX APX ⊢
                have HN41 := Lib.hid hn41
                clear hn41
                refine hK.out _ _ hS (fun _ => ?_)
                clear hK K
                (try simp only [Act.put, List.getElem_toArray, List.getElem_cons_succ, List.getElem_cons_zero, List.setIfInBounds_toArray, List.set_cons_zero, List.set_cons_succ])
                refine wpAnyH_ready (rs := [7]) (by kernel_rfl) (by simp) ?_
                refine (AllReadyH.cons rfl (fun K hK => ?_) AllReadyH.nil)
                · rw [if_pos (by kernel_rfl)]
                  refine wp_append_rb (.tmp 67) (.tmp 69) rfl W10.heap.size (l := [] ++ L.take k) (k := [(r.1, r.2)]) (n := 1) rfl hX rfl rfl (patb_at hR hHi) (by have := HN41.out; have := HCX.out; have := HLN.out; omega) hS.size 0 0 (apart0 _) (Nat.zero_le _) ?_
                  clear hX APX
                  intro Aa42 ca42 u42 hX hb42 APX hM
                  clear hR hHi
                  clear APX
                  clear hM
                  replace hS := Below.trans hS hb42
                  clear hb42
                  obtain ⟨nX42, hn42⟩ : ∃ z, z = nX41 + 1 := ⟨_, rfl⟩
                  rw [← hn42] at hX ⊢
                  have HN42 := Lib.hid hn42
                  clear hn42
                  refine hK.out _ _ hS (fun _ => ?_)
                  clear hK K
                  (try simp only [Act.put, List.getElem_toArray, List.getElem_cons_succ, List.getElem_cons_zero, List.setIfInBounds_toArray, List.set_cons_zero, List.set_cons_succ])
                  refine wpAnyH_ready (rs := [11]) (by kernel_rfl) (by simp) ?_
                  refine (AllReadyH.cons rfl (fun K hK => ?_) AllReadyH.nil)
                  · rw [if_pos (by kernel_rfl)]
                    refine wp_append_rb (.tmp 70) (.tmp 73) rfl W10.heap.size (l := [] ++ L.take k ++ [(r.1, r.2)]) (k := L.drop k) (n := (L.length - k)) rfl hX HK2.out rfl (cut_tail (pat_later pl hS) HCP.out k) (by have := HN42.out; have := HN41.out; have := HCX.out; have := HLN.out; omega) hS.size 0 0 (apart0 _) (Nat.zero_le _) ?_
                    clear hX
                    intro Aa43 ca43 u43 hX hb43 APX hM
                    clear APX
                    clear hM
                    replace hS := Below.trans hS hb43
                    clear hb43
                    obtain ⟨nX43, hn43⟩ : ∃ z, z = nX42 + (L.length - k) := ⟨_, rfl⟩
                    rw [← hn43] at hX ⊢
                    have HN43 := Lib.hid hn43
                    clear hn43
                    refine hK.out _ _ hS (fun _ => ?_)
                    clear hK K
                    (try simp only [Act.put, List.getElem_toArray, List.getElem_cons_succ, List.getElem_cons_zero, List.setIfInBounds_toArray, List.set_cons_zero, List.set_cons_succ])
                    refine wpAnyH_takeS HNS (i := 12) (v := .slice Aa43 nX43 ca43) rfl (by kernel_rfl) (by kernel_rfl) (fun _ _ _ h => h) (Or.inl ⟨by kernel_rfl, fun W hW => ?_⟩) hS ?_
                    · go_simp
                    simp only [Act.put, List.getElem_toArray, List.getElem_cons_succ, List.getElem_cons_zero, List.setIfInBounds_toArray, List.set_cons_zero, List.set_cons_succ]
                    refine wpAnyH_done (by kernel_rfl) ?_ _
                    have hnn : nX43 = RA.length := by
                      have q1 := HN41.out
                      have q2 := HN42.out
                      have q3 := HN43.out
                      rw [← HAL.out]
                      simp only [List.length_append, List.length_cons, List.length_nil, HK1.out, HK2.out]
                      omega
                    rw [hnn] at hX ⊢
                    have hpX := own2_at hX
                    rw [List.nil_append] at hpX
                    go_wp2_with fail
                    go_meet
                    case rel => exact ⟨_, _, rfl, hpX, Below.step HDR.out hS⟩
          · rw [if_pos (by kernel_rfl)]
            refine wp_build1R rfl rfl ?_
            have hbA := ((Below.refl _ _).alloc (Nat.le_refl _) _ : Below W10.heap.size W10 (W10.alloc (.cells #[.int .i64 r.1, .int .i64 r.2] 27)))
            have hR := (patb_one r.1 r.2 : PAtB (W10.alloc (.cells #[.int .i64 r.1, .int .i64 r.2] 27)) W10.heap.size (W10.heap.size + 1) _ _)
            have hHi := (patb_one_hi r.1 r.2 : W10.heap.size + 1 ≤ (W10.alloc (.cells #[.int .i64 r.1, .int .i64 r.2] 27)).heap.size)
            replace hS := Below.step hS hbA
            clear hbA
            generalize (W10.alloc (.cells #[.int .i64 r.1, .int .i64 r.2] 27)) = u44 at *
            obtain ⟨gO, hgO⟩ : ∃ z, z = W10.heap.size := ⟨_, rfl⟩
            rw [← hgO] at hR hHi ⊢
            clear hgO
            obtain ⟨lo, hlo⟩ : ∃ z, z = gO := ⟨_, rfl⟩
            obtain ⟨hi, hhi⟩ : ∃ z, z = gO + 1 := ⟨_, rfl⟩
            rw [← hhi] at hR hHi
            rw [show PAtB u44 gO hi = PAtB u44 lo hi by rw [hlo]] at hR
            clear hlo hhi
            refine hK.out _ _ hS (fun _ => ?_)
            clear hK K
            (try simp only [Act.put, List.getElem_toArray, List.getElem_cons_succ, List.getElem_cons_zero, List.setIfInBounds_toArray, List.set_cons_zero, List.set_cons_succ])
            refine wpAnyH_ready (rs := [0]) (by kernel_rfl) (by simp) ?_
            refine (AllReadyH.cons rfl (fun K hK => ?_) AllReadyH.nil)
            · rw [if_pos (by kernel_rfl)]
              refine wp_build0R rfl ?_
              have hbA := ((Below.refl _ _).alloc (Nat.le_refl _) _ : Below u44.heap.size u44 (u44.alloc (.cells #[] 27)))
              have hX0 : OwnR (u44.alloc (.cells #[] 27)) u44.heap.size (.slice (some ⟨u44.heap.size, 0, none⟩) 0 0) [] := Own2.made 27 u44
              have hX := (r_mono hX0 hS.size : OwnR (u44.alloc (.cells #[] 27)) W10.heap.size (.slice (some ⟨u44.heap.size, 0, none⟩) 0 0) [])
              have APX : Apart (.slice (some ⟨u44.heap.size, 0, none⟩) 0 0) lo hi := fun g e => .inr (Nat.le_trans hHi (hX0.lt g e).1)
              replace hR := patb_below hR hbA hHi
              replace hHi := Nat.le_trans hHi hbA.size
              clear hX0
              replace hS := Below.step hS hbA
              clear hbA
              generalize (u44.alloc (.cells #[] 27)) = u45 at *
              refine hK.out _ _ hS (fun _ => ?_)
              clear hK K
              (try simp only [Act.put, List.getElem_toArray, List.getElem_cons_succ, List.getElem_cons_zero, List.setIfInBounds_toArray, List.set_cons_zero, List.set_cons_succ])
              refine wpAnyH_ready (rs := [4]) (by kernel_rfl) (by simp) ?_
              refine (AllReadyH.cons rfl (fun K hK => ?_) AllReadyH.nil)
              · rw [if_pos (by kernel_rfl)]
                refine wp_append_rb (.tmp 63) (.tmp 66) rfl W10.heap.size (l := []) (k := L.take k) (n := k) rfl hX HK1.out rfl (cut_head (pat_later pl hS) HCP.out k) (by have := HCX.out; have := HLN.out; omega) hS.size lo hi APX hHi ?_
                clear hX APX
                intro Aa46 ca46 u46 hX hb46 APX hM
                replace hR := patb_mid hR hM
                replace hHi := Nat.le_trans hHi hM.1
                clear hM
                replace hS := Below.trans hS hb46
                clear hb46
                obtain ⟨nX46, hn46⟩ : ∃ z, z = 0 + k := ⟨_, rfl⟩
                rw [← hn46] at hX APX ⊢
                have HN46 := Lib.hid hn46
                clear hn46
                refine hK.out _ _ hS (fun _ => ?_)
                clear hK K
                (try simp only [Act.put, List.getElem_toArray, List.getElem_cons_succ, List.getElem_cons_zero, List.setIfInBounds_toArray, List.set_cons_zero, List.set_cons_succ])
                refine wpAnyH_ready (rs := [7]) (by kernel_rfl) (by simp) ?_
                refine (AllReadyH.cons rfl (fun K hK => ?_) AllReadyH.nil)
                · rw [if_pos (by kernel_rfl)]
                  refine wp_append_rb (.tmp 67) (.tmp 69) rfl W10.heap.size (l := [] ++ L.take k) (k := [(r.1, r.2)]) (n := 1) rfl hX rfl rfl (patb_at hR hHi) (by have := HN46.out; have := HCX.out; have := HLN.out; omega) hS.size 0 0 (apart0 _) (Nat.zero_le _) ?_
                  clear hX APX
                  intro Aa47 ca47 u47 hX hb47 APX hM
                  clear hR hHi
                  clear APX
                  clear hM
                  replace hS := Below.trans hS hb47
                  clear hb47
                  obtain ⟨nX47, hn47⟩ : ∃ z, z = nX46 + 1 := ⟨_, rfl⟩
                  rw [← hn47] at hX ⊢
                  have HN47 := Lib.hid hn47
                  clear hn47
                  refine hK.out _ _ hS (fun _ => ?_)
                  clear hK K
                  (try simp only [Act.put, List.getElem_toArray, List.getElem_cons_succ, List.getElem_cons_zero, List.setIfInBounds_toArray, List.set_cons_zero, List.set_cons_succ])
                  refine wpAnyH_ready (rs := [11]) (by kernel_rfl) (by simp) ?_
                  refine (AllReadyH.cons rfl (fun K hK => ?_) AllReadyH.nil)
                  · rw [if_pos (by kernel_rfl)]
                    refine wp_append_rb (.tmp 70) (.tmp 73) rfl W10.heap.size (l := [] ++ L.take k ++ [(r.1, r.2)]) (k := L.drop k) (n := (L.length - k)) rfl hX HK2.out rfl (cut_tail (pat_later pl hS) HCP.out k) (by have := HN47.out; have := HN46.out; have := HCX.out; have := HLN.out; omega) hS.size 0 0 (apart0 _) (Nat.zero_le _) ?_
                    clear hX
                    intro Aa48 ca48 u48 hX hb48 APX hM
                    clear APX
                    clear hM
                    replace hS := Below.trans hS hb48
                    clear hb48
                    obtain ⟨nX48, hn48⟩ : ∃ z, z = nX47 + (L.length - k) := ⟨_, rfl⟩
                    rw [← hn48] at hX ⊢
                    have HN48 := Lib.hid hn48
                    clear hn48
                    refine hK.out _ _ hS (fun _ => ?_)
                    clear hK K
                    (try simp only [Act.put, List.getElem_toArray, List.getElem_cons_succ, List.getElem_cons_zero, List.setIfInBounds_toArray, List.set_cons_zero, List.set_cons_succ])
                    refine wpAnyH_takeS HNS (i := 12) (v := .slice Aa48 nX48 ca48) rfl (by kernel_rfl) (by kernel_rfl) (fun _ _ _ h => h) (Or.inl ⟨by kernel_rfl, fun W hW => ?_⟩) hS ?_
                    · go_simp
                    simp only [Act.put, List.getElem_toArray, List.getElem_cons_succ, List.getElem_cons_zero, List.setIfInBounds_toArray, List.set_cons_zero, List.set_cons_succ]
                    refine wpAnyH_done (by kernel_rfl) ?_ _
                    have hnn : nX48 = RA.length := by
                      have q1 := HN46.out
                      have q2 := HN47.out
                      have q3 := HN48.out
                      rw [← HAL.out]
                      simp only [List.length_append, List.length_cons, List.length_nil, HK1.out, HK2.out]
                      omega
                    rw [hnn] at hX ⊢
                    have hpX := own2_at hX
                    rw [List.nil_append] at hpX
                    go_wp2_with fail
                    go_meet
                    case rel => exact ⟨_, _, rfl, hpX, Below.step HDR.out hS⟩
        case rest =>
          obtain ⟨Aw, cw, rfl, pw, hwc⟩ := hcut
          replace v3 := v3.below hwc
          replace pl := pat_later pl hwc
          replace pm := pat_later pm hwc
          replace hW := Below.step hW hwc
          clear hwc v9
          go_upto_region 13 with (first
            | (go_at_call 24; (with_reducible refine (rrefs_l (R := true) (decide_eq_true HRE.out) rfl HAL.out HNA.out HNA.out _ _ _ pm pw).mono ?_); rintro _ uz ⟨rfl, hbz⟩; replace v3 := v3.below hbz; replace pl := pat_later pl hbz; replace hW := Below.step hW hbz; clear hbz))
          clear pm pw
          have hcs : (decide (at_ < 0) = true) ∨ (decide (at_ < 0) = false ∧ decide (((L.length : Nat) : Int) ≤ at_) = true) ∨ (decide (at_ < 0) = false ∧ decide (((L.length : Nat) : Int) ≤ at_) = false ∧ 0 ≤ at_ ∧ at_ < ((L.length : Nat) : Int)) := by
            simp only [decide_eq_true_eq, decide_eq_false_iff_not]
            omega
          rcases hcs with e1 | ⟨e1, e2⟩ | ⟨e1, e2, ha0, ha1⟩
          case inl => 
            go_wp2_with fail
            go_ret
            exact ⟨rfl, hW⟩
          case inr.inl =>
            go_wp2_with fail
            go_ret
            exact ⟨rfl, hW⟩
          case inr.inr =>
            go_upto_region 15 with (fail)
            clear e1 e2
            obtain ⟨j, rfl⟩ : ∃ j : Nat, at_ = j := ⟨at_.toNat, by omega⟩
            have hj : j < L.length := by omega
            obtain ⟨SB, hSB, hRB⟩ := drop_split H4.out HLR.out hj
            obtain ⟨j1, hj1⟩ : ∃ z, z = j + 1 := ⟨_, rfl⟩
            rw [← hj1] at hRB
            have HJ1 := Lib.hid hj1
            have LB := (drop_sm hSB HSP.out).len (by decide)
            obtain ⟨b, off, rfl, hbl0, hc7⟩ := pl (by omega)
            obtain ⟨y0, y1⟩ := hc7 j hj
            have HD := Lib.hid hSB
            have HRB := Lib.hid hRB
            have HJ := Lib.hid hj
            clear hSB hRB hc7 hj1
            have hbl : b < uz.heap.size := block_lt_of_cell y0
            generalize L[j] = rj at *
            go_cut [14, 15] from 87 to 112 (fun vb ve wx => ∃ k A14 c14 B14 d14, vb = .pointer (some ⟨k, 0, none⟩) ∧ ve = .int .i64 0 ∧ PV wx k A14 c14 B14 d14 SB ∧ Below uz.heap.size uz wx)
            case first =>
              have hdr := (Below.refl uz.heap.size uz).drew
              have HDR := Lib.hid hdr
              replace v3 := v3.below hdr
              replace y0 := (hdr.cell (p := ⟨b, _, none⟩) hbl).trans y0
              replace y1 := (hdr.cell (p := ⟨b, _, none⟩) hbl).trans y1
              replace hbl : b < uz.drew.heap.size := hbl
              clear hdr
              refine wp_region_held_drew (S := fun W => Below uz.drew.heap.size uz.drew W) (by kernel_rfl) (Below.refl _ _) (fun hS => ?_)
              generalize uz.drew = Wq at *
              show wpAnyH _ _ _ _ _ 12 #[false, false, false, false, false, false, false, false, false, false, false, false] _ _
              refine wpAnyH_begin (by kernel_rfl) (fun HNS => ?_)
              refine wpAnyH_takeS HNS (i := 0) (v := .agg (pc A p.cells.length c A2 p.free.length c2 p.most)) rfl (by kernel_rfl) (by kernel_rfl) (fun _ _ _ h => h) (Or.inl ⟨by kernel_rfl, fun W hW => ?_⟩) hS ?_
              · (have hz := Held.below v3.x hW; have z0 := hz.cell 0; have z1 := hz.cell 1; have z2 := hz.cell 2; simp at z0 z1 z2; go_simp)
              simp only [Act.put, List.getElem_toArray, List.getElem_cons_succ, List.getElem_cons_zero, List.setIfInBounds_toArray, List.set_cons_zero, List.set_cons_succ]
              refine wpAnyH_takeS HNS (i := 1) (v := .slice (some ⟨b, off, none⟩) L.length c7) rfl (by kernel_rfl) (by kernel_rfl) (fun _ _ _ h => h) (Or.inl ⟨by kernel_rfl, fun W hW => ?_⟩) hS ?_
              · go_simp
              simp only [Act.put, List.getElem_toArray, List.getElem_cons_succ, List.getElem_cons_zero, List.setIfInBounds_toArray, List.set_cons_zero, List.set_cons_succ]
              refine wpAnyH_takeS HNS (i := 2) (v := .int .i64 j) rfl (by kernel_rfl) (by kernel_rfl) (fun _ _ _ h => h) (Or.inl ⟨by kernel_rfl, fun W hW => ?_⟩) hS ?_
              · go_simp
              simp only [Act.put, List.getElem_toArray, List.getElem_cons_succ, List.getElem_cons_zero, List.setIfInBounds_toArray, List.set_cons_zero, List.set_cons_succ]
              refine wpAnyH_takeS HNS (i := 3) (v := .pointer (some ⟨b, off + j * 2, none⟩)) rfl (by kernel_rfl) (by kernel_rfl) (fun _ _ _ h => h) (Or.inl ⟨by kernel_rfl, fun W hW => ?_⟩) hS ?_
              · go_simp
              simp only [Act.put, List.getElem_toArray, List.getElem_cons_succ, List.getElem_cons_zero, List.setIfInBounds_toArray, List.set_cons_zero, List.set_cons_succ]
              refine wpAnyH_takeS HNS (i := 4) (v := .agg #[.int .i64 rj.1, .int .i64 rj.2]) rfl (by kernel_rfl) (by kernel_rfl) (fun _ _ _ h => h) (Or.inl ⟨by kernel_rfl, fun W hW => ?_⟩) hS ?_
              · (have z0 := (hW.cell (p := ⟨b, _, none⟩) hbl).trans y0; have z1 := (hW.cell (p := ⟨b, _, none⟩) hbl).trans y1; go_simp)
              simp only [Act.put, List.getElem_toArray, List.getElem_cons_succ, List.getElem_cons_zero, List.setIfInBounds_toArray, List.set_cons_zero, List.set_cons_succ]
              refine wpAnyH_ready (rs := [5, 9]) (by kernel_rfl) (by simp) ?_
              refine (AllReadyH.cons rfl (fun K hK => ?_) (AllReadyH.cons rfl (fun K hK => ?_) AllReadyH.nil))
              · rw [if_pos (by kernel_rfl)]
                go_simp
                go_at_call 16
                (with_reducible refine (drop_c HD.out LP c c2 _ (v3.below hS).p).mono ?_)
                rintro _ u9 ⟨A9, c9, B9, d9, rfl, ho9, hb9⟩
                replace hS := Below.step hS hb9
                have hoz := OwnZ.mono ho9 (Nat.zero_le _)
                (repeat (first | go_skip | go_guarded | go_step | go_upon))
                refine hK.out _ _ hS (fun _ => ?_)
                clear hK K
                (try simp only [Act.put, List.getElem_toArray, List.getElem_cons_succ, List.getElem_cons_zero, List.setIfInBounds_toArray, List.set_cons_zero, List.set_cons_succ])
                refine wpAnyH_takeS HNS (i := 6) (v := .tuple #[.agg (pc A9 SB.cells.length c9 B9 SB.free.length d9 SB.most), .int .i64 0]) rfl (by kernel_rfl) (by kernel_rfl) (fun _ _ _ h => h) (Or.inl ⟨by kernel_rfl, fun W hW => ?_⟩) hS ?_
                · go_simp
                simp only [Act.put, List.getElem_toArray, List.getElem_cons_succ, List.getElem_cons_zero, List.setIfInBounds_toArray, List.set_cons_zero, List.set_cons_succ]
                refine wpAnyH_takeS HNS (i := 7) (v := .agg (pc A9 SB.cells.length c9 B9 SB.free.length d9 SB.most)) rfl (by kernel_rfl) (by kernel_rfl) (fun _ _ _ h => h) (Or.inl ⟨by kernel_rfl, fun W hW => ?_⟩) hS ?_
                · go_simp
                simp only [Act.put, List.getElem_toArray, List.getElem_cons_succ, List.getElem_cons_zero, List.setIfInBounds_toArray, List.set_cons_zero, List.set_cons_succ]
                refine wpAnyH_takeS HNS (i := 8) (v := .int .i64 0) rfl (by kernel_rfl) (by kernel_rfl) (fun _ _ _ h => h) (Or.inl ⟨by kernel_rfl, fun W hW => ?_⟩) hS ?_
                · go_simp
                simp only [Act.put, List.getElem_toArray, List.getElem_cons_succ, List.getElem_cons_zero, List.setIfInBounds_toArray, List.set_cons_zero, List.set_cons_succ]
                refine wpAnyH_ready (rs := [9]) (by kernel_rfl) (by simp) ?_
                refine (AllReadyH.cons rfl (fun K hK => ?_) AllReadyH.nil)
                · rw [if_pos (by kernel_rfl)]
                  refine wp_alloc_R 25 rfl pz0 (by kernel_rfl) ?_
                  have hbA := ((Below.refl _ _).alloc (Nat.le_refl _) _ : Below u9.heap.size u9 (u9.alloc (.cells pz0 25)))
                  replace hoz := OwnZ.below hoz hbA
                  have hfr := Held.new u9 25 pz0
                  have lhfr := hS.size
                  replace hS := Below.step hS hbA
                  clear hbA
                  generalize u9.alloc (.cells pz0 25) = Wd10 at *
                  refine hK.out _ _ hS (fun _ => ?_)
                  clear hK K
                  (try simp only [Act.put, List.getElem_toArray, List.getElem_cons_succ, List.getElem_cons_zero, List.setIfInBounds_toArray, List.set_cons_zero, List.set_cons_succ])
                  refine wpAnyH_ready (rs := [10]) (by kernel_rfl) (by simp) ?_
                  refine (AllReadyH.cons rfl (fun K hK => ?_) AllReadyH.nil)
                  · rw [if_pos (by kernel_rfl)]
                    refine wp_store_row 25 _ _ rfl _ (pc A9 SB.cells.length c9 B9 SB.free.length d9 SB.most) (by rfl) (by rfl) _ _ hfr (by kernel_rfl) (by rfl) (by simp [Value.oneCell']) ?_
                    have hpv := over_p hfr hoz
                    replace hS := below_setRow hS lhfr (pc A9 SB.cells.length c9 B9 SB.free.length d9 SB.most)
                    clear hoz hfr
                    generalize World.setRow _ _ (pc A9 SB.cells.length c9 B9 SB.free.length d9 SB.most) = Wst at *
                    refine hK.out _ _ hS (fun _ => ?_)
                    clear hK K
                    (try simp only [Act.put, List.getElem_toArray, List.getElem_cons_succ, List.getElem_cons_zero, List.setIfInBounds_toArray, List.set_cons_zero, List.set_cons_succ])
                    refine wpAnyH_takeS HNS (i := 11) (v := .int .i64 0) rfl (by kernel_rfl) (by kernel_rfl) (fun _ _ _ h => h) (Or.inl ⟨by kernel_rfl, fun W hW => ?_⟩) hS ?_
                    · go_simp
                    simp only [Act.put, List.getElem_toArray, List.getElem_cons_succ, List.getElem_cons_zero, List.setIfInBounds_toArray, List.set_cons_zero, List.set_cons_succ]
                    refine wpAnyH_done (by kernel_rfl) ?_ _
                    go_wp2_with fail
                    go_meet
                    case rel => exact ⟨_, _, _, _, _, rfl, rfl, hpv, Below.step HDR.out hS⟩
              · rw [if_pos (by kernel_rfl)]
                refine wp_alloc_R 25 rfl pz0 (by kernel_rfl) ?_
                have hbA := ((Below.refl _ _).alloc (Nat.le_refl _) _ : Below Wq.heap.size Wq (Wq.alloc (.cells pz0 25)))
                have hfr := Held.new Wq 25 pz0
                have lhfr := hS.size
                replace hS := Below.step hS hbA
                clear hbA
                generalize Wq.alloc (.cells pz0 25) = Wd11 at *
                refine hK.out _ _ hS (fun _ => ?_)
                clear hK K
                (try simp only [Act.put, List.getElem_toArray, List.getElem_cons_succ, List.getElem_cons_zero, List.setIfInBounds_toArray, List.set_cons_zero, List.set_cons_succ])
                refine wpAnyH_ready (rs := [5]) (by kernel_rfl) (by simp) ?_
                refine (AllReadyH.cons rfl (fun K hK => ?_) AllReadyH.nil)
                · rw [if_pos (by kernel_rfl)]
                  go_simp
                  go_at_call 16
                  (with_reducible refine (drop_c HD.out LP c c2 _ (v3.below hS).p).mono ?_)
                  rintro _ u12 ⟨A12, c12, B12, d12, rfl, ho12, hb12⟩
                  replace hfr := Held.below hfr hb12
                  replace hS := Below.step hS hb12
                  have hoz := OwnZ.mono ho12 (Nat.zero_le _)
                  (repeat (first | go_skip | go_guarded | go_step | go_upon))
                  refine hK.out _ _ hS (fun _ => ?_)
                  clear hK K
                  (try simp only [Act.put, List.getElem_toArray, List.getElem_cons_succ, List.getElem_cons_zero, List.setIfInBounds_toArray, List.set_cons_zero, List.set_cons_succ])
                  refine wpAnyH_takeS HNS (i := 6) (v := .tuple #[.agg (pc A12 SB.cells.length c12 B12 SB.free.length d12 SB.most), .int .i64 0]) rfl (by kernel_rfl) (by kernel_rfl) (fun _ _ _ h => h) (Or.inl ⟨by kernel_rfl, fun W hW => ?_⟩) hS ?_
                  · go_simp
                  simp only [Act.put, List.getElem_toArray, List.getElem_cons_succ, List.getElem_cons_zero, List.setIfInBounds_toArray, List.set_cons_zero, List.set_cons_succ]
                  refine wpAnyH_takeS HNS (i := 7) (v := .agg (pc A12 SB.cells.length c12 B12 SB.free.length d12 SB.most)) rfl (by kernel_rfl) (by kernel_rfl) (fun _ _ _ h => h) (Or.inl ⟨by kernel_rfl, fun W hW => ?_⟩) hS ?_
                  · go_simp
                  simp only [Act.put, List.getElem_toArray, List.getElem_cons_succ, List.getElem_cons_zero, List.setIfInBounds_toArray, List.set_cons_zero, List.set_cons_succ]
                  refine wpAnyH_takeS HNS (i := 8) (v := .int .i64 0) rfl (by kernel_rfl) (by kernel_rfl) (fun _ _ _ h => h) (Or.inl ⟨by kernel_rfl, fun W hW => ?_⟩) hS ?_
                  · go_simp
                  simp only [Act.put, List.getElem_toArray, List.getElem_cons_succ, List.getElem_cons_zero, List.setIfInBounds_toArray, List.set_cons_zero, List.set_cons_succ]
                  refine wpAnyH_ready (rs := [10]) (by kernel_rfl) (by simp) ?_
                  refine (AllReadyH.cons rfl (fun K hK => ?_) AllReadyH.nil)
                  · rw [if_pos (by kernel_rfl)]
                    refine wp_store_row 25 _ _ rfl _ (pc A12 SB.cells.length c12 B12 SB.free.length d12 SB.most) (by rfl) (by rfl) _ _ hfr (by kernel_rfl) (by rfl) (by simp [Value.oneCell']) ?_
                    have hpv := over_p hfr hoz
                    replace hS := below_setRow hS lhfr (pc A12 SB.cells.length c12 B12 SB.free.length d12 SB.most)
                    clear hoz hfr
                    generalize World.setRow _ _ (pc A12 SB.cells.length c12 B12 SB.free.length d12 SB.most) = Wst at *
                    refine hK.out _ _ hS (fun _ => ?_)
                    clear hK K
                    (try simp only [Act.put, List.getElem_toArray, List.getElem_cons_succ, List.getElem_cons_zero, List.setIfInBounds_toArray, List.set_cons_zero, List.set_cons_succ])
                    refine wpAnyH_takeS HNS (i := 11) (v := .int .i64 0) rfl (by kernel_rfl) (by kernel_rfl) (fun _ _ _ h => h) (Or.inl ⟨by kernel_rfl, fun W hW => ?_⟩) hS ?_
                    · go_simp
                    simp only [Act.put, List.getElem_toArray, List.getElem_cons_succ, List.getElem_cons_zero, List.setIfInBounds_toArray, List.set_cons_zero, List.set_cons_succ]
                    refine wpAnyH_done (by kernel_rfl) ?_ _
                    go_wp2_with fail
                    go_meet
                    case rel => exact ⟨_, _, _, _, _, rfl, rfl, hpv, Below.step HDR.out hS⟩
            case rest =>
              obtain ⟨k14, A14, c14, B14, d14, rfl, rfl, v14, hwc⟩ := hcut
              replace pl := pat_later pl hwc
              replace hW := Below.step hW hwc
              clear hwc y0 y1 hbl hbl0 v3
              go_upto_region 16 with (fail)
              have hdr := (Below.refl wc.heap.size wc).drew
              replace pl := pat_later pl hdr
              replace v14 := v14.below hdr
              replace hW := Below.step hW hdr
              clear hdr
              refine wp_region_held_drew (S := fun W => Below wc.drew.heap.size wc.drew W) (by kernel_rfl) (Below.refl _ _) (fun hS => ?_)
              generalize wc.drew = W13 at *
              show wpAnyH _ _ _ _ _ 18 #[false, false, false, false, false, false, false, false, false, false, false, false, false, false, false, false, false, false] _ _
              refine wpAnyH_begin (by kernel_rfl) (fun HNS => ?_)
              have C1 := fun W => run_cut_head (some ⟨b, off, none⟩) L.length c7 j (by have := HCP.out; have := HJ.out; omega) W
              have C2 := fun W => run_cut_tail (some ⟨b, off, none⟩) L.length c7 j1 (by have := HJ.out; have := HJ1.out; omega) W
              have HK1 := Lib.hid (show (L.take j).length = j by rw [List.length_take]; have := HJ.out; omega)
              have HK2 := Lib.hid (show (L.drop j1).length = L.length - j1 by rw [List.length_drop])
              obtain ⟨nB, hnB⟩ : ∃ n, (refsZ SB).length = n := ⟨_, rfl⟩
              have HNB := Lib.hid (show nB ≤ 100000 by rw [← hnB, HRB.out, List.length_append, HK1.out, HK2.out]; have := HLN.out; omega)
              have HRL := Lib.hid (show (L.take j ++ L.drop j1).length = nB by rw [← hnB, HRB.out])
              have hcR : ∀ (W : World) (hp : PAtZ W W.heap.size A14 B14 SB), Calls Try.prog 25 #[pv A14 SB.cells.length c14 B14 SB.free.length d14 SB.most] W fun e w' => ∃ A' c', e = .returned (.slice A' nB c') ∧ OwnR w' W.heap.size (.slice A' nB c') (L.take j ++ L.drop j1) ∧ Below W.heap.size W w' := fun W hp => by
                have h9 := refs_c HRB.out LB c14 d14 W hp
                rw [HRL.out] at h9
                exact h9
              have HCR := Lib.hid hcR
              clear hnB hcR
              refine wpAnyH_takeS HNS (i := 0) (v := .int .i64 0) rfl (by kernel_rfl) (by kernel_rfl) (fun _ _ _ h => h) (Or.inl ⟨by kernel_rfl, fun W hW => ?_⟩) hS ?_
              · go_simp
              simp only [Act.put, List.getElem_toArray, List.getElem_cons_succ, List.getElem_cons_zero, List.setIfInBounds_toArray, List.set_cons_zero, List.set_cons_succ]
              refine wpAnyH_takeS HNS (i := 1) (v := .bool true) rfl (by kernel_rfl) (by kernel_rfl) (fun _ _ _ h => h) (Or.inl ⟨by kernel_rfl, fun W hW => ?_⟩) hS ?_
              · go_simp
              simp only [Act.put, List.getElem_toArray, List.getElem_cons_succ, List.getElem_cons_zero, List.setIfInBounds_toArray, List.set_cons_zero, List.set_cons_succ]
              refine wpAnyH_takeS HNS (i := 2) (v := .bool true) rfl (by kernel_rfl) (by kernel_rfl) (fun _ _ _ h => h) (Or.inl ⟨by kernel_rfl, fun W hW => ?_⟩) hS ?_
              · go_simp
              simp only [Act.put, List.getElem_toArray, List.getElem_cons_succ, List.getElem_cons_zero, List.setIfInBounds_toArray, List.set_cons_zero, List.set_cons_succ]
              refine wpAnyH_takeS HNS (i := 3) (v := .agg (pc A14 SB.cells.length c14 B14 SB.free.length d14 SB.most)) rfl (by kernel_rfl) (by kernel_rfl) (fun _ _ _ h => h) (Or.inl ⟨by kernel_rfl, fun W hW => ?_⟩) hS ?_
              · (have hz := Held.below v14.x hW; have z0 := hz.cell 0; have z1 := hz.cell 1; have z2 := hz.cell 2; simp at z0 z1 z2; go_simp)
              simp only [Act.put, List.getElem_toArray, List.getElem_cons_succ, List.getElem_cons_zero, List.setIfInBounds_toArray, List.set_cons_zero, List.set_cons_succ]
              refine wpAnyH_takeS HNS (i := 6) (v := .slice (some ⟨b, off, none⟩) L.length c7) rfl (by kernel_rfl) (by kernel_rfl) (fun _ _ _ h => h) (Or.inl ⟨by kernel_rfl, fun W hW => ?_⟩) hS ?_
              · go_simp
              simp only [Act.put, List.getElem_toArray, List.getElem_cons_succ, List.getElem_cons_zero, List.setIfInBounds_toArray, List.set_cons_zero, List.set_cons_succ]
              refine wpAnyH_takeS HNS (i := 7) (v := .int .i64 j) rfl (by kernel_rfl) (by kernel_rfl) (fun _ _ _ h => h) (Or.inl ⟨by kernel_rfl, fun W hW => ?_⟩) hS ?_
              · go_simp
              simp only [Act.put, List.getElem_toArray, List.getElem_cons_succ, List.getElem_cons_zero, List.setIfInBounds_toArray, List.set_cons_zero, List.set_cons_succ]
              refine wpAnyH_takeS HNS (i := 8) (v := .slice (cutA (some ⟨b, off, none⟩) c7 0) j c7) rfl (by kernel_rfl) (by kernel_rfl) (fun _ _ _ h => h) (Or.inl ⟨by kernel_rfl, fun W hW => ?_⟩) hS ?_
              · (simp only [execOp, Act.eval]; go_simp)
              simp only [Act.put, List.getElem_toArray, List.getElem_cons_succ, List.getElem_cons_zero, List.setIfInBounds_toArray, List.set_cons_zero, List.set_cons_succ]
              refine wpAnyH_takeS HNS (i := 10) (v := .slice (some ⟨b, off, none⟩) L.length c7) rfl (by kernel_rfl) (by kernel_rfl) (fun _ _ _ h => h) (Or.inl ⟨by kernel_rfl, fun W hW => ?_⟩) hS ?_
              · go_simp
              simp only [Act.put, List.getElem_toArray, List.getElem_cons_succ, List.getElem_cons_zero, List.setIfInBounds_toArray, List.set_cons_zero, List.set_cons_succ]
              refine wpAnyH_takeS HNS (i := 11) (v := .int .i64 j) rfl (by kernel_rfl) (by kernel_rfl) (fun _ _ _ h => h) (Or.inl ⟨by kernel_rfl, fun W hW => ?_⟩) hS ?_
              · go_simp
              simp only [Act.put, List.getElem_toArray, List.getElem_cons_succ, List.getElem_cons_zero, List.setIfInBounds_toArray, List.set_cons_zero, List.set_cons_succ]
              refine wpAnyH_takeS HNS (i := 12) (v := .int .i64 (j1 : Int)) rfl (by kernel_rfl) (by kernel_rfl) (fun _ _ _ h => h) (Or.inl ⟨by kernel_rfl, fun W hW => ?_⟩) hS ?_
              · (have hwr : IntKind.i64.wrap ((j : Int) + 1) = (j1 : Int) := (by rw [IntKind.wrap_i64]; have := HJ.out; have := HJ1.out; have := HLN.out; omega); go_simp)
              simp only [Act.put, List.getElem_toArray, List.getElem_cons_succ, List.getElem_cons_zero, List.setIfInBounds_toArray, List.set_cons_zero, List.set_cons_succ]
              refine wpAnyH_takeS HNS (i := 13) (v := .slice (cutA (some ⟨b, off, none⟩) c7 j1) (L.length - j1) (c7 - j1)) rfl (by kernel_rfl) (by kernel_rfl) (fun _ _ _ h => h) (Or.inl ⟨by kernel_rfl, fun W hW => ?_⟩) hS ?_
              · (simp only [execOp, Act.eval]; go_simp)
              simp only [Act.put, List.getElem_toArray, List.getElem_cons_succ, List.getElem_cons_zero, List.setIfInBounds_toArray, List.set_cons_zero, List.set_cons_succ]
              refine wpAnyH_ready (rs := [4, 5]) (by kernel_rfl) (by simp) ?_
              refine (AllReadyH.cons rfl (fun K hK => ?_) (AllReadyH.cons rfl (fun K hK => ?_) AllReadyH.nil))
              · rw [if_pos (by kernel_rfl)]
                go_simp
                go_at_call 25
                refine (HCR.out _ (v14.below hS).p).mono ?_
                rintro _ u49 ⟨AR, cR, rfl, wR, hb49⟩
                have hR := patb_own wR
                have hHi := Nat.le_refl u49.heap.size
                clear wR
                obtain ⟨lo, hlo⟩ : ∃ z, z = W13.heap.size := ⟨_, rfl⟩
                obtain ⟨hi, hhi⟩ : ∃ z, z = u49.heap.size := ⟨_, rfl⟩
                rw [← hlo, ← hhi] at hR
                replace hHi : hi ≤ u49.heap.size := Nat.le_of_eq hhi
                clear hlo hhi
                replace hS := Below.step hS hb49
                clear hb49
                (repeat (first | go_skip | go_guarded | go_step | go_upon))
                refine hK.out _ _ hS (fun _ => ?_)
                clear hK K
                (try simp only [Act.put, List.getElem_toArray, List.getElem_cons_succ, List.getElem_cons_zero, List.setIfInBounds_toArray, List.set_cons_zero, List.set_cons_succ])
                refine wpAnyH_ready (rs := [5]) (by kernel_rfl) (by simp) ?_
                refine (AllReadyH.cons rfl (fun K hK => ?_) AllReadyH.nil)
                · rw [if_pos (by kernel_rfl)]
                  refine wp_build0R rfl ?_
                  have hbA := ((Below.refl _ _).alloc (Nat.le_refl _) _ : Below u49.heap.size u49 (u49.alloc (.cells #[] 27)))
                  have hX0 : OwnR (u49.alloc (.cells #[] 27)) u49.heap.size (.slice (some ⟨u49.heap.size, 0, none⟩) 0 0) [] := Own2.made 27 u49
                  have hX := (r_mono hX0 hS.size : OwnR (u49.alloc (.cells #[] 27)) W13.heap.size (.slice (some ⟨u49.heap.size, 0, none⟩) 0 0) [])
                  have APX : Apart (.slice (some ⟨u49.heap.size, 0, none⟩) 0 0) lo hi := fun g e => .inr (Nat.le_trans hHi (hX0.lt g e).1)
                  replace hR := patb_below hR hbA hHi
                  replace hHi := Nat.le_trans hHi hbA.size
                  clear hX0
                  replace hS := Below.step hS hbA
                  clear hbA
                  generalize (u49.alloc (.cells #[] 27)) = u50 at *
                  refine hK.out _ _ hS (fun _ => ?_)
                  clear hK K
                  (try simp only [Act.put, List.getElem_toArray, List.getElem_cons_succ, List.getElem_cons_zero, List.setIfInBounds_toArray, List.set_cons_zero, List.set_cons_succ])
                  refine wpAnyH_ready (rs := [9]) (by kernel_rfl) (by simp) ?_
                  refine (AllReadyH.cons rfl (fun K hK => ?_) AllReadyH.nil)
                  · rw [if_pos (by kernel_rfl)]
                    refine wp_append_rb (.tmp 101) (.tmp 104) rfl W13.heap.size (l := []) (k := L.take j) (n := j) rfl hX HK1.out rfl (cut_head (pat_later pl hS) HCP.out j) (by have := HJ.out; have := HJ1.out; have := HLN.out; omega) hS.size lo hi APX hHi ?_
                    clear hX APX
                    intro Aa51 ca51 u51 hX hb51 APX hM
                    replace hR := patb_mid hR hM
                    replace hHi := Nat.le_trans hHi hM.1
                    clear hM
                    replace hS := Below.trans hS hb51
                    clear hb51
                    obtain ⟨nX51, hn51⟩ : ∃ z, z = 0 + j := ⟨_, rfl⟩
                    rw [← hn51] at hX APX ⊢
                    have HN51 := Lib.hid hn51
                    clear hn51
                    refine hK.out _ _ hS (fun _ => ?_)
                    clear hK K
                    (try simp only [Act.put, List.getElem_toArray, List.getElem_cons_succ, List.getElem_cons_zero, List.setIfInBounds_toArray, List.set_cons_zero, List.set_cons_succ])
                    refine wpAnyH_ready (rs := [14]) (by kernel_rfl) (by simp) ?_
                    refine (AllReadyH.cons rfl (fun K hK => ?_) AllReadyH.nil)
                    · rw [if_pos (by kernel_rfl)]
                      refine wp_append_rb (.tmp 105) (.tmp 109) rfl W13.heap.size (l := [] ++ L.take j) (k := L.drop j1) (n := (L.length - j1)) rfl hX HK2.out rfl (cut_tail (pat_later pl hS) HCP.out j1) (by have := HJ.out; have := HJ1.out; have := HLN.out; have := HN51.out; omega) hS.size lo hi APX hHi ?_
                      clear hX APX
                      intro Aa52 ca52 u52 hX hb52 APX hM
                      replace hR := patb_mid hR hM
                      replace hHi := Nat.le_trans hHi hM.1
                      clear hM
                      replace hS := Below.trans hS hb52
                      clear hb52
                      obtain ⟨nX52, hn52⟩ : ∃ z, z = nX51 + (L.length - j1) := ⟨_, rfl⟩
                      rw [← hn52] at hX APX ⊢
                      have HN52 := Lib.hid hn52
                      clear hn52
                      refine hK.out _ _ hS (fun _ => ?_)
                      clear hK K
                      (try simp only [Act.put, List.getElem_toArray, List.getElem_cons_succ, List.getElem_cons_zero, List.setIfInBounds_toArray, List.set_cons_zero, List.set_cons_succ])
                      refine wpAnyH_ready (rs := [15]) (by kernel_rfl) (by simp) ?_
                      refine (AllReadyH.cons rfl (fun K hK => ?_) AllReadyH.nil)
                      · rw [if_pos (by kernel_rfl)]
                        have hnn : ([] ++ L.take j ++ L.drop j1).length = nX52 := by have := HN51.out; have := HN52.out; simp only [List.length_append, List.length_nil, HK1.out, HK2.out]; omega
                        have hn5 : nX52 ≤ 100000 := by have := HN51.out; have := HN52.out; have := HLN.out; have := HJ.out; have := HJ1.out; omega
                        go_simp
                        go_at_call 24
                        refine (rrefs_l (l := L.take j ++ L.drop j1) (k := [] ++ L.take j ++ L.drop j1) (R := true) (by simp) HRL.out hnn HNB.out hn5 _ _ _ (patb_at hR hHi) (own2_at hX)).mono ?_
                        rintro _ u53 ⟨rfl, hb53⟩
                        replace hS := Below.step hS hb53
                        clear hR hHi hX APX hnn hn5 hb53
                        (repeat (first | go_skip | go_guarded | go_step | go_upon))
                        refine hK.out _ _ hS (fun _ => ?_)
                        clear hK K
                        (try simp only [Act.put, List.getElem_toArray, List.getElem_cons_succ, List.getElem_cons_zero, List.setIfInBounds_toArray, List.set_cons_zero, List.set_cons_succ])
                        refine wpAnyH_takeS HNS (i := 16) (v := .bool true) rfl (by kernel_rfl) (by kernel_rfl) (fun _ _ _ h => h) (Or.inl ⟨by kernel_rfl, fun W hW => ?_⟩) hS ?_
                        · go_simp
                        simp only [Act.put, List.getElem_toArray, List.getElem_cons_succ, List.getElem_cons_zero, List.setIfInBounds_toArray, List.set_cons_zero, List.set_cons_succ]
                        refine wpAnyH_takeS HNS (i := 17) (v := .bool true) rfl (by kernel_rfl) (by kernel_rfl) (fun _ _ _ h => h) (Or.inl ⟨by kernel_rfl, fun W hW => ?_⟩) hS ?_
                        · go_simp
                        simp only [Act.put, List.getElem_toArray, List.getElem_cons_succ, List.getElem_cons_zero, List.setIfInBounds_toArray, List.set_cons_zero, List.set_cons_succ]
                        refine wpAnyH_done (by kernel_rfl) ?_ _
                        (repeat (first | go_skip | go_guarded | go_step | go_upon))
                        go_ret
                        exact ⟨rfl, Below.step hW hS⟩
              · rw [if_pos (by kernel_rfl)]
                refine wp_build0R rfl ?_
                have hbA := ((Below.refl _ _).alloc (Nat.le_refl _) _ : Below W13.heap.size W13 (W13.alloc (.cells #[] 27)))
                have hX0 : OwnR (W13.alloc (.cells #[] 27)) W13.heap.size (.slice (some ⟨W13.heap.size, 0, none⟩) 0 0) [] := Own2.made 27 W13
                have hX := (r_mono hX0 hS.size : OwnR (W13.alloc (.cells #[] 27)) W13.heap.size (.slice (some ⟨W13.heap.size, 0, none⟩) 0 0) [])
                clear hX0
                replace hS := Below.step hS hbA
                clear hbA
                generalize (W13.alloc (.cells #[] 27)) = u54 at *
                refine hK.out _ _ hS (fun _ => ?_)
                clear hK K
                (try simp only [Act.put, List.getElem_toArray, List.getElem_cons_succ, List.getElem_cons_zero, List.setIfInBounds_toArray, List.set_cons_zero, List.set_cons_succ])
                refine wpAnyH_ready (rs := [4]) (by kernel_rfl) (by simp) ?_
                refine (AllReadyH.cons rfl (fun K hK => ?_) AllReadyH.nil)
                · rw [if_pos (by kernel_rfl)]
                  go_simp
                  go_at_call 25
                  refine (HCR.out _ (v14.below hS).p).mono ?_
                  rintro _ u55 ⟨AR, cR, rfl, wR, hb55⟩
                  have APX : Apart (.slice (some ⟨W13.heap.size, 0, none⟩) 0 0) u54.heap.size u55.heap.size := fun g e => .inl (hX.lt g e).2
                  replace hX := own_later hX hb55
                  have hR := patb_own wR
                  have hHi := Nat.le_refl u55.heap.size
                  clear wR
                  obtain ⟨lo, hlo⟩ : ∃ z, z = u54.heap.size := ⟨_, rfl⟩
                  obtain ⟨hi, hhi⟩ : ∃ z, z = u55.heap.size := ⟨_, rfl⟩
                  rw [← hlo, ← hhi] at hR
                  rw [← hlo, ← hhi] at APX
                  replace hHi : hi ≤ u55.heap.size := Nat.le_of_eq hhi
                  clear hlo hhi
                  replace hS := Below.step hS hb55
                  clear hb55
                  (repeat (first | go_skip | go_guarded | go_step | go_upon))
                  refine hK.out _ _ hS (fun _ => ?_)
                  clear hK K
                  (try simp only [Act.put, List.getElem_toArray, List.getElem_cons_succ, List.getElem_cons_zero, List.setIfInBounds_toArray, List.set_cons_zero, List.set_cons_succ])
                  refine wpAnyH_ready (rs := [9]) (by kernel_rfl) (by simp) ?_
                  refine (AllReadyH.cons rfl (fun K hK => ?_) AllReadyH.nil)
                  · rw [if_pos (by kernel_rfl)]
                    refine wp_append_rb (.tmp 101) (.tmp 104) rfl W13.heap.size (l := []) (k := L.take j) (n := j) rfl hX HK1.out rfl (cut_head (pat_later pl hS) HCP.out j) (by have := HJ.out; have := HJ1.out; have := HLN.out; omega) hS.size lo hi APX hHi ?_
                    clear hX APX
                    intro Aa56 ca56 u56 hX hb56 APX hM
                    replace hR := patb_mid hR hM
                    replace hHi := Nat.le_trans hHi hM.1
                    clear hM
                    replace hS := Below.trans hS hb56
                    clear hb56
                    obtain ⟨nX56, hn56⟩ : ∃ z, z = 0 + j := ⟨_, rfl⟩
                    rw [← hn56] at hX APX ⊢
                    have HN56 := Lib.hid hn56
                    clear hn56
                    refine hK.out _ _ hS (fun _ => ?_)
                    clear hK K
                    (try simp only [Act.put, List.getElem_toArray, List.getElem_cons_succ, List.getElem_cons_zero, List.setIfInBounds_toArray, List.set_cons_zero, List.set_cons_succ])
                    refine wpAnyH_ready (rs := [14]) (by kernel_rfl) (by simp) ?_
                    refine (AllReadyH.cons rfl (fun K hK => ?_) AllReadyH.nil)
                    · rw [if_pos (by kernel_rfl)]
                      refine wp_append_rb (.tmp 105) (.tmp 109) rfl W13.heap.size (l := [] ++ L.take j) (k := L.drop j1) (n := (L.length - j1)) rfl hX HK2.out rfl (cut_tail (pat_later pl hS) HCP.out j1) (by have := HJ.out; have := HJ1.out; have := HLN.out; have := HN56.out; omega) hS.size lo hi APX hHi ?_
                      clear hX APX
                      intro Aa57 ca57 u57 hX hb57 APX hM
                      replace hR := patb_mid hR hM
                      replace hHi := Nat.le_trans hHi hM.1
                      clear hM
                      replace hS := Below.trans hS hb57
                      clear hb57
                      obtain ⟨nX57, hn57⟩ : ∃ z, z = nX56 + (L.length - j1) := ⟨_, rfl⟩
                      rw [← hn57] at hX APX ⊢
                      have HN57 := Lib.hid hn57
                      clear hn57
                      refine hK.out _ _ hS (fun _ => ?_)
                      clear hK K
                      (try simp only [Act.put, List.getElem_toArray, List.getElem_cons_succ, List.getElem_cons_zero, List.setIfInBounds_toArray, List.set_cons_zero, List.set_cons_succ])
                      refine wpAnyH_ready (rs := [15]) (by kernel_rfl) (by simp) ?_
                      refine (AllReadyH.cons rfl (fun K hK => ?_) AllReadyH.nil)
                      · rw [if_pos (by kernel_rfl)]
                        have hnn : ([] ++ L.take j ++ L.drop j1).length = nX57 := by have := HN56.out; have := HN57.out; simp only [List.length_append, List.length_nil, HK1.out, HK2.out]; omega
                        have hn5 : nX57 ≤ 100000 := by have := HN56.out; have := HN57.out; have := HLN.out; have := HJ.out; have := HJ1.out; omega
                        go_simp
                        go_at_call 24
                        refine (rrefs_l (l := L.take j ++ L.drop j1) (k := [] ++ L.take j ++ L.drop j1) (R := true) (by simp) HRL.out hnn HNB.out hn5 _ _ _ (patb_at hR hHi) (own2_at hX)).mono ?_
                        rintro _ u58 ⟨rfl, hb58⟩
                        replace hS := Below.step hS hb58
                        clear hR hHi hX APX hnn hn5 hb58
                        (repeat (first | go_skip | go_guarded | go_step | go_upon))
                        refine hK.out _ _ hS (fun _ => ?_)
                        clear hK K
                        (try simp only [Act.put, List.getElem_toArray, List.getElem_cons_succ, List.getElem_cons_zero, List.setIfInBounds_toArray, List.set_cons_zero, List.set_cons_succ])
                        refine wpAnyH_takeS HNS (i := 16) (v := .bool true) rfl (by kernel_rfl) (by kernel_rfl) (fun _ _ _ h => h) (Or.inl ⟨by kernel_rfl, fun W hW => ?_⟩) hS ?_
                        · go_simp
                        simp only [Act.put, List.getElem_toArray, List.getElem_cons_succ, List.getElem_cons_zero, List.setIfInBounds_toArray, List.set_cons_zero, List.set_cons_succ]
                        refine wpAnyH_takeS HNS (i := 17) (v := .bool true) rfl (by kernel_rfl) (by kernel_rfl) (fun _ _ _ h => h) (Or.inl ⟨by kernel_rfl, fun W hW => ?_⟩) hS ?_
                        · go_simp
                        simp only [Act.put, List.getElem_toArray, List.getElem_cons_succ, List.getElem_cons_zero, List.setIfInBounds_toArray, List.set_cons_zero, List.set_cons_succ]
                        refine wpAnyH_done (by kernel_rfl) ?_ _
                        (repeat (first | go_skip | go_guarded | go_step | go_upon))
                        go_ret
                        exact ⟨rfl, Below.step hW hS⟩
end Go.Proofs.Ytkpjlobpaippdaa.penOrder
