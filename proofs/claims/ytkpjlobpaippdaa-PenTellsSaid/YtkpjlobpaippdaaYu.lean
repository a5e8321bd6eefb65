/- Layer 12's code: work, Set, Drop. -/
import Derived.Test.YtkpjlobpaippdaaYx
namespace Go.Proofs.Ytkpjlobpaippdaa
set_option linter.unusedVariables false
set_option linter.unusedSimpArgs false
open Go.RowKit Go.ChangeShapes Go.WideShapes Go.ChangeAt Go.Sort

/-- A frame is stored in a cell. -/
theorem RowZ.setf {F F' : Value → Frm → Prop} {w : World} {D c c2 g : Nat} {A2 : Option Addr} {p : Zp} (h : RowZ F w D (some ⟨g, 0, none⟩) c A2 c2 p) {j : Nat} (hj : j < p.cells.length) {f : Frm} {cs : Array Value} (h1 : cs.size = 16) (h2 : cs.all (·.oneCell') = true) (h3 : F' (.agg cs) f)
    (hF : ∀ v f, F v f → F' v f) : RowZ F' (w.setCells g (j * 18 + 2) cs.toList) D (some ⟨g, 0, none⟩) c A2 c2 ⟨p.cells.set j ⟨p.cells[j].gen, p.cells[j].used, f⟩, p.free, p.most⟩ := by
  obtain ⟨xs, k1, k2⟩ := h.cells
  refine ⟨⟨setL xs (j * 18 + 2) cs.toList, ?_, celsOf_frm k2 hj h1 h2 h3 fun _ _ _ _ k => hF _ _ k⟩, row_kt h.free (kt_setCells k1 _ _) tyCI⟩
  simp only [List.length_set]
  exact row_setCells _ _ k1
def Set1Q (w : World) (g o : Nat) (f : Frm) (e : Ending) (w' : World) : Prop := e = .returned (.tuple #[]) ∧ ∃ ds u, ds.size = 16 ∧ ds.all (·.oneCell') = true ∧ OwnF u w.heap.size (.agg ds) f ∧ Below w.heap.size w u ∧ w' = u.setCells g (o + 2) ds.toList
set_option maxHeartbeats 4000000 in
set_option maxRecDepth 100000 in
theorem set1_z {g o k B : Nat} {cs : Array Value} {f : Frm} (w : World) (hk : Held w k 35 cs) (h1 : cs.size = 16) (hf : FrmAt w B (.agg cs) f) (hl : FrmLen f) (hB : B ≤ w.heap.size) (ht : w.there g (o + 2) 16) :
    Calls Try.prog 34 #[.pointer (some ⟨g, o, none⟩), .pointer (some ⟨k, 0, none⟩)] w (Set1Q w g o f) := by
  have OC := Lib.hid (own_c w hf hl hB)
  have HT := Lib.hid ht
  have HG : Hid (g < w.heap.size) := Lib.hid (by
    obtain ⟨v, hv⟩ := Option.isSome_iff_exists.1 (ht 0 (by omega)).1
    exact block_lt_of_cell hv)
  have H1 := Lib.hid h1
  clear hf hl hB ht h1
  go_enter Try.func34, Try.ntmps34
  go_wp2_with (first
    | (guard_target = wpList _ _ _ (Oper.mk (some 4) _ _ _ _ none :: _) _ _; refine wpList_load_row rfl 35 _ rfl k rfl _ _ _ _ hk Try.underlying35 rfl (by rw [H1.out]; kernel_rfl) ?_)
    | (go_at_call 31; (with_reducible refine OC.out.mono ?_); rintro _ u ⟨ds, rfl, d1, d2, d3, hb⟩)
    | (guard_target = wpList _ _ _ (Oper.mk none (Op.store 35 (.tmp 7) _) _ _ _ none :: _) _ _; refine wpList_store_mid rfl 35 _ _ rfl g (o + 2) ds rfl rfl (by rw [d1]; exact fun j hj => by rw [show u.cell? ⟨g, o + 2 + j, none⟩ = w.cell? ⟨g, o + 2 + j, none⟩ from World.cell?_of_block (a := ⟨g, o + 2 + j, none⟩) (hb.block g HG.out), show u.frozen? ⟨g, o + 2 + j, none⟩ = w.frozen? ⟨g, o + 2 + j, none⟩ from World.frozen?_of_block (a := ⟨g, o + 2 + j, none⟩) (hb.block g HG.out)]; exact HT.out j hj) (by rw [d1]; kernel_rfl) d2 ?_))
  go_end0
  exact ⟨rfl, ds, u, d1, d2, d3, hb, rfl⟩
set_option maxHeartbeats 4000000 in
set_option maxRecDepth 100000 in
theorem drop1_z {g o : Nat} {x : Int} (w : World) (hx : w.cell? ⟨g, o, none⟩ = some (.int .i64 x)) (h0 : 0 ≤ x) (h1 : x < 4294967296) (ht : w.there g o 18) :
    Calls Try.prog 36 #[.pointer (some ⟨g, o, none⟩)] w fun e w' => e = .returned (.tuple #[]) ∧ w' = w.setCells g o (celv ⟨(x + 1) % 4294967296, false, frm0⟩ fzc) := by
  have HT := Lib.hid ht
  have hm : Int.tmod (x + 1) 4294967296 = (x + 1) % 4294967296 := Int.tmod_eq_emod_of_nonneg (by omega)
  have hm0 : 0 ≤ (x + 1) % 4294967296 := Int.emod_nonneg _ (by omega)
  have hm1 : (x + 1) % 4294967296 < 4294967296 := Int.emod_lt_of_pos _ (by omega)
  generalize (x + 1) % 4294967296 = y at *
  clear ht
  go_enter Try.func36, Try.ntmps36
  go_wp2_with (first
    | (guard_target = wpList _ _ _ (Oper.mk none (Op.store 62 (.tmp 10) _) _ _ _ none :: _) _ _; refine wpList_store_mid rfl 62 _ _ rfl g o (celv ⟨y, false, frm0⟩ fzc).toArray rfl rfl HT.out (by kernel_rfl) (by simp [Value.oneCell']) ?_))
  go_end0
  exact ⟨rfl, rfl⟩
/-- On the way of work: the pen, the ref, the result. -/
structure WrkS (w : World) (p : Zp) (r : V) (A : Option Addr) (n c : Nat) (A2 : Option Addr) (m c2 : Nat) (W : World) : Prop where
  pen : Held W w.heap.size 25 (pc A n c A2 m c2 p.most)
  ref : Held W (w.heap.size + 1) 27 (refc r.1 r.2)
  res : Held W (w.heap.size + 1 + 1) 25 pz0
  own : OwnZ W (w.heap.size + 3) A c A2 c2 p
  low : Below w.heap.size w W
theorem WrkS.below {w : World} {p : Zp} {r : V} {A : Option Addr} {n c : Nat} {A2 : Option Addr} {m c2 : Nat} {W W' : World} (h : WrkS w p r A n c A2 m c2 W) (hb : Below W.heap.size W W') : WrkS w p r A n c A2 m c2 W' :=
  ⟨h.pen.below hb, h.ref.below hb, h.res.below hb, h.own.below hb, Below.step h.low hb⟩
theorem kt_row {W : World} {g : Nat} {t : TypeId} {cs : Array Value} (h : Held W g t cs) (ds : Array Value) : KTy W (W.setRow g ds) t := fun k e es fr hk hne => row_far0 W g ds k (fun e2 => by
  subst e2
  rw [Held, hk] at h
  simp at h
  exact hne h.2.1)
theorem OwnZ.pen {w w' : World} {D c c2 : Nat} {A A2 : Option Addr} {p : Zp} (h : OwnZ w D A c A2 c2 p) (hk : KTy w w' 25) : OwnZ w' D A c A2 c2 p := h.kt hk (by decide) (by decide) (by decide) (by decide)
/-- What a call leaves that tells a pen, and a number. -/
def PenQ (w : World) (R : Zp × Int) (e : Ending) (w' : World) : Prop := ∃ A c A2 c2, e = .returned (.tuple #[pv A R.1.cells.length c A2 R.1.free.length c2 R.1.most, .int .i64 R.2]) ∧ OwnZ w' w.heap.size A c A2 c2 R.1 ∧ Below w.heap.size w w'
theorem has_yes {p : Zp} {r : V} (h : hasZ p r = true) : ∃ j : Nat, ∃ hj : j < p.cells.length, r = ((j : Int), p.cells[j].gen) ∧ p.cells[j].used = true := by
  obtain ⟨j, hj, e, hu, hg⟩ := (hasZ_iff p r).1 h
  obtain ⟨a, b⟩ := r
  simp only at e hg
  exact ⟨j, hj, by rw [e, hg], hu⟩
/-- Drop, but for the free list. -/
noncomputable def emptyZ (p : Zp) (r : V) : Zp × Int :=
  if okZ p = false then (p, 1) else if hasZ p r = false then (p, 121) else (⟨p.cells.set r.1.toNat ⟨(r.2 + 1) % 4294967296, false, frm0⟩, p.free, p.most⟩, 0)
set_option maxHeartbeats 4000000 in
set_option maxRecDepth 100000 in
theorem workd_z {A A2 : Option Addr} {p : Zp} {B n m : Nat}  (c c2 : Nat) (r : V) (w : World) (hn : p.cells.length = n) (hm : p.free.length = m) (h : PAtZ w B A A2 p) (hl : LenZ p) (hB : B ≤ w.heap.size)  :
    Calls Try.prog 33 #[pv A n c A2 m c2 p.most, gv r.1 r.2, (.func (.func 36) #[] #[])] w (PenQ w (emptyZ p r)) := by
  have hbw : Below w.heap.size w (((w.alloc (.cells (pc A n c A2 m c2 p.most) 25)).alloc (.cells (refc r.1 r.2) 27)).alloc (.cells pz0 25)) := below3 w _ _ _
  have g2 := ((Held.new w 25 (pc A n c A2 m c2 p.most)).alloc (.cells (refc r.1 r.2) 27)).alloc (.cells pz0 25)
  have g3 := (Held.new1 w (.cells (pc A n c A2 m c2 p.most) 25) 27 (refc r.1 r.2)).alloc (.cells pz0 25)
  have g4 := Held.new2 w (.cells (pc A n c A2 m c2 p.most) 25) (.cells (refc r.1 r.2) 27) 25 pz0
  have hsz : w.heap.size + 3 ≤ (((w.alloc (.cells (pc A n c A2 m c2 p.most) 25)).alloc (.cells (refc r.1 r.2) 27)).alloc (.cells pz0 25)).heap.size := by simp
  have CL := clone_z c c2 (((w.alloc (.cells (pc A n c A2 m c2 p.most) 25)).alloc (.cells (refc r.1 r.2) 27)).alloc (.cells pz0 25)) hn hm (h.below hbw hB) hl (Nat.le_trans hB hbw.size)
  have HN := Lib.hid hn
  have HM := Lib.hid hm
  have hn1 : n ≤ 100000 := by have := hl.cells; omega
  have hm1 : m ≤ 100000 := by have := hl.free; omega
  obtain ⟨b1, hb1⟩ : ∃ b, okZ p = b := ⟨_, rfl⟩
  obtain ⟨b2, hb2⟩ : ∃ b, hasZ p r = b := ⟨_, rfl⟩
  have MC := fun (W : World) {A' A2' : Option Addr} {c' c2' : Nat} (hp : PAtZ W W.heap.size A' A2' p) => may_z c' c2' W HN.out HM.out hp hn1 hm1 (Nat.le_refl _)
  have HC := fun (W : World) {A' A2' : Option Addr} {c' c2' : Nat} (hp : PAtZ W W.heap.size A' A2' p) => has_z c' c2' (m := m) (t := p.most) r W HN.out hp (Nat.le_refl _) (by have := hl.cells; have := HN.out; omega)
  simp only [hb1] at MC
  simp only [hb2] at HC
  obtain ⟨S, hS⟩ : ∃ S, emptyZ p r = S := ⟨_, rfl⟩
  rw [hS]
  have HS := Lib.hid hS
  have HOK := Lib.hid hb1
  have HHS := Lib.hid hb2
  have HL := Lib.hid hl
  clear h hl hn hm hB hS hb1 hb2
  go_enter Try.func33, Try.ntmps33
  go_upto_region 1 with (fail)
  generalize (((w.alloc (.cells (pc A n c A2 m c2 p.most) 25)).alloc (.cells (refc r.1 r.2) 27)).alloc (.cells pz0 25)) = W0 at *
  go_upto_region 2 with (first
  | (guard_target = wpList _ _ _ (Oper.mk (some 8) _ _ _ _ none :: _) _ _; refine wpList_load_row rfl 25 _ rfl w.heap.size rfl _ _ _ _ g2 Try.underlying25 rfl (by kernel_rfl) ?_)
  | (go_at_call 30; (with_reducible refine (CL).mono ?_); rintro _ u1 ⟨A3, c3, A4, c4, rfl, ho, hb1⟩; have k2 := Held.below g2 hb1)
  | (guard_target = wpList _ _ _ (Oper.mk _ (Op.store 25 (.tmp 3) _) _ _ _ none :: _) _ _; refine wpList_store_row rfl 25 _ _ rfl w.heap.size (pc A3 n c3 A4 m c4 p.most) rfl rfl _ _ k2 (by kernel_rfl) rfl (by simp [Value.oneCell']) ?_))
  have hlow : Below w.heap.size w (u1.setRow w.heap.size (pc A3 n c3 A4 m c4 p.most)) := below_setRow (Below.step hbw hb1) (Nat.le_refl _) _
  have hk9 := kt_row k2 (pc A3 n c3 A4 m c4 p.most)
  have hn0 : p.cells.length = n := HN.out
  have hm0 : p.free.length = m := HM.out
  have HK := Lib.hid (WrkS.mk (r := r) (held_rowSelf k2 (pc A3 n c3 A4 m c4 p.most)) (held_row (Held.below g3 hb1) (by omega) _) (held_row (Held.below g4 hb1) (by omega) _) ((ho.mono hsz).pen hk9) hlow : WrkS w p r A3 n c3 A4 m c4 _)
  clear g2 g3 g4 ho hb1 k2 hk9 hlow CL hbw hsz
  generalize u1.setRow w.heap.size (pc A3 n c3 A4 m c4 p.most) = W1 at *
  cases b1 with
  | false =>
    obtain rfl : (p, 1) = S := by rw [← HS.out]; unfold emptyZ; rw [if_pos HOK.out]
    have HN9 := HN.out
    have HM9 := HM.out
    go_wp2_with (first
  | (guard_target = wpList _ _ _ (Oper.mk (some 10) _ _ _ _ none :: _) _ _; refine wpList_load_row rfl 25 _ rfl w.heap.size rfl _ _ _ _ HK.out.pen Try.underlying25 rfl (by kernel_rfl) ?_)
  | (guard_target = wpList _ _ _ (Oper.mk (some 13) _ _ _ _ none :: _) _ _; refine wpList_load_row rfl 25 _ rfl w.heap.size rfl _ _ _ _ HK.out.pen Try.underlying25 rfl (by kernel_rfl) ?_)
  | (go_at_call 27; (with_reducible refine (MC _ HK.out.own.at).mono ?_); rintro _ u2 ⟨rfl, hb2⟩; have HK9 := Lib.hid (HK.out.below hb2); clear HK hb2; have HK := HK9; clear HK9)
  | (guard_target = wpList _ _ _ (Oper.mk _ (Op.store 25 (.tmp 6) _) _ _ _ none :: _) _ _; refine wpList_store_row rfl 25 _ _ rfl (w.heap.size + 1 + 1) (pc A3 n c3 A4 m c4 p.most) rfl rfl _ _ HK.out.res (by kernel_rfl) rfl (by simp [Value.oneCell']) ?_))
    refine bodyPost_ret (results_ct0 rfl _ _ rfl rfl (load_pen (held_rowSelf HK.out.res (pc A3 n c3 A4 m c4 p.most)) rfl)) rfl ⟨A3, c3, A4, c4, by subst HN9 HM9; rfl, (HK.out.own.pen (kt_row HK.out.res _)).mono (by omega), below_setRow HK.out.low (by omega) _⟩

  | true =>
  cases b2 with
  | false =>
    obtain rfl : (p, 121) = S := by rw [← HS.out]; unfold emptyZ; rw [if_neg (by rw [HOK.out]; decide), if_pos HHS.out]
    have HN9 := HN.out
    have HM9 := HM.out
    go_wp2_with (first
  | (guard_target = wpList _ _ _ (Oper.mk (some 10) _ _ _ _ none :: _) _ _; refine wpList_load_row rfl 25 _ rfl w.heap.size rfl _ _ _ _ HK.out.pen Try.underlying25 rfl (by kernel_rfl) ?_)
  | (guard_target = wpList _ _ _ (Oper.mk (some 14) _ _ _ _ none :: _) _ _; refine wpList_load_row rfl 25 _ rfl w.heap.size rfl _ _ _ _ HK.out.pen Try.underlying25 rfl (by kernel_rfl) ?_)
  | (guard_target = wpList _ _ _ (Oper.mk (some 15) _ _ _ _ none :: _) _ _; refine wpList_load_row rfl 27 _ rfl (w.heap.size + 1) rfl _ _ _ _ HK.out.ref Try.underlying27 rfl (by kernel_rfl) ?_)
  | (guard_target = wpList _ _ _ (Oper.mk (some 18) _ _ _ _ none :: _) _ _; refine wpList_load_row rfl 25 _ rfl w.heap.size rfl _ _ _ _ HK.out.pen Try.underlying25 rfl (by kernel_rfl) ?_)
  | (go_at_call 27; (with_reducible refine (MC _ HK.out.own.at).mono ?_); rintro _ u2 ⟨rfl, hb2⟩; have HK9 := Lib.hid (HK.out.below hb2); clear HK hb2; have HK := HK9; clear HK9)
  | (go_at_call 37; (with_reducible refine (HC _ HK.out.own.at).mono ?_); rintro _ u4 ⟨rfl, hb4⟩; have HK9 := Lib.hid (HK.out.below hb4); clear HK hb4; have HK := HK9; clear HK9)
  | (guard_target = wpList _ _ _ (Oper.mk _ (Op.store 25 (.tmp 6) _) _ _ _ none :: _) _ _; refine wpList_store_row rfl 25 _ _ rfl (w.heap.size + 1 + 1) (pc A3 n c3 A4 m c4 p.most) rfl rfl _ _ HK.out.res (by kernel_rfl) rfl (by simp [Value.oneCell']) ?_))
    refine bodyPost_ret (results_ct0 rfl _ _ rfl rfl (load_pen (held_rowSelf HK.out.res (pc A3 n c3 A4 m c4 p.most)) rfl)) rfl ⟨A3, c3, A4, c4, by subst HN9 HM9; rfl, (HK.out.own.pen (kt_row HK.out.res _)).mono (by omega), below_setRow HK.out.low (by omega) _⟩

  | true =>
    obtain ⟨j, hj, hr, hu⟩ := has_yes HHS.out
    have HRR := Lib.hid hr
    clear hr
    go_upto_region 4 with (first
  | (guard_target = wpList _ _ _ (Oper.mk (some 10) _ _ _ _ none :: _) _ _; refine wpList_load_row rfl 25 _ rfl w.heap.size rfl _ _ _ _ HK.out.pen Try.underlying25 rfl (by kernel_rfl) ?_)
  | (go_at_call 27; (with_reducible refine (MC _ HK.out.own.at).mono ?_); rintro _ u2 ⟨rfl, hb2⟩; have HK9 := Lib.hid (HK.out.below hb2); clear HK hb2; have HK := HK9; clear HK9))
    go_upto_region 6 with (first
  | (guard_target = wpList _ _ _ (Oper.mk (some 14) _ _ _ _ none :: _) _ _; refine wpList_load_row rfl 25 _ rfl w.heap.size rfl _ _ _ _ HK.out.pen Try.underlying25 rfl (by kernel_rfl) ?_)
  | (guard_target = wpList _ _ _ (Oper.mk (some 15) _ _ _ _ none :: _) _ _; refine wpList_load_row rfl 27 _ rfl (w.heap.size + 1) rfl _ _ _ _ HK.out.ref Try.underlying27 rfl (by kernel_rfl) ?_)
  | (go_at_call 37; (with_reducible refine (HC _ HK.out.own.at).mono ?_); rintro _ u4 ⟨rfl, hb4⟩; have HK9 := Lib.hid (HK.out.below hb4); clear HK hb4; have HK := HK9; clear HK9))
    obtain ⟨g, rfl, hge⟩ := HK.out.own.row.form hj
    have hr1 : r.1 = (j : Int) := by rw [HRR.out]
    have hj0 : (0 : Int) ≤ j := by omega
    have hjn : (j : Int) < n := by have := HN.out; omega
    have hnI : (n : Int) ≤ 100000 := by omega
    have x0 := HK.out.pen.cell 0
    have y0 := HK.out.ref.cell 0
    simp [hr1] at x0 y0
    have HJ := Lib.hid (And.intro hj hu)
    have HGE := Lib.hid hge
    clear hr1 hge
    have hok := ((okZ_iff p).1 HOK.out).gen j HJ.out.1
    have HT := Lib.hid (HK.out.own.row.there HJ.out.1)
    go_upto_region 7 with (go_at_call 36; (with_reducible refine (drop1_z _ HGE.out hok.1 hok.2 HT.out).mono ?_); rintro _ _ ⟨rfl, rfl⟩)
    have hk5 := HK.out
    have hg5 := hk5.own.row.ge
    have hgg : p.cells[j].gen = r.2 := by rw [HRR.out]
    rw [hgg]
    have hown := (hk5.own.row.setc (F' := OwnF _ (w.heap.size + 3)) hj (x := ⟨(r.2 + 1) % 4294967296, false, frm0⟩) (cs := fzc) rfl (by simp [Value.oneCell']) (frm0_own _ _) (fun _ _ k => k.kt (hk5.own.row.kts _ _) tyCV tyCS)).own
    have g2' : Held (World.setCells _ g (j * 18) (celv ⟨(r.2 + 1) % 4294967296, false, frm0⟩ fzc)) w.heap.size 25 _ := (setCells_far _ _ _ _ _ (by omega)).trans hk5.pen
    have g4' : Held (World.setCells _ g (j * 18) (celv ⟨(r.2 + 1) % 4294967296, false, frm0⟩ fzc)) (w.heap.size + 1 + 1) 25 _ := (setCells_far _ _ _ _ _ (by omega)).trans hk5.res
    have hlow5 := below_setCells hk5.low (show w.heap.size ≤ g by omega) (j * 18) (celv ⟨(r.2 + 1) % 4294967296, false, frm0⟩ fzc)
    obtain rfl : (⟨p.cells.set j ⟨(r.2 + 1) % 4294967296, false, frm0⟩, p.free, p.most⟩, 0) = S := by
      rw [← HS.out]
      unfold emptyZ
      rw [if_neg (by rw [HOK.out]; decide), if_neg (by rw [HHS.out]; decide), HRR.out, Int.toNat_natCast]
    have HN9 : (p.cells.set j ⟨(r.2 + 1) % 4294967296, false, frm0⟩).length = n := by rw [List.length_set]; exact HN.out
    have HM9 := HM.out
    have HO := Lib.hid hown
    have HLW := Lib.hid hlow5
    clear hown hlow5 hk5 HK HGE HT
    generalize World.setCells _ g (j * 18) (celv ⟨(r.2 + 1) % 4294967296, false, frm0⟩ fzc) = W6 at *
    go_wp2_with (first
  | (guard_target = wpList _ _ _ (Oper.mk (some 26) _ _ _ _ none :: _) _ _; refine wpList_load_row rfl 25 _ rfl w.heap.size rfl _ _ _ _ g2' Try.underlying25 rfl (by kernel_rfl) ?_)
  | (guard_target = wpList _ _ _ (Oper.mk _ (Op.store 25 (.tmp 6) _) _ _ _ none :: _) _ _; refine wpList_store_row rfl 25 _ _ rfl (w.heap.size + 1 + 1) (pc (some ⟨g, 0, none⟩) n c3 A4 m c4 p.most) rfl rfl _ _ g4' (by kernel_rfl) rfl (by simp [Value.oneCell']) ?_))
    refine bodyPost_ret (results_ct0 rfl _ _ rfl rfl (load_pen (held_rowSelf g4' (pc (some ⟨g, 0, none⟩) n c3 A4 m c4 p.most)) rfl)) rfl ⟨_, c3, A4, c4, by simp only [HN9, HM9]; rfl, (HO.out.pen (kt_row g4' _)).mono (by omega), below_setRow HLW.out (by omega) _⟩
set_option maxHeartbeats 4000000 in
set_option maxRecDepth 100000 in
theorem works_z {A A2 : Option Addr} {p : Zp} {B n m : Nat} {cs : Array Value} {f : Frm} {k BF : Nat} (c c2 : Nat) (r : V) (w : World) (hn : p.cells.length = n) (hm : p.free.length = m) (h : PAtZ w B A A2 p) (hl : LenZ p) (hB : B ≤ w.heap.size) (hk : Held w k 35 cs) (h1 : cs.size = 16) (hf : FrmAt w BF (.agg cs) f) (hlf : FrmLen f) (hBF : BF ≤ w.heap.size) :
    Calls Try.prog 33 #[pv A n c A2 m c2 p.most, gv r.1 r.2, (.func (.func 34) #[] #[.pointer (some ⟨k, 0, none⟩)])] w (PenQ w (setZ p r f)) := by
  have hbw : Below w.heap.size w (((w.alloc (.cells (pc A n c A2 m c2 p.most) 25)).alloc (.cells (refc r.1 r.2) 27)).alloc (.cells pz0 25)) := below3 w _ _ _
  have g2 := ((Held.new w 25 (pc A n c A2 m c2 p.most)).alloc (.cells (refc r.1 r.2) 27)).alloc (.cells pz0 25)
  have g3 := (Held.new1 w (.cells (pc A n c A2 m c2 p.most) 25) 27 (refc r.1 r.2)).alloc (.cells pz0 25)
  have g4 := Held.new2 w (.cells (pc A n c A2 m c2 p.most) 25) (.cells (refc r.1 r.2) 27) 25 pz0
  have hsz : w.heap.size + 3 ≤ (((w.alloc (.cells (pc A n c A2 m c2 p.most) 25)).alloc (.cells (refc r.1 r.2) 27)).alloc (.cells pz0 25)).heap.size := by simp
  have CL := clone_z c c2 (((w.alloc (.cells (pc A n c A2 m c2 p.most) 25)).alloc (.cells (refc r.1 r.2) 27)).alloc (.cells pz0 25)) hn hm (h.below hbw hB) hl (Nat.le_trans hB hbw.size)
  have HN := Lib.hid hn
  have HM := Lib.hid hm
  have hn1 : n ≤ 100000 := by have := hl.cells; omega
  have hm1 : m ≤ 100000 := by have := hl.free; omega
  obtain ⟨b1, hb1⟩ : ∃ b, okZ p = b := ⟨_, rfl⟩
  obtain ⟨b2, hb2⟩ : ∃ b, hasZ p r = b := ⟨_, rfl⟩
  have MC := fun (W : World) {A' A2' : Option Addr} {c' c2' : Nat} (hp : PAtZ W W.heap.size A' A2' p) => may_z c' c2' W HN.out HM.out hp hn1 hm1 (Nat.le_refl _)
  have HC := fun (W : World) {A' A2' : Option Addr} {c' c2' : Nat} (hp : PAtZ W W.heap.size A' A2' p) => has_z c' c2' (m := m) (t := p.most) r W HN.out hp (Nat.le_refl _) (by have := hl.cells; have := HN.out; omega)
  simp only [hb1] at MC
  simp only [hb2] at HC
  obtain ⟨S, hS⟩ : ∃ S, setZ p r f = S := ⟨_, rfl⟩
  rw [hS]
  have HS := Lib.hid hS
  have HOK := Lib.hid hb1
  have HHS := Lib.hid hb2
  have HL := Lib.hid hl
  have HFR := Lib.hid (And.intro hk (And.intro h1 (And.intro hf (And.intro hlf hBF))))
  clear hk h1 hf hlf hBF
  clear h hl hn hm hB hS hb1 hb2
  go_enter Try.func33, Try.ntmps33
  go_upto_region 1 with (fail)
  generalize (((w.alloc (.cells (pc A n c A2 m c2 p.most) 25)).alloc (.cells (refc r.1 r.2) 27)).alloc (.cells pz0 25)) = W0 at *
  go_upto_region 2 with (first
  | (guard_target = wpList _ _ _ (Oper.mk (some 8) _ _ _ _ none :: _) _ _; refine wpList_load_row rfl 25 _ rfl w.heap.size rfl _ _ _ _ g2 Try.underlying25 rfl (by kernel_rfl) ?_)
  | (go_at_call 30; (with_reducible refine (CL).mono ?_); rintro _ u1 ⟨A3, c3, A4, c4, rfl, ho, hb1⟩; have k2 := Held.below g2 hb1)
  | (guard_target = wpList _ _ _ (Oper.mk _ (Op.store 25 (.tmp 3) _) _ _ _ none :: _) _ _; refine wpList_store_row rfl 25 _ _ rfl w.heap.size (pc A3 n c3 A4 m c4 p.most) rfl rfl _ _ k2 (by kernel_rfl) rfl (by simp [Value.oneCell']) ?_))
  have hlow : Below w.heap.size w (u1.setRow w.heap.size (pc A3 n c3 A4 m c4 p.most)) := below_setRow (Below.step hbw hb1) (Nat.le_refl _) _
  have hk9 := kt_row k2 (pc A3 n c3 A4 m c4 p.most)
  have hn0 : p.cells.length = n := HN.out
  have hm0 : p.free.length = m := HM.out
  have HK := Lib.hid (WrkS.mk (r := r) (held_rowSelf k2 (pc A3 n c3 A4 m c4 p.most)) (held_row (Held.below g3 hb1) (by omega) _) (held_row (Held.below g4 hb1) (by omega) _) ((ho.mono hsz).pen hk9) hlow : WrkS w p r A3 n c3 A4 m c4 _)
  clear g2 g3 g4 ho hb1 k2 hk9 hlow CL hbw hsz
  generalize u1.setRow w.heap.size (pc A3 n c3 A4 m c4 p.most) = W1 at *
  cases b1 with
  | false =>
    obtain rfl : (p, 1) = S := by rw [← HS.out]; unfold setZ; rw [if_pos HOK.out]
    have HN9 := HN.out
    have HM9 := HM.out
    go_wp2_with (first
  | (guard_target = wpList _ _ _ (Oper.mk (some 10) _ _ _ _ none :: _) _ _; refine wpList_load_row rfl 25 _ rfl w.heap.size rfl _ _ _ _ HK.out.pen Try.underlying25 rfl (by kernel_rfl) ?_)
  | (guard_target = wpList _ _ _ (Oper.mk (some 13) _ _ _ _ none :: _) _ _; refine wpList_load_row rfl 25 _ rfl w.heap.size rfl _ _ _ _ HK.out.pen Try.underlying25 rfl (by kernel_rfl) ?_)
  | (go_at_call 27; (with_reducible refine (MC _ HK.out.own.at).mono ?_); rintro _ u2 ⟨rfl, hb2⟩; have HK9 := Lib.hid (HK.out.below hb2); clear HK hb2; have HK := HK9; clear HK9)
  | (guard_target = wpList _ _ _ (Oper.mk _ (Op.store 25 (.tmp 6) _) _ _ _ none :: _) _ _; refine wpList_store_row rfl 25 _ _ rfl (w.heap.size + 1 + 1) (pc A3 n c3 A4 m c4 p.most) rfl rfl _ _ HK.out.res (by kernel_rfl) rfl (by simp [Value.oneCell']) ?_))
    refine bodyPost_ret (results_ct0 rfl _ _ rfl rfl (load_pen (held_rowSelf HK.out.res (pc A3 n c3 A4 m c4 p.most)) rfl)) rfl ⟨A3, c3, A4, c4, by subst HN9 HM9; rfl, (HK.out.own.pen (kt_row HK.out.res _)).mono (by omega), below_setRow HK.out.low (by omega) _⟩

  | true =>
  cases b2 with
  | false =>
    obtain rfl : (p, 121) = S := by rw [← HS.out]; unfold setZ; rw [if_neg (by rw [HOK.out]; decide), if_pos HHS.out]
    have HN9 := HN.out
    have HM9 := HM.out
    go_wp2_with (first
  | (guard_target = wpList _ _ _ (Oper.mk (some 10) _ _ _ _ none :: _) _ _; refine wpList_load_row rfl 25 _ rfl w.heap.size rfl _ _ _ _ HK.out.pen Try.underlying25 rfl (by kernel_rfl) ?_)
  | (guard_target = wpList _ _ _ (Oper.mk (some 14) _ _ _ _ none :: _) _ _; refine wpList_load_row rfl 25 _ rfl w.heap.size rfl _ _ _ _ HK.out.pen Try.underlying25 rfl (by kernel_rfl) ?_)
  | (guard_target = wpList _ _ _ (Oper.mk (some 15) _ _ _ _ none :: _) _ _; refine wpList_load_row rfl 27 _ rfl (w.heap.size + 1) rfl _ _ _ _ HK.out.ref Try.underlying27 rfl (by kernel_rfl) ?_)
  | (guard_target = wpList _ _ _ (Oper.mk (some 18) _ _ _ _ none :: _) _ _; refine wpList_load_row rfl 25 _ rfl w.heap.size rfl _ _ _ _ HK.out.pen Try.underlying25 rfl (by kernel_rfl) ?_)
  | (go_at_call 27; (with_reducible refine (MC _ HK.out.own.at).mono ?_); rintro _ u2 ⟨rfl, hb2⟩; have HK9 := Lib.hid (HK.out.below hb2); clear HK hb2; have HK := HK9; clear HK9)
  | (go_at_call 37; (with_reducible refine (HC _ HK.out.own.at).mono ?_); rintro _ u4 ⟨rfl, hb4⟩; have HK9 := Lib.hid (HK.out.below hb4); clear HK hb4; have HK := HK9; clear HK9)
  | (guard_target = wpList _ _ _ (Oper.mk _ (Op.store 25 (.tmp 6) _) _ _ _ none :: _) _ _; refine wpList_store_row rfl 25 _ _ rfl (w.heap.size + 1 + 1) (pc A3 n c3 A4 m c4 p.most) rfl rfl _ _ HK.out.res (by kernel_rfl) rfl (by simp [Value.oneCell']) ?_))
    refine bodyPost_ret (results_ct0 rfl _ _ rfl rfl (load_pen (held_rowSelf HK.out.res (pc A3 n c3 A4 m c4 p.most)) rfl)) rfl ⟨A3, c3, A4, c4, by subst HN9 HM9; rfl, (HK.out.own.pen (kt_row HK.out.res _)).mono (by omega), below_setRow HK.out.low (by omega) _⟩

  | true =>
    obtain ⟨j, hj, hr, hu⟩ := has_yes HHS.out
    have HRR := Lib.hid hr
    clear hr
    go_upto_region 4 with (first
  | (guard_target = wpList _ _ _ (Oper.mk (some 10) _ _ _ _ none :: _) _ _; refine wpList_load_row rfl 25 _ rfl w.heap.size rfl _ _ _ _ HK.out.pen Try.underlying25 rfl (by kernel_rfl) ?_)
  | (go_at_call 27; (with_reducible refine (MC _ HK.out.own.at).mono ?_); rintro _ u2 ⟨rfl, hb2⟩; have HK9 := Lib.hid (HK.out.below hb2); clear HK hb2; have HK := HK9; clear HK9))
    go_upto_region 6 with (first
  | (guard_target = wpList _ _ _ (Oper.mk (some 14) _ _ _ _ none :: _) _ _; refine wpList_load_row rfl 25 _ rfl w.heap.size rfl _ _ _ _ HK.out.pen Try.underlying25 rfl (by kernel_rfl) ?_)
  | (guard_target = wpList _ _ _ (Oper.mk (some 15) _ _ _ _ none :: _) _ _; refine wpList_load_row rfl 27 _ rfl (w.heap.size + 1) rfl _ _ _ _ HK.out.ref Try.underlying27 rfl (by kernel_rfl) ?_)
  | (go_at_call 37; (with_reducible refine (HC _ HK.out.own.at).mono ?_); rintro _ u4 ⟨rfl, hb4⟩; have HK9 := Lib.hid (HK.out.below hb4); clear HK hb4; have HK := HK9; clear HK9))
    obtain ⟨g, rfl, hge⟩ := HK.out.own.row.form hj
    have hr1 : r.1 = (j : Int) := by rw [HRR.out]
    have hj0 : (0 : Int) ≤ j := by omega
    have hjn : (j : Int) < n := by have := HN.out; omega
    have hnI : (n : Int) ≤ 100000 := by omega
    have x0 := HK.out.pen.cell 0
    have y0 := HK.out.ref.cell 0
    simp [hr1] at x0 y0
    have HJ := Lib.hid (And.intro hj hu)
    have HGE := Lib.hid hge
    clear hr1 hge
    obtain ⟨hkf, h16, hff, hlf, hBF⟩ := HFR.out
    have HKF2 := Lib.hid ((HK.out.low.block k hkf.lt).trans hkf : Held _ k 35 cs)
    have HFF2 := Lib.hid (hff.below HK.out.low hBF)
    have HT : Hid (World.there _ g (j * 18 + 2) 16) := Lib.hid (fun i hi => by
      have h9 := HK.out.own.row.there HJ.out.1 (i + 2) (by omega)
      rw [show j * 18 + (i + 2) = j * 18 + 2 + i by omega] at h9
      exact h9)
    clear hkf hff
    go_upto_region 7 with (go_at_call 34; (refine (set1_z _ HKF2.out h16 HFF2.out hlf (Nat.le_trans hBF HK.out.low.size) (HT.out)).mono ?_); rintro _ _ ⟨rfl, ds, u, d1, d2, d3, hb5, rfl⟩)
    have hk5 := HK.out.below hb5
    have hg5 := hk5.own.row.ge
    have hgg : p.cells[j].gen = r.2 := by rw [HRR.out]
    have hown := (hk5.own.row.setf (F' := OwnF (u.setCells g (j * 18 + 2) ds.toList) (w.heap.size + 3)) hj d1 d2 ((d3.mono (by have := HK.out.res.lt; have := hk5.res.lt; omega)).kt (hk5.own.row.kts _ _) tyCV tyCS) (fun _ _ k => k.kt (hk5.own.row.kts _ _) tyCV tyCS)).own
    rw [hu, hgg] at hown
    have g2' : Held (u.setCells g (j * 18 + 2) ds.toList) w.heap.size 25 _ := (setCells_far _ _ _ _ _ (by omega)).trans hk5.pen
    have g4' : Held (u.setCells g (j * 18 + 2) ds.toList) (w.heap.size + 1 + 1) 25 _ := (setCells_far _ _ _ _ _ (by omega)).trans hk5.res
    have hlow5 := below_setCells hk5.low (show w.heap.size ≤ g by omega) (j * 18 + 2) ds.toList
    obtain rfl : (⟨p.cells.set j ⟨r.2, true, f⟩, p.free, p.most⟩, 0) = S := by
      rw [← HS.out]
      unfold setZ
      rw [if_neg (by rw [HOK.out]; decide), if_neg (by rw [HHS.out]; decide), HRR.out, Int.toNat_natCast]
    have HN9 : (p.cells.set j ⟨r.2, true, f⟩).length = n := by rw [List.length_set]; exact HN.out
    have HM9 := HM.out
    have HO := Lib.hid hown
    have HLW := Lib.hid hlow5
    clear hown hlow5 hk5 hb5 d1 d2 d3
    generalize u.setCells g (j * 18 + 2) ds.toList = W6 at *
    go_wp2_with (first
  | (guard_target = wpList _ _ _ (Oper.mk (some 26) _ _ _ _ none :: _) _ _; refine wpList_load_row rfl 25 _ rfl w.heap.size rfl _ _ _ _ g2' Try.underlying25 rfl (by kernel_rfl) ?_)
  | (guard_target = wpList _ _ _ (Oper.mk _ (Op.store 25 (.tmp 6) _) _ _ _ none :: _) _ _; refine wpList_store_row rfl 25 _ _ rfl (w.heap.size + 1 + 1) (pc (some ⟨g, 0, none⟩) n c3 A4 m c4 p.most) rfl rfl _ _ g4' (by kernel_rfl) rfl (by simp [Value.oneCell']) ?_))
    refine bodyPost_ret (results_ct0 rfl _ _ rfl rfl (load_pen (held_rowSelf g4' (pc (some ⟨g, 0, none⟩) n c3 A4 m c4 p.most)) rfl)) rfl ⟨_, c3, A4, c4, by simp only [HN9, HM9]; rfl, (HO.out.pen (kt_row g4' _)).mono (by omega), below_setRow HLW.out (by omega) _⟩
end Go.Proofs.Ytkpjlobpaippdaa
