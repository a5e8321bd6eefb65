/- Layer 12's code: Lay. -/
import Derived.Test.YtjibkgildfjjoaaDoorzYv
import Derived.Test.YtjibkgildfjjoaaDoorzYo
namespace Go.Proofs.YtjibkgildfjjoaaDoor
set_option linter.unusedVariables false
set_option linter.unusedSimpArgs false
open Go.RowKit Go.ChangeShapes Go.WideShapes Go.ChangeAt Go.Sort

/-- On the way of Lay: the pen, the frame, the results. -/
structure LayS (w : World) (p : Zp) (fs : Array Value) (A : Option Addr) (n c : Nat) (A2 : Option Addr) (m c2 : Nat) (W : World) : Prop where
  pen : Held W w.heap.size 29 (pc A n c A2 m c2 p.most)
  frm : Held W (w.heap.size + 1) 54 fs
  res : Held W (w.heap.size + 1 + 1) 29 pz0
  ref : Held W (w.heap.size + 1 + 1 + 1) 33 (refc 0 0)
  own : OwnZ W (w.heap.size + 4) A c A2 c2 p
  low : Below w.heap.size w W
  hn : p.cells.length = n
  hm : p.free.length = m
theorem LayS.below {w : World} {p : Zp} {fs : Array Value} {A : Option Addr} {n c : Nat} {A2 : Option Addr} {m c2 : Nat} {W W' : World} (h : LayS w p fs A n c A2 m c2 W) (hb : Below W.heap.size W W') : LayS w p fs A n c A2 m c2 W' :=
  ⟨h.pen.below hb, h.frm.below hb, h.res.below hb, h.ref.below hb, h.own.below hb, Below.step h.low hb, h.hn, h.hm⟩
theorem kt_cell {W : World} {g : Nat} {t : TypeId} {cs : Array Value} (h : Held W g t cs) (i : Nat) (v : Value) : KTy W (W.setCell ⟨g, i, none⟩ v) t := fun k e es fr hk hne => Below.heap_setCell W ⟨g, i, none⟩ v k (fun e2 => by
  subst e2
  rw [Held, hk] at h
  simp at h
  exact hne h.2.1)
/-- The free list's slice is turned. -/
theorem LayS.free {w : World} {p : Zp} {fs : Array Value} {A : Option Addr} {n c : Nat} {A2 : Option Addr} {m c2 : Nat} {W W' : World} (h : LayS w p fs A n c A2 m c2 W) {A7 : Option Addr} {m7 c7 : Nat} {l : List Int} (hg : W.grownBy W' (Value.ownBlock (.slice A2 p.free.length c2))) (hl : OwnI W' (w.heap.size + 4) (.slice A7 m7 c7) l) (hm : l.length = m7) :
    LayS w ⟨p.cells, l, p.most⟩ fs A n c A7 m7 c7 (W'.setCell ⟨w.heap.size, 1, none⟩ (.slice A7 m7 c7)) := by
  have hk := kt_own h.own.free hg
  have hq : ∀ q, Value.ownBlock (.slice A2 p.free.length c2) = some q → w.heap.size + 4 ≤ q := fun q e => (h.own.free.lt q e).1
  have hpn : Held W' w.heap.size 29 _ := held_grown h.pen hg (fun e => by have := hq _ e; omega)
  have hkp := kt_cell hpn 1 (.slice A7 m7 c7)
  have hs := h.ref.lt
  subst hm
  refine ⟨?_, (held_grown h.frm hg (fun e => by have := hq _ e; omega)).far (by omega) _ _, (held_grown h.res hg (fun e => by have := hq _ e; omega)).far (by omega) _ _, (held_grown h.ref hg (fun e => by have := hq _ e; omega)).far (by omega) _ _, ?_, ?_, h.hn, rfl⟩
  · have := hpn.set_at 1 (.slice A7 l.length c7)
    simpa using this
  · exact (OwnZ.mk (p := ⟨p.cells, l, p.most⟩) (h.own.cells.kt hk tyVI tySI tyCel) hl).pen hkp
  · exact (below_grown2 h.low hg (fun q e => by have := hq q e; omega) h.low.size).setCell (p := ⟨w.heap.size, 1, none⟩) (Nat.le_refl _) _
/-- The cells' slice is turned. -/
theorem LayS.cells {w : World} {p : Zp} {fs : Array Value} {A : Option Addr} {n c : Nat} {A2 : Option Addr} {m c2 : Nat} {W W' : World} (h : LayS w p fs A n c A2 m c2 W) {A7 : Option Addr} {m7 c7 : Nat} {l : List Cel} (hg : W.grownBy W' (Value.ownBlock (.slice A p.cells.length c))) (hl : OwnCe W' (w.heap.size + 4) (.slice A7 m7 c7) l) (hm : l.length = m7) :
    LayS w ⟨l, p.free, p.most⟩ fs A7 m7 c7 A2 m c2 (W'.setCell ⟨w.heap.size, 0, none⟩ (.slice A7 m7 c7)) := by
  obtain ⟨xs, r1, r2⟩ := h.own.cells
  have hk := kt_own r1 hg
  have hq : ∀ q, Value.ownBlock (.slice A p.cells.length c) = some q → w.heap.size + 4 ≤ q := fun q e => (r1.lt q e).1
  have hpn : Held W' w.heap.size 29 _ := held_grown h.pen hg (fun e => by have := hq _ e; omega)
  have hkp := kt_cell hpn 0 (.slice A7 m7 c7)
  have hs := h.ref.lt
  subst hm
  refine ⟨?_, (held_grown h.frm hg (fun e => by have := hq _ e; omega)).far (by omega) _ _, (held_grown h.res hg (fun e => by have := hq _ e; omega)).far (by omega) _ _, (held_grown h.ref hg (fun e => by have := hq _ e; omega)).far (by omega) _ _, ?_, ?_, rfl, h.hm⟩
  · have := hpn.set_at 0 (.slice A7 l.length c7)
    simpa using this
  · exact (OwnZ.mk (p := ⟨l, p.free, p.most⟩) hl (row_kt h.own.free hk tyCI)).pen hkp
  · exact (below_grown2 h.low hg (fun q e => by have := hq q e; omega) h.low.size).setCell (p := ⟨w.heap.size, 0, none⟩) (Nat.le_refl _) _
theorem LayS.alloc {w : World} {p : Zp} {fs : Array Value} {A : Option Addr} {n c : Nat} {A2 : Option Addr} {m c2 : Nat} {W : World} (h : LayS w p fs A n c A2 m c2 W) (o : Obj) : LayS w p fs A n c A2 m c2 (W.alloc o) := h.below ((Below.refl _ _).alloc (Nat.le_refl _) _)
theorem LayS.size {w : World} {p : Zp} {fs : Array Value} {A : Option Addr} {n c : Nat} {A2 : Option Addr} {m c2 : Nat} {W : World} (h : LayS w p fs A n c A2 m c2 W) : w.heap.size + 4 ≤ W.heap.size := h.ref.lt
theorem row_cap {w : World} {D e size n c g : Nat} {xs : List Value} (h : w.ownsRow D e size (.slice (some ⟨g, 0, none⟩) n c) n xs) : n ≤ c := by
  rcases h.2 with ⟨e0, _⟩ | ⟨g', cap, cur, e, _, _, hle, _⟩
  · simp at e0
  · simp only [Value.slice.injEq] at e
    obtain ⟨_, _, rfl⟩ := e
    exact hle
theorem cel0_own (w : World) (B : Nat) : OwnF w B (.agg fzc) cel0.frm := frm0_own w B
/-- A zero cell behind the others. -/
theorem ownC_app {w w' : World} {D n c m c' : Nat} {A A' : Option Addr} {l : List Cel} {xs : List Value} (h1 : w.ownsRow D 56 18 (.slice A n c) n xs) (h2 : CelsOf (fun _ => OwnF w D) xs l) (hg : w.grownBy w' (Value.ownBlock (.slice A n c))) (h3 : w'.ownsRow D 56 18 (.slice A' m c') m (xs ++ celv cel0 fzc)) (hm : (l ++ [cel0]).length = m) : OwnCe w' D (.slice A' m c') (l ++ [cel0]) := by
  subst hm
  exact ⟨_, h3, celsOf_app (h2.mono fun _ _ _ k => k.kt (kt_own h1 hg) tyCV tyCS) (celsOf_one1 rfl (by simp [Value.oneCell']) (cel0_own _ _))⟩
theorem range_held {w : World} {b : Nat} {t : TypeId} {cs : Array Value} (h : Held w b t cs) : w.rangeAt b 0 cs.toList := fun j v hj => by
  rw [Nat.zero_add]
  exact (h.cell j).trans (by simpa using hj)
/-- What Lay leaves. -/
def LayQ (w : World) (R : Zp × V × Int) (e : Ending) (w' : World) : Prop := ∃ A c A2 c2, e = .returned (.tuple #[pv A R.1.cells.length c A2 R.1.free.length c2 R.1.most, gv R.2.1.1 R.2.1.2, .int .i64 R.2.2]) ∧ OwnZ w' w.heap.size A c A2 c2 R.1 ∧ Below w.heap.size w w'
theorem ok_last {p : Zp} (h : okZ p = true) (h0 : p.free ≠ []) : ∃ j L : Nat, j < p.cells.length ∧ p.free.length = L + 1 ∧ lastZ p = (j : Int) ∧ p.free[L]? = some (j : Int) := by
  have hl : 0 < p.free.length := List.length_pos_iff.2 h0
  have h1 := ((okZ_iff p).1 h).rng (p.free[p.free.length - 1]'(by omega)) (List.getElem_mem _)
  refine ⟨(p.free[p.free.length - 1]'(by omega)).toNat, p.free.length - 1, by omega, by omega, ?_, ?_⟩
  · unfold lastZ
    rw [List.getD_eq_getElem?_getD, List.getElem?_eq_getElem (by omega), Option.getD_some]
    omega
  · rw [List.getElem?_eq_getElem (by omega)]
    congr 1
    omega
set_option maxHeartbeats 8000000 in
set_option maxRecDepth 100000 in
theorem lay_z {A A2 : Option Addr} {p : Zp} {B BF n m : Nat} {fs : Array Value} {f : Frm} (c c2 : Nat) (w : World) (hn : p.cells.length = n) (hm : p.free.length = m) (h : PAtZ w B A A2 p) (hl : LenZ p) (hB : B ≤ w.heap.size) (hs : fs.size = 16) (hf : FrmAt w BF (.agg fs) f) (hlf : FrmLen f) (hBF : BF ≤ w.heap.size) :
    Calls Tryd.prog 33 #[pv A n c A2 m c2 p.most, .agg fs] w (LayQ w (layZ p f)) := by
  have hbw : Below w.heap.size w ((((w.alloc (.cells (pc A n c A2 m c2 p.most) 29)).alloc (.cells fs 54)).alloc (.cells pz0 29)).alloc (.cells (refc 0 0) 33)) := below4 w _ _ _ _
  have g2 := (((Held.new w 29 (pc A n c A2 m c2 p.most)).alloc (.cells fs 54)).alloc (.cells pz0 29)).alloc (.cells (refc 0 0) 33)
  have g3 := ((Held.new1 w (.cells (pc A n c A2 m c2 p.most) 29) 54 fs).alloc (.cells pz0 29)).alloc (.cells (refc 0 0) 33)
  have g4 := (Held.new2 w (.cells (pc A n c A2 m c2 p.most) 29) (.cells fs 54) 29 pz0).alloc (.cells (refc 0 0) 33)
  have g5 : Held ((((w.alloc (.cells (pc A n c A2 m c2 p.most) 29)).alloc (.cells fs 54)).alloc (.cells pz0 29)).alloc (.cells (refc 0 0) 33)) (w.heap.size + 1 + 1 + 1) 33 (refc 0 0) := by
    have := Held.new (((w.alloc (.cells (pc A n c A2 m c2 p.most) 29)).alloc (.cells fs 54)).alloc (.cells pz0 29)) 33 (refc 0 0)
    simpa using this
  have hsz : w.heap.size + 4 ≤ ((((w.alloc (.cells (pc A n c A2 m c2 p.most) 29)).alloc (.cells fs 54)).alloc (.cells pz0 29)).alloc (.cells (refc 0 0) 33)).heap.size := by simp
  have CL := clone_z c c2 ((((w.alloc (.cells (pc A n c A2 m c2 p.most) 29)).alloc (.cells fs 54)).alloc (.cells pz0 29)).alloc (.cells (refc 0 0) 33)) hn hm (h.below hbw hB) hl (Nat.le_trans hB hbw.size)
  have HN := Lib.hid hn
  have HM := Lib.hid hm
  have HNN : Hid (n ≤ 2000) := Lib.hid (by have := hl.cells; omega)
  have HMM : Hid (m ≤ 2000) := Lib.hid (by have := hl.free; omega)
  have H16 := Lib.hid hs
  have HFF := Lib.hid hf
  have HBF := Lib.hid hBF
  have HLF := Lib.hid hlf
  obtain ⟨b1, hb1⟩ : ∃ b, okZ p = b := ⟨_, rfl⟩
  have MC := fun (W : World) {A' A2' : Option Addr} {c' c2' : Nat} (hp : PAtZ W W.heap.size A' A2' p) => may_z c' c2' W HN.out HM.out hp (by have := HNN.out; omega) (by have := HMM.out; omega) (Nat.le_refl _)
  simp only [hb1] at MC
  obtain ⟨S, hS⟩ : ∃ S, layZ p f = S := ⟨_, rfl⟩
  rw [hS]
  have HS := Lib.hid hS
  have HOK := Lib.hid hb1
  clear h hl hn hm hB hS hb1 hs hf hlf hBF
  go_enter Tryd.func33, Tryd.ntmps33
  go_upto_region 1 with (guard_target = wpList _ _ _ (Oper.mk (some 3) _ _ _ _ none :: _) _ _; refine wpList_box_arr rfl 54 _ rfl fs rfl ?_)
  generalize ((((w.alloc (.cells (pc A n c A2 m c2 p.most) 29)).alloc (.cells fs 54)).alloc (.cells pz0 29)).alloc (.cells (refc 0 0) 33)) = W0 at *
  go_upto_region 2 with (first
  | (guard_target = wpList _ _ _ (Oper.mk (some 10) _ _ _ _ none :: _) _ _; refine wpList_load_row rfl 29 _ rfl w.heap.size rfl _ _ _ _ g2 Tryd.underlying29 rfl (by kernel_rfl) ?_)
  | (go_at_call 54; (with_reducible refine (CL).mono ?_); rintro _ u1 ⟨A3, c3, A4, c4, rfl, ho, hb1⟩; have k2 := Held.below g2 hb1)
  | (guard_target = wpList _ _ _ (Oper.mk _ (Op.store 29 (.tmp 2) _) _ _ _ none :: _) _ _; refine wpList_store_row rfl 29 _ _ rfl w.heap.size (pc A3 n c3 A4 m c4 p.most) rfl rfl _ _ k2 (by kernel_rfl) rfl (by simp [Value.oneCell']) ?_))
  have hlow : Below w.heap.size w (u1.setRow w.heap.size (pc A3 n c3 A4 m c4 p.most)) := below_setRow (Below.step hbw hb1) (Nat.le_refl _) _
  have hk9 := kt_row k2 (pc A3 n c3 A4 m c4 p.most)
  have HK := Lib.hid (LayS.mk (held_rowSelf k2 (pc A3 n c3 A4 m c4 p.most)) (held_row (Held.below g3 hb1) (by omega) _) (held_row (Held.below g4 hb1) (by omega) _) (held_row (Held.below g5 hb1) (by omega) _) ((ho.mono hsz).pen hk9) hlow HN.out HM.out : LayS w p fs A3 n c3 A4 m c4 _)
  clear g2 g3 g4 g5 ho hb1 k2 hk9 hlow CL hbw hsz
  generalize u1.setRow w.heap.size (pc A3 n c3 A4 m c4 p.most) = W1 at *
  cases b1 with
  | false =>
    obtain rfl : (p, (0, 0), 1) = S := by rw [← HS.out]; unfold layZ; rw [if_pos HOK.out]
    have HN9 := HN.out
    have HM9 := HM.out
    go_upto_region 3 with (first
      | (guard_target = wpList _ _ _ (Oper.mk (some 12) _ _ _ _ none :: _) _ _; refine wpList_load_row rfl 29 _ rfl w.heap.size rfl _ _ _ _ HK.out.pen Tryd.underlying29 rfl (by kernel_rfl) ?_)
      | (go_at_call 55; (refine (MC _ HK.out.own.at).mono ?_); rintro _ u2 ⟨rfl, hb2⟩; have HK9 := Lib.hid (HK.out.below hb2); clear HK hb2; have HK := HK9; clear HK9))
    have g5b := held_row HK.out.ref (show w.heap.size + 1 + 1 + 1 ≠ w.heap.size + 1 + 1 by omega) (pc A3 n c3 A4 m c4 p.most)
    go_wp2_with (first
      | (guard_target = wpList _ _ _ (Oper.mk (some 15) _ _ _ _ none :: _) _ _; refine wpList_load_row rfl 29 _ rfl w.heap.size rfl _ _ _ _ HK.out.pen Tryd.underlying29 rfl (by kernel_rfl) ?_)
      | (guard_target = wpList _ _ _ (Oper.mk _ (Op.store 29 (.tmp 4) _) _ _ _ none :: _) _ _; refine wpList_store_row rfl 29 _ _ rfl (w.heap.size + 1 + 1) (pc A3 n c3 A4 m c4 p.most) rfl rfl _ _ HK.out.res (by kernel_rfl) rfl (by simp [Value.oneCell']) ?_)
      | (guard_target = wpList _ _ _ (Oper.mk _ (Op.store 33 (.tmp 5) _) _ _ _ none :: _) _ _; refine wpList_store_row rfl 33 _ _ rfl (w.heap.size + 1 + 1 + 1) (refc 0 0) rfl rfl _ _ g5b (by kernel_rfl) rfl (by simp [Value.oneCell']) ?_))
    refine bodyPost_ret (results_cct rfl _ _ rfl rfl rfl (load_pen (held_row (held_rowSelf HK.out.res _) (show w.heap.size + 1 + 1 ≠ w.heap.size + 1 + 1 + 1 by omega) (refc 0 0)) rfl) (load_ref (held_rowSelf g5b (refc 0 0)) rfl)) rfl ⟨A3, c3, A4, c4, by simp only [HN9, HM9]; rfl, ((HK.out.own.pen (kt_row HK.out.res _)).kt (kt_row g5b _) (by decide) (by decide) (by decide) (by decide)).mono (by omega), below_setRow (below_setRow HK.out.low (by omega) _) (by omega) _⟩

  | true =>
    go_upto_region 4 with (first
      | (guard_target = wpList _ _ _ (Oper.mk (some 12) _ _ _ _ none :: _) _ _; refine wpList_load_row rfl 29 _ rfl w.heap.size rfl _ _ _ _ HK.out.pen Tryd.underlying29 rfl (by kernel_rfl) ?_)
      | (go_at_call 55; (refine (MC _ HK.out.own.at).mono ?_); rintro _ u2 ⟨rfl, hb2⟩; have HK9 := Lib.hid (HK.out.below hb2); clear HK hb2; have HK := HK9; clear HK9))
    have x1 := HK.out.pen.cell 1
    have x0 := HK.out.pen.cell 0
    have x2 := HK.out.pen.cell 2
    simp at x0 x1 x2
    by_cases hfr : p.free = []
    · have hm0 : m = 0 := by rw [← HM.out, hfr]; rfl
      subst hm0
      by_cases hful : (n : Int) = p.most
      · obtain rfl : (p, (0, 0), 120) = S := by rw [← HS.out]; unfold layZ; rw [if_neg (by rw [HOK.out]; decide), if_pos hfr, if_pos (by rw [HN.out]; exact hful)]
        have e9 : ((n : Int) == p.most) = true := by simpa using hful
        have HN9 := HN.out
        have HM9 := HM.out
        clear hfr hful
        go_upto_region 6 with (fail)
        clear x0 x1 x2 e9
        have g5b := held_row HK.out.ref (show w.heap.size + 1 + 1 + 1 ≠ w.heap.size + 1 + 1 by omega) (pc A3 n c3 A4 0 c4 p.most)
        go_wp2_with (first
          | (guard_target = wpList _ _ _ (Oper.mk (some 27) _ _ _ _ none :: _) _ _; refine wpList_load_row rfl 29 _ rfl w.heap.size rfl _ _ _ _ HK.out.pen Tryd.underlying29 rfl (by kernel_rfl) ?_)
          | (guard_target = wpList _ _ _ (Oper.mk _ (Op.store 29 (.tmp 4) _) _ _ _ none :: _) _ _; refine wpList_store_row rfl 29 _ _ rfl (w.heap.size + 1 + 1) (pc A3 n c3 A4 0 c4 p.most) rfl rfl _ _ HK.out.res (by kernel_rfl) rfl (by simp [Value.oneCell']) ?_)
          | (guard_target = wpList _ _ _ (Oper.mk _ (Op.store 33 (.tmp 5) _) _ _ _ none :: _) _ _; refine wpList_store_row rfl 33 _ _ rfl (w.heap.size + 1 + 1 + 1) (refc 0 0) rfl rfl _ _ g5b (by kernel_rfl) rfl (by simp [Value.oneCell']) ?_))
        refine bodyPost_ret (results_cct rfl _ _ rfl rfl rfl (load_pen (held_row (held_rowSelf HK.out.res _) (show w.heap.size + 1 + 1 ≠ w.heap.size + 1 + 1 + 1 by omega) (refc 0 0)) rfl) (load_ref (held_rowSelf g5b (refc 0 0)) rfl)) rfl ⟨A3, c3, A4, c4, by simp only [HN9, HM9]; rfl, ((HK.out.own.pen (kt_row HK.out.res _)).kt (kt_row g5b _) (by decide) (by decide) (by decide) (by decide)).mono (by omega), below_setRow (below_setRow HK.out.low (by omega) _) (by omega) _⟩

      · have e9 : ((n : Int) == p.most) = false := by simpa using hful
        have HSS0 : Hid (S = (⟨(p.cells ++ [cel0]).set n ⟨((p.cells ++ [cel0])[n]'(by have := HN.out; simp; omega)).gen, true, f⟩, [(n : Int)].take 0, p.most⟩, ((n : Int), ((p.cells ++ [cel0])[n]'(by have := HN.out; simp; omega)).gen), 0)) := Lib.hid (by
          rw [← HS.out]
          unfold layZ
          rw [if_neg (by rw [HOK.out]; decide), if_pos hfr, if_neg (by rw [HN.out]; exact hful)]
          have hnn : n = p.cells.length := HN.out.symm
          subst hnn
          simp [cel0])
        have HFR := Lib.hid hfr
        clear hfr hful
        go_upto_region 7 with (fail)
        have HKA := Lib.hid (HK.out.alloc (.cells #[.int .i64 n] 3))
        have HVA := Lib.hid (one1_at (t := 3) (w := u2) (n : Int))
        have x0' := HKA.out.pen.cell 0
        have x1' := HKA.out.pen.cell 1
        simp at x0' x1'
        go_upto_region 8 with (at_builtin; go_loud (refine wpList_append_is (k := [(n : Int)]) (n := 1) rfl _ _ rfl (w.heap.size + 4) _ p.free (by rw [HM.out]; try rfl) HKA.out.own.free rfl rfl HVA.out (Nat.le_refl _) (by rw [HM.out]; omega) HKA.out.size ?_; intro A7 m7 c7 u7 hm7 k1 k2; have hm8 : m7 = 1 := (hm7.trans (congrArg (· + 1) HM.out)); clear hm7; subst hm8; have K2 := Lib.hid k2; have K1 := Lib.hid k1; have g9 := held_grown HKA.out.pen k2 (fun e => by have := (HKA.out.own.free.lt _ e).1; omega); have y0 := g9.cell 0; have y1 := g9.cell 1; have z1 := g9.fz 1; simp at y0 y1; clear k1 k2 g9))
        have hnew := HKA.out.free K2.out K1.out (by rw [HFR.out]; rfl)
        rw [show p.free ++ [(n : Int)] = [(n : Int)] by rw [HFR.out]; rfl] at hnew
        have HKB := Lib.hid hnew
        clear hnew y0 y1 z1 x0' x1' HKA HVA K1 K2 x0 x1 x2 HK
        generalize u7.setCell ⟨w.heap.size, 1, none⟩ (.slice A7 1 c7) = W5 at *
        have HKC := Lib.hid (HKB.out.alloc (.cells cz0 56))
        have x0 := HKB.out.pen.cell 0
        have x0' := HKC.out.pen.cell 0
        simp at x0 x0'
        obtain ⟨xs9, q1, q2⟩ := HKC.out.own.cells
        simp only [HN.out] at q1
        have Q1 := Lib.hid q1
        have Q2 := Lib.hid q2
        have hr9 : Hid ((W5.alloc (.cells cz0 56)).rangeAt W5.heap.size 0 (celv cel0 fzc)) := Lib.hid (range_held (Held.new W5 56 cz0))
        clear q1 q2
        go_upto_region 9 with (at_builtin; refine wpList_append_cs rfl _ _ rfl (w.heap.size + 4) _ n rfl Q1.out rfl hr9.out rfl (celsOf_one (celsOf_one1 (F := fun _ _ _ => True) (c := cel0) (cs := fzc) rfl (by simp [Value.oneCell']) trivial)) (Nat.le_refl _) (by have := HNN.out; omega) HKC.out.size ?_; intro A8 m8 c8 u8 hm8 k1 k2; have HM8 := Lib.hid hm8; clear hm8; have K2 := Lib.hid k2; have K1 := Lib.hid k1; have g9 := held_grown HKC.out.pen k2 (fun e => by have := (Q1.out.lt _ e).1; omega); have y0 := g9.cell 0; have z0 := g9.fz 0; simp at y0; clear k1 k2 g9)
        have hlen8 : (p.cells ++ [cel0]).length = m8 := by rw [HM8.out, List.length_append, HN.out]; rfl
        have hnew := HKC.out.cells (by simp only [HN.out]; exact K2.out) (ownC_app Q1.out Q2.out K2.out K1.out hlen8) hlen8
        obtain ⟨L, hL⟩ : ∃ L : Nat, L = 0 := ⟨_, rfl⟩
        obtain ⟨PP, hP⟩ : ∃ P : Zp, P = ⟨p.cells ++ [cel0], [(n : Int)], p.most⟩ := ⟨_, rfl⟩
        obtain ⟨j, hj⟩ : ∃ j : Nat, j = n := ⟨_, rfl⟩
        have HK : Hid (LayS w PP fs A8 m8 c8 A7 (L + 1) c7 _) := Lib.hid (by rw [hP, hL]; exact hnew)
        have HJ : Hid (j < PP.cells.length) := Lib.hid (by subst hP hj; rw [hlen8, HM8.out]; omega)
        have HF9 : Hid (PP.free[L]? = some (j : Int)) := Lib.hid (by subst hP hj hL; rfl)
        have HLL : Hid (L ≤ 2000) := Lib.hid (by omega)
        have HNN8 : Hid (m8 ≤ 2001) := Lib.hid (by have := HM8.out; have := HNN.out; omega)
        have HSS : Hid (S = (⟨PP.cells.set j ⟨(PP.cells[j]'(HJ.out)).gen, true, f⟩, PP.free.take L, PP.most⟩, ((j : Int), (PP.cells[j]'(HJ.out)).gen), 0)) := Lib.hid (by subst hP hj hL; exact HSS0.out)
        clear hnew y0 z0 x0 x0' HKB HKC hr9 K1 K2 Q1 Q2 HSS0 hlen8 hL hP hj
        generalize u8.setCell ⟨w.heap.size, 0, none⟩ (.slice A8 m8 c8) = W7 at *
        obtain ⟨gf, rfl, hgf1, hgf2, k0⟩ := lie_form HK.out.own.free (j := L) (by have := HK.out.hm; omega)
        rw [show PP.free[L]'(by have := HK.out.hm; omega) = (j : Int) by have h9 := HF9.out; rw [List.getElem?_eq_getElem (by have := HK.out.hm; omega)] at h9; exact Option.some.inj h9] at k0
        have x1 := HK.out.pen.cell 1
        have z1 := HK.out.pen.fz 1
        simp at x1
        have hL0 : (0 : Int) ≤ L := by omega
        have hLI : (L : Int) ≤ 100000 := by have := HLL.out; omega
        have hL1 : (L : Int) < (L : Int) + 1 := by omega
        have hLL1 : ((L + 1 : Nat) : Int) = (L : Int) + 1 := by omega
        have hcap : L ≤ c7 := by have := row_cap HK.out.own.free; have := HK.out.hm; omega
        go_upto_region 12 with (fail)
        have hnew := HK.out.free (A7 := some ⟨gf, 0, none⟩) (m7 := L) (c7 := c7) (l := PP.free.take L) (grown_of_below (Below.refl _ _) _) (by have h9 := HK.out.own.free; exact h9.cut (by have := HK.out.hm; omega)) (by rw [List.length_take]; have := HK.out.hm; omega)
        have HLY0 := Lib.hid hnew
        obtain ⟨g, rfl, hge⟩ := HLY0.out.own.row.form HJ.out
        obtain ⟨gn, hgn⟩ : ∃ gn, (PP.cells[j]'(HJ.out)).gen = gn := ⟨_, rfl⟩
        replace hge := hge.trans (congrArg (fun x => some (Value.int .i64 x)) hgn)
        have HGN := Lib.hid hgn
        have x0 := HLY0.out.pen.cell 0
        simp at x0
        have hj0 : (0 : Int) ≤ j := by omega
        have hjn : (j : Int) < (m8 : Nat) := by have := HJ.out; have := HK.out.hn; omega
        have hnI9 : ((m8 : Nat) : Int) ≤ 100000 := by have := HNN8.out; omega
        clear hnew x1 z1 k0 hgn HK
        generalize World.setCell _ ⟨w.heap.size, 1, none⟩ _ = W8 at *
        go_upto_region 13 with (fail)
        have hly := HLY0.out
        clear x0 hge HLY0
        have hdr := (Below.refl W8.heap.size W8).drew
        replace hly := hly.below hdr
        clear hdr
        refine wp_region_K 8 (fun W => Below W8.drew.heap.size W8.drew W) (by kernel_rfl) (by kernel_rfl) (fun HNS => ?_)
        generalize W8.drew = W9 at *
        have hS : Below W9.heap.size W9 W9 := Below.refl _ _
        show wpAnyK _ _ _ _ _ _ 9 #[false, false, false, false, false, false, false, false, false] _ _
        have hpen := hly.pen
        have hfrm := hly.frm
        have HLY9 := Lib.hid hly
        have OC := Lib.hid (own_any W9 (HFF.out.below HLY9.out.low HBF.out) HLF.out (Nat.le_trans HBF.out HLY9.out.low.size))
        clear hly
        refine wpAnyK_take HNS [1, 7, 8] (i := 0) (v := .pointer (some ⟨w.heap.size, 0, none⟩)) rfl (by kernel_rfl) (by kernel_rfl) (by kernel_rfl) (fun _ _ _ h => h) (Or.inl ⟨by kernel_rfl, fun W hW => ?_⟩) hS ?_
        · go_simp
        simp only [Act.put, List.getElem_toArray, List.getElem_cons_succ, List.getElem_cons_zero, List.setIfInBounds_toArray, List.set_cons_zero, List.set_cons_succ]
        refine wpAnyK_take HNS [7, 8] (i := 1) (v := .slice (some ⟨g, 0, none⟩) m8 c8) rfl (by kernel_rfl) (by kernel_rfl) (by kernel_rfl) (fun _ _ _ h => h) (Or.inl ⟨by kernel_rfl, fun W hW => ?_⟩) hS ?_
        · (have hz := Held.below hpen hW; have z0 := hz.cell 0; simp at z0; go_simp)
        simp only [Act.put, List.getElem_toArray, List.getElem_cons_succ, List.getElem_cons_zero, List.setIfInBounds_toArray, List.set_cons_zero, List.set_cons_succ]
        refine wpAnyK_take HNS [7, 8] (i := 2) (v := .int .i64 j) rfl (by kernel_rfl) (by kernel_rfl) (by kernel_rfl) (fun _ _ _ h => h) (Or.inl ⟨by kernel_rfl, fun W hW => ?_⟩) hS ?_
        · go_simp
        simp only [Act.put, List.getElem_toArray, List.getElem_cons_succ, List.getElem_cons_zero, List.setIfInBounds_toArray, List.set_cons_zero, List.set_cons_succ]
        refine wpAnyK_take HNS [6, 8] (i := 3) (v := .int .i64 gn) rfl (by kernel_rfl) (by kernel_rfl) (by kernel_rfl) (fun _ _ _ h => h) (Or.inl ⟨by kernel_rfl, fun W hW => ?_⟩) hS ?_
        · go_simp
        simp only [Act.put, List.getElem_toArray, List.getElem_cons_succ, List.getElem_cons_zero, List.setIfInBounds_toArray, List.set_cons_zero, List.set_cons_succ]
        refine wpAnyK_take HNS [5, 8] (i := 4) (v := .agg fs) rfl (by kernel_rfl) (by kernel_rfl) (by kernel_rfl) (fun _ _ _ h => h) (yieldsIf_load_midA (by kernel_rfl) 54 _ rfl (w.heap.size + 1) 0 (by rfl) fs _ (fun W hW => range_held (Held.below hfrm hW)) Tryd.underlying54 rfl (by rw [H16.out]; kernel_rfl)) hS ?_
        simp only [Act.put, List.getElem_toArray, List.getElem_cons_succ, List.getElem_cons_zero, List.setIfInBounds_toArray, List.set_cons_zero, List.set_cons_succ]
        refine wpAnyK_mid (i := 5) (by kernel_rfl) rfl (fun K hK => ?_)
        rw [if_pos (by kernel_rfl)]
        go_simp
        go_at_call 56
        (refine (OC.out).mono ?_)
        rintro _ u ⟨sv1, lv1, ov1, rfl, o1, o2, o3, -, -, -, hb⟩
        replace hS := Below.step hS hb
        obtain ⟨Ax1, cx1, rfl, -⟩ := o1.lies
        obtain ⟨Ax2, cx2, rfl, -⟩ := o2.lies
        obtain ⟨Ax3, cx3, rfl, -⟩ := o3.lies
        have HLY := Lib.hid (HLY9.out.below hb)
        have HOF := Lib.hid (show OwnF u W9.heap.size (.agg (fcA f (.slice Ax1 f.stk.length cx1) (.slice Ax2 f.loc.length cx2) (.slice Ax3 f.slt.length cx3))) f from ⟨_, _, _, rfl, o1, o2, o3⟩)
        have ON : Hid ((celv ⟨gn, true, f⟩ (fcA f (.slice Ax1 f.stk.length cx1) (.slice Ax2 f.loc.length cx2) (.slice Ax3 f.slt.length cx3))).toArray.all (·.oneCell') = true) := Lib.hid (by simp [Value.oneCell'])
        clear o1 o2 o3 hb
        (repeat (first | go_skip | go_guarded | go_step | go_upon))
        refine hK.out _ _ hS ?_
        clear hK K
        (try simp only [Act.put, List.getElem_toArray, List.getElem_cons_succ, List.getElem_cons_zero, List.setIfInBounds_toArray, List.set_cons_zero, List.set_cons_succ])
        refine wpAnyK_take HNS [8] (i := 6) (v := .agg (celv ⟨gn, true, f⟩ (fcA f (.slice Ax1 f.stk.length cx1) (.slice Ax2 f.loc.length cx2) (.slice Ax3 f.slt.length cx3))).toArray) rfl (by kernel_rfl) (by kernel_rfl) (by kernel_rfl) (fun _ _ _ h => h) (Or.inl ⟨by kernel_rfl, fun W hW => ?_⟩) hS ?_
        · go_simp
        simp only [Act.put, List.getElem_toArray, List.getElem_cons_succ, List.getElem_cons_zero, List.setIfInBounds_toArray, List.set_cons_zero, List.set_cons_succ]
        refine wpAnyK_take HNS [8] (i := 7) (v := .pointer (some ⟨g, j * 18, none⟩)) rfl (by kernel_rfl) (by kernel_rfl) (by kernel_rfl) (fun _ _ _ h => h) (Or.inl ⟨by kernel_rfl, fun W hW => ?_⟩) hS ?_
        · go_simp
        simp only [Act.put, List.getElem_toArray, List.getElem_cons_succ, List.getElem_cons_zero, List.setIfInBounds_toArray, List.set_cons_zero, List.set_cons_succ]
        refine wpAnyK_last (by kernel_rfl) rfl (fun K hK => ?_)
        rw [if_pos (by kernel_rfl)]
        refine wp_store_mid 56 _ _ rfl g (j * 18) (celv ⟨gn, true, f⟩ (fcA f (.slice Ax1 f.stk.length cx1) (.slice Ax2 f.loc.length cx2) (.slice Ax3 f.slt.length cx3))).toArray (by rfl) (by rfl) (HLY.out.own.row.there HJ.out) (by kernel_rfl) ON.out ?_
        refine hK.out _ _ ?_
        clear hK K
        (try simp only [Act.put, List.getElem_toArray, List.getElem_cons_succ, List.getElem_cons_zero, List.setIfInBounds_toArray, List.set_cons_zero, List.set_cons_succ])
        refine wpAnyK_done (by kernel_rfl) ?_ _
        have hg5 := HLY.out.own.row.ge
        have hown := (HLY.out.own.row.setc (F' := OwnF (u.setCells g (j * 18) (celv ⟨gn, true, f⟩ (fcA f (.slice Ax1 f.stk.length cx1) (.slice Ax2 f.loc.length cx2) (.slice Ax3 f.slt.length cx3)))) (w.heap.size + 4)) HJ.out (x := ⟨gn, true, f⟩) (cs := fcA f (.slice Ax1 f.stk.length cx1) (.slice Ax2 f.loc.length cx2) (.slice Ax3 f.slt.length cx3)) rfl (by simp [Value.oneCell']) ((HOF.out.mono HLY9.out.size).kt (HLY.out.own.row.kts _ _) tyCV tyCS) (fun _ _ k => k.kt (HLY.out.own.row.kts _ _) tyCV tyCS)).own
        have g2' : Held (u.setCells g (j * 18) (celv ⟨gn, true, f⟩ (fcA f (.slice Ax1 f.stk.length cx1) (.slice Ax2 f.loc.length cx2) (.slice Ax3 f.slt.length cx3)))) w.heap.size 29 _ := (setCells_far _ _ _ _ _ (by omega)).trans HLY.out.pen
        have g4' : Held (u.setCells g (j * 18) (celv ⟨gn, true, f⟩ (fcA f (.slice Ax1 f.stk.length cx1) (.slice Ax2 f.loc.length cx2) (.slice Ax3 f.slt.length cx3)))) (w.heap.size + 1 + 1) 29 _ := (setCells_far _ _ _ _ _ (by omega)).trans HLY.out.res
        have g5' : Held (u.setCells g (j * 18) (celv ⟨gn, true, f⟩ (fcA f (.slice Ax1 f.stk.length cx1) (.slice Ax2 f.loc.length cx2) (.slice Ax3 f.slt.length cx3)))) (w.heap.size + 1 + 1 + 1) 33 _ := (setCells_far _ _ _ _ _ (by omega)).trans HLY.out.ref
        have HLW := Lib.hid (below_setCells HLY.out.low (show w.heap.size ≤ g by omega) (j * 18) (celv ⟨gn, true, f⟩ (fcA f (.slice Ax1 f.stk.length cx1) (.slice Ax2 f.loc.length cx2) (.slice Ax3 f.slt.length cx3))))
        have HO := Lib.hid hown
        have HSG := HSS.out
        rw [HGN.out] at HSG
        subst HSG
        have HN9 : (PP.cells.set j ⟨gn, true, f⟩).length = m8 := by rw [List.length_set]; exact HLY.out.hn
        have HM9 : (PP.free.take L).length = L := by have := HLY.out.hm; simpa using this
        clear hown hS HLY HLY9 HOF ON OC hpen hfrm
        generalize u.setCells g (j * 18) (celv ⟨gn, true, f⟩ (fcA f (.slice Ax1 f.stk.length cx1) (.slice Ax2 f.loc.length cx2) (.slice Ax3 f.slt.length cx3))) = W10 at *
        have g5b := held_row g5' (show w.heap.size + 1 + 1 + 1 ≠ w.heap.size + 1 + 1 by omega) (pc (some ⟨g, 0, none⟩) m8 c8 (some ⟨gf, 0, none⟩) L c7 PP.most)
        go_wp2_with (first
          | (guard_target = wpList _ _ _ (Oper.mk (some 71) _ _ _ _ none :: _) _ _; refine wpList_load_row rfl 29 _ rfl w.heap.size rfl _ _ _ _ g2' Tryd.underlying29 rfl (by kernel_rfl) ?_)
          | (guard_target = wpList _ _ _ (Oper.mk _ (Op.store 29 (.tmp 4) _) _ _ _ none :: _) _ _; refine wpList_store_row rfl 29 _ _ rfl (w.heap.size + 1 + 1) (pc (some ⟨g, 0, none⟩) m8 c8 (some ⟨gf, 0, none⟩) L c7 PP.most) rfl rfl _ _ g4' (by kernel_rfl) rfl (by simp [Value.oneCell']) ?_)
          | (guard_target = wpList _ _ _ (Oper.mk _ (Op.store 33 (.tmp 5) _) _ _ _ none :: _) _ _; refine wpList_store_row rfl 33 _ _ rfl (w.heap.size + 1 + 1 + 1) (refc j gn) rfl rfl _ _ g5b (by kernel_rfl) rfl (by simp [Value.oneCell']) ?_))
        refine bodyPost_ret (results_cct rfl _ _ rfl rfl rfl (load_pen (held_row (held_rowSelf g4' _) (show w.heap.size + 1 + 1 ≠ w.heap.size + 1 + 1 + 1 by omega) (refc j gn)) rfl) (load_ref (held_rowSelf g5b (refc j gn)) rfl)) rfl ⟨_, c8, _, c7, by simp only [HN9, HM9]; rfl, ((HO.out.pen (kt_row g4' _)).kt (kt_row g5b _) (by decide) (by decide) (by decide) (by decide)).mono (by omega), below_setRow (below_setRow HLW.out (by omega) _) (by omega) _⟩

    · obtain ⟨j, L, hj, hL, hlast, hfl⟩ := ok_last HOK.out hfr
      obtain rfl : m = L + 1 := HM.out.symm.trans hL
      have HJ := Lib.hid hj
      have HF9 := Lib.hid hfl
      have HLL : Hid (L ≤ 2000) := Lib.hid (by have := HMM.out; omega)
      have HSS : Hid (S = (⟨p.cells.set j ⟨(p.cells[j]'(HJ.out)).gen, true, f⟩, p.free.take L, p.most⟩, ((j : Int), (p.cells[j]'(HJ.out)).gen), 0)) := Lib.hid (by
        rw [← HS.out]
        unfold layZ genZ
        rw [if_neg (by rw [HOK.out]; decide), if_neg hfr, hlast, hL, Int.toNat_natCast, List.getD_eq_getElem?_getD, List.getElem?_eq_getElem hj, Option.getD_some]
        rfl)
      clear hL hlast hfl hfr x0 x1 x2
      obtain ⟨gf, rfl, hgf1, hgf2, k0⟩ := lie_form HK.out.own.free (j := L) (by have := HK.out.hm; omega)
      rw [show p.free[L]'(by have := HK.out.hm; omega) = (j : Int) by have h9 := HF9.out; rw [List.getElem?_eq_getElem (by have := HK.out.hm; omega)] at h9; exact Option.some.inj h9] at k0
      have x1 := HK.out.pen.cell 1
      have z1 := HK.out.pen.fz 1
      simp at x1
      have hL0 : (0 : Int) ≤ L := by omega
      have hLI : (L : Int) ≤ 100000 := by have := HLL.out; omega
      have hL1 : (L : Int) < (L : Int) + 1 := by omega
      have hLL1 : ((L + 1 : Nat) : Int) = (L : Int) + 1 := by omega
      have hcap : L ≤ c4 := by have := row_cap HK.out.own.free; have := HK.out.hm; omega
      go_upto_region 12 with (fail)
      have hnew := HK.out.free (A7 := some ⟨gf, 0, none⟩) (m7 := L) (c7 := c4) (l := p.free.take L) (grown_of_below (Below.refl _ _) _) (by have h9 := HK.out.own.free; exact h9.cut (by have := HK.out.hm; omega)) (by rw [List.length_take]; have := HK.out.hm; omega)
      have HLY0 := Lib.hid hnew
      obtain ⟨g, rfl, hge⟩ := HLY0.out.own.row.form HJ.out
      obtain ⟨gn, hgn⟩ : ∃ gn, (p.cells[j]'(HJ.out)).gen = gn := ⟨_, rfl⟩
      replace hge := hge.trans (congrArg (fun x => some (Value.int .i64 x)) hgn)
      have HGN := Lib.hid hgn
      have x0 := HLY0.out.pen.cell 0
      simp at x0
      have hj0 : (0 : Int) ≤ j := by omega
      have hjn : (j : Int) < (n : Nat) := by have := HJ.out; have := HK.out.hn; omega
      have hnI9 : ((n : Nat) : Int) ≤ 100000 := by have := HNN.out; omega
      clear hnew x1 z1 k0 hgn HK
      generalize World.setCell _ ⟨w.heap.size, 1, none⟩ _ = W8 at *
      go_upto_region 13 with (fail)
      have hly := HLY0.out
      clear x0 hge HLY0
      have hdr := (Below.refl W8.heap.size W8).drew
      replace hly := hly.below hdr
      clear hdr
      refine wp_region_K 8 (fun W => Below W8.drew.heap.size W8.drew W) (by kernel_rfl) (by kernel_rfl) (fun HNS => ?_)
      generalize W8.drew = W9 at *
      have hS : Below W9.heap.size W9 W9 := Below.refl _ _
      show wpAnyK _ _ _ _ _ _ 9 #[false, false, false, false, false, false, false, false, false] _ _
      have hpen := hly.pen
      have hfrm := hly.frm
      have HLY9 := Lib.hid hly
      have OC := Lib.hid (own_any W9 (HFF.out.below HLY9.out.low HBF.out) HLF.out (Nat.le_trans HBF.out HLY9.out.low.size))
      clear hly
      refine wpAnyK_take HNS [1, 7, 8] (i := 0) (v := .pointer (some ⟨w.heap.size, 0, none⟩)) rfl (by kernel_rfl) (by kernel_rfl) (by kernel_rfl) (fun _ _ _ h => h) (Or.inl ⟨by kernel_rfl, fun W hW => ?_⟩) hS ?_
      · go_simp
      simp only [Act.put, List.getElem_toArray, List.getElem_cons_succ, List.getElem_cons_zero, List.setIfInBounds_toArray, List.set_cons_zero, List.set_cons_succ]
      refine wpAnyK_take HNS [7, 8] (i := 1) (v := .slice (some ⟨g, 0, none⟩) n c3) rfl (by kernel_rfl) (by kernel_rfl) (by kernel_rfl) (fun _ _ _ h => h) (Or.inl ⟨by kernel_rfl, fun W hW => ?_⟩) hS ?_
      · (have hz := Held.below hpen hW; have z0 := hz.cell 0; simp at z0; go_simp)
      simp only [Act.put, List.getElem_toArray, List.getElem_cons_succ, List.getElem_cons_zero, List.setIfInBounds_toArray, List.set_cons_zero, List.set_cons_succ]
      refine wpAnyK_take HNS [7, 8] (i := 2) (v := .int .i64 j) rfl (by kernel_rfl) (by kernel_rfl) (by kernel_rfl) (fun _ _ _ h => h) (Or.inl ⟨by kernel_rfl, fun W hW => ?_⟩) hS ?_
      · go_simp
      simp only [Act.put, List.getElem_toArray, List.getElem_cons_succ, List.getElem_cons_zero, List.setIfInBounds_toArray, List.set_cons_zero, List.set_cons_succ]
      refine wpAnyK_take HNS [6, 8] (i := 3) (v := .int .i64 gn) rfl (by kernel_rfl) (by kernel_rfl) (by kernel_rfl) (fun _ _ _ h => h) (Or.inl ⟨by kernel_rfl, fun W hW => ?_⟩) hS ?_
      · go_simp
      simp only [Act.put, List.getElem_toArray, List.getElem_cons_succ, List.getElem_cons_zero, List.setIfInBounds_toArray, List.set_cons_zero, List.set_cons_succ]
      refine wpAnyK_take HNS [5, 8] (i := 4) (v := .agg fs) rfl (by kernel_rfl) (by kernel_rfl) (by kernel_rfl) (fun _ _ _ h => h) (yieldsIf_load_midA (by kernel_rfl) 54 _ rfl (w.heap.size + 1) 0 (by rfl) fs _ (fun W hW => range_held (Held.below hfrm hW)) Tryd.underlying54 rfl (by rw [H16.out]; kernel_rfl)) hS ?_
      simp only [Act.put, List.getElem_toArray, List.getElem_cons_succ, List.getElem_cons_zero, List.setIfInBounds_toArray, List.set_cons_zero, List.set_cons_succ]
      refine wpAnyK_mid (i := 5) (by kernel_rfl) rfl (fun K hK => ?_)
      rw [if_pos (by kernel_rfl)]
      go_simp
      go_at_call 56
      (refine (OC.out).mono ?_)
      rintro _ u ⟨sv1, lv1, ov1, rfl, o1, o2, o3, -, -, -, hb⟩
      replace hS := Below.step hS hb
      obtain ⟨Ax1, cx1, rfl, -⟩ := o1.lies
      obtain ⟨Ax2, cx2, rfl, -⟩ := o2.lies
      obtain ⟨Ax3, cx3, rfl, -⟩ := o3.lies
      have HLY := Lib.hid (HLY9.out.below hb)
      have HOF := Lib.hid (show OwnF u W9.heap.size (.agg (fcA f (.slice Ax1 f.stk.length cx1) (.slice Ax2 f.loc.length cx2) (.slice Ax3 f.slt.length cx3))) f from ⟨_, _, _, rfl, o1, o2, o3⟩)
      have ON : Hid ((celv ⟨gn, true, f⟩ (fcA f (.slice Ax1 f.stk.length cx1) (.slice Ax2 f.loc.length cx2) (.slice Ax3 f.slt.length cx3))).toArray.all (·.oneCell') = true) := Lib.hid (by simp [Value.oneCell'])
      clear o1 o2 o3 hb
      (repeat (first | go_skip | go_guarded | go_step | go_upon))
      refine hK.out _ _ hS ?_
      clear hK K
      (try simp only [Act.put, List.getElem_toArray, List.getElem_cons_succ, List.getElem_cons_zero, List.setIfInBounds_toArray, List.set_cons_zero, List.set_cons_succ])
      refine wpAnyK_take HNS [8] (i := 6) (v := .agg (celv ⟨gn, true, f⟩ (fcA f (.slice Ax1 f.stk.length cx1) (.slice Ax2 f.loc.length cx2) (.slice Ax3 f.slt.length cx3))).toArray) rfl (by kernel_rfl) (by kernel_rfl) (by kernel_rfl) (fun _ _ _ h => h) (Or.inl ⟨by kernel_rfl, fun W hW => ?_⟩) hS ?_
      · go_simp
      simp only [Act.put, List.getElem_toArray, List.getElem_cons_succ, List.getElem_cons_zero, List.setIfInBounds_toArray, List.set_cons_zero, List.set_cons_succ]
      refine wpAnyK_take HNS [8] (i := 7) (v := .pointer (some ⟨g, j * 18, none⟩)) rfl (by kernel_rfl) (by kernel_rfl) (by kernel_rfl) (fun _ _ _ h => h) (Or.inl ⟨by kernel_rfl, fun W hW => ?_⟩) hS ?_
      · go_simp
      simp only [Act.put, List.getElem_toArray, List.getElem_cons_succ, List.getElem_cons_zero, List.setIfInBounds_toArray, List.set_cons_zero, List.set_cons_succ]
      refine wpAnyK_last (by kernel_rfl) rfl (fun K hK => ?_)
      rw [if_pos (by kernel_rfl)]
      refine wp_store_mid 56 _ _ rfl g (j * 18) (celv ⟨gn, true, f⟩ (fcA f (.slice Ax1 f.stk.length cx1) (.slice Ax2 f.loc.length cx2) (.slice Ax3 f.slt.length cx3))).toArray (by rfl) (by rfl) (HLY.out.own.row.there HJ.out) (by kernel_rfl) ON.out ?_
      refine hK.out _ _ ?_
      clear hK K
      (try simp only [Act.put, List.getElem_toArray, List.getElem_cons_succ, List.getElem_cons_zero, List.setIfInBounds_toArray, List.set_cons_zero, List.set_cons_succ])
      refine wpAnyK_done (by kernel_rfl) ?_ _
      have hg5 := HLY.out.own.row.ge
      have hown := (HLY.out.own.row.setc (F' := OwnF (u.setCells g (j * 18) (celv ⟨gn, true, f⟩ (fcA f (.slice Ax1 f.stk.length cx1) (.slice Ax2 f.loc.length cx2) (.slice Ax3 f.slt.length cx3)))) (w.heap.size + 4)) HJ.out (x := ⟨gn, true, f⟩) (cs := fcA f (.slice Ax1 f.stk.length cx1) (.slice Ax2 f.loc.length cx2) (.slice Ax3 f.slt.length cx3)) rfl (by simp [Value.oneCell']) ((HOF.out.mono HLY9.out.size).kt (HLY.out.own.row.kts _ _) tyCV tyCS) (fun _ _ k => k.kt (HLY.out.own.row.kts _ _) tyCV tyCS)).own
      have g2' : Held (u.setCells g (j * 18) (celv ⟨gn, true, f⟩ (fcA f (.slice Ax1 f.stk.length cx1) (.slice Ax2 f.loc.length cx2) (.slice Ax3 f.slt.length cx3)))) w.heap.size 29 _ := (setCells_far _ _ _ _ _ (by omega)).trans HLY.out.pen
      have g4' : Held (u.setCells g (j * 18) (celv ⟨gn, true, f⟩ (fcA f (.slice Ax1 f.stk.length cx1) (.slice Ax2 f.loc.length cx2) (.slice Ax3 f.slt.length cx3)))) (w.heap.size + 1 + 1) 29 _ := (setCells_far _ _ _ _ _ (by omega)).trans HLY.out.res
      have g5' : Held (u.setCells g (j * 18) (celv ⟨gn, true, f⟩ (fcA f (.slice Ax1 f.stk.length cx1) (.slice Ax2 f.loc.length cx2) (.slice Ax3 f.slt.length cx3)))) (w.heap.size + 1 + 1 + 1) 33 _ := (setCells_far _ _ _ _ _ (by omega)).trans HLY.out.ref
      have HLW := Lib.hid (below_setCells HLY.out.low (show w.heap.size ≤ g by omega) (j * 18) (celv ⟨gn, true, f⟩ (fcA f (.slice Ax1 f.stk.length cx1) (.slice Ax2 f.loc.length cx2) (.slice Ax3 f.slt.length cx3))))
      have HO := Lib.hid hown
      have HSG := HSS.out
      rw [HGN.out] at HSG
      subst HSG
      have HN9 : (p.cells.set j ⟨gn, true, f⟩).length = n := by rw [List.length_set]; exact HLY.out.hn
      have HM9 : (p.free.take L).length = L := by have := HLY.out.hm; simpa using this
      clear hown hS HLY HLY9 HOF ON OC hpen hfrm
      generalize u.setCells g (j * 18) (celv ⟨gn, true, f⟩ (fcA f (.slice Ax1 f.stk.length cx1) (.slice Ax2 f.loc.length cx2) (.slice Ax3 f.slt.length cx3))) = W10 at *
      have g5b := held_row g5' (show w.heap.size + 1 + 1 + 1 ≠ w.heap.size + 1 + 1 by omega) (pc (some ⟨g, 0, none⟩) n c3 (some ⟨gf, 0, none⟩) L c4 p.most)
      go_wp2_with (first
        | (guard_target = wpList _ _ _ (Oper.mk (some 71) _ _ _ _ none :: _) _ _; refine wpList_load_row rfl 29 _ rfl w.heap.size rfl _ _ _ _ g2' Tryd.underlying29 rfl (by kernel_rfl) ?_)
        | (guard_target = wpList _ _ _ (Oper.mk _ (Op.store 29 (.tmp 4) _) _ _ _ none :: _) _ _; refine wpList_store_row rfl 29 _ _ rfl (w.heap.size + 1 + 1) (pc (some ⟨g, 0, none⟩) n c3 (some ⟨gf, 0, none⟩) L c4 p.most) rfl rfl _ _ g4' (by kernel_rfl) rfl (by simp [Value.oneCell']) ?_)
        | (guard_target = wpList _ _ _ (Oper.mk _ (Op.store 33 (.tmp 5) _) _ _ _ none :: _) _ _; refine wpList_store_row rfl 33 _ _ rfl (w.heap.size + 1 + 1 + 1) (refc j gn) rfl rfl _ _ g5b (by kernel_rfl) rfl (by simp [Value.oneCell']) ?_))
      refine bodyPost_ret (results_cct rfl _ _ rfl rfl rfl (load_pen (held_row (held_rowSelf g4' _) (show w.heap.size + 1 + 1 ≠ w.heap.size + 1 + 1 + 1 by omega) (refc j gn)) rfl) (load_ref (held_rowSelf g5b (refc j gn)) rfl)) rfl ⟨_, c3, _, c4, by simp only [HN9, HM9]; rfl, ((HO.out.pen (kt_row g4' _)).kt (kt_row g5b _) (by decide) (by decide) (by decide) (by decide)).mono (by omega), below_setRow (below_setRow HLW.out (by omega) _) (by omega) _⟩

end Go.Proofs.YtjibkgildfjjoaaDoor

