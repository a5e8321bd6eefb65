/- Layer 12's code: a pen in memory of its own. -/
import Derived.Test.YtjibkgildfjjoaaDoorzYa
import Derived.Test.YtjibkgildfjjoaaDoorzYo
namespace Go.Proofs.YtjibkgildfjjoaaDoor
set_option linter.unusedVariables false
set_option linter.unusedSimpArgs false
open Go.RowKit Go.ChangeShapes Go.WideShapes Go.ChangeAt Go.Sort

/-- The lists are copied, the frames of the first k cells too. -/
structure MidK (w : World) (B : Nat) (p : Zp) (n m : Nat) (A1 : Option Addr) (c1 : Nat) (A2 : Option Addr) (c2 : Nat) (k : Nat) (W : World) : Prop where
  pen : Held W w.heap.size 29 (pc A1 n c1 A2 m c2 p.most)
  res : Held W (w.heap.size + 1) 29 pz0
  free : OwnI W (w.heap.size + 2) (.slice A2 m c2) p.free
  cels : ∃ xs, W.ownsRow (w.heap.size + 2) 56 18 (.slice A1 n c1) n xs ∧ CelsOf (fun j v f => if j < k then OwnF W (w.heap.size + 2) v f else FrmAt W B v f) xs p.cells
  low : Below w.heap.size w W
theorem mid_k {w : World} {B : Nat} {p : Zp} {n m : Nat} {A c1 A2 c2} {A3 A4 : Option Addr} {c3 c4 : Nat} {xs : List Value} {u1 u2 : World} (hB : B ≤ w.heap.size)
    (hx : Held u2 w.heap.size 29 (pc A n c1 A2 m c2 p.most)) (hr : Held u2 (w.heap.size + 1) 29 pz0) (hb2 : Below u1.heap.size u1 u2) {B0 : Nat} (hB0 : w.heap.size + 2 ≤ B0) (hB1 : w.heap.size + 2 ≤ u1.heap.size)
    (h1 : u1.ownsRow B0 56 18 (.slice A3 n c3) n xs) (hc : CelsOf (fun _ => FrmAt u1 B) xs p.cells) (h2 : OwnI u2 u1.heap.size (.slice A4 m c4) p.free) (hb : Below w.heap.size w u2) :
    MidK w B p n m A3 c3 A4 c4 0 ((u2.setCell ⟨w.heap.size, 0, none⟩ (.slice A3 n c3)).setCell ⟨w.heap.size, 1, none⟩ (.slice A4 m c4)) := by
  have hf : ∀ k', k' ≠ w.heap.size → ((u2.setCell ⟨w.heap.size, 0, none⟩ (.slice A3 n c3)).setCell ⟨w.heap.size, 1, none⟩ (.slice A4 m c4)).heap[k']? = u2.heap[k']? := fun k' hk' =>
    (Below.heap_setCell _ ⟨w.heap.size, _, none⟩ _ k' hk').trans (Below.heap_setCell _ ⟨w.heap.size, _, none⟩ _ k' hk')
  have l1 := h1.lt
  have l2 := h2.lt
  have hs2 := hb2.size
  have hlow : Below w.heap.size w ((u2.setCell ⟨w.heap.size, 0, none⟩ (.slice A3 n c3)).setCell ⟨w.heap.size, 1, none⟩ (.slice A4 m c4)) := (hb.setCell (p := ⟨w.heap.size, 0, none⟩) (Nat.le_refl _) _).setCell (p := ⟨w.heap.size, 1, none⟩) (Nat.le_refl _) _
  refine ⟨(hx.set_at 0 _).set_at 1 _, (hf _ (by omega)).trans hr, ?_, ⟨xs, ?_, hc.mono fun j v f hF => ?_⟩, hlow⟩
  · refine row_mono (row_same h2 fun g e => ?_) (show w.heap.size + 2 ≤ u1.heap.size by omega)
    have := l2 g e
    exact hf g (by omega)
  · refine row_mono (row_same h1 fun g e => ?_) (show w.heap.size + 2 ≤ B0 by omega)
    have := l1 g e
    exact (hf g (by omega)).trans (hb2.block g (by omega))
  · rw [if_neg (by omega)]
    have k1 := hF.below hb2 (by omega)
    exact k1.below (C := w.heap.size) (((Below.refl _ _).setCell (p := ⟨w.heap.size, 0, none⟩) (Nat.le_refl _) _).setCell (p := ⟨w.heap.size, 1, none⟩) (Nat.le_refl _) _) hB

/-- What is read of a cell whose frame is not copied yet. -/
theorem MidK.cel {w : World} {B : Nat} {p : Zp} {n m : Nat} {A1 : Option Addr} {c1 : Nat} {A2 : Option Addr} {c2 k : Nat} {W : World} (h : MidK w B p n m A1 c1 A2 c2 k W) (hn : p.cells.length = n) {j : Nat} (hj : j < n) (hk : k ≤ j) :
    ∃ g, A1 = some ⟨g, 0, none⟩ ∧ w.heap.size + 2 ≤ g ∧ ∃ cs : Array Value, cs.size = 16 ∧ FrmAt W B (.agg cs) (p.cells[j]'(by omega)).frm ∧ W.rangeAt g (j * 18 + 2) cs.toList := by
  obtain ⟨xs, h1, h2⟩ := h.cels
  obtain ⟨g, c, e⟩ := r_form h1 (by omega)
  simp only [Value.slice.injEq] at e
  obtain ⟨rfl, _, _⟩ := e
  obtain ⟨cs, s1, s2, s3, s4⟩ := h2.2 j (by omega)
  rw [if_neg (by omega)] at s3
  refine ⟨g, rfl, (h1.lt g rfl).1, cs, s1, s3, fun i u hu => ?_⟩
  have hi : i < 16 := by
    have := (List.getElem?_eq_some_iff.1 hu).1
    simp only [Array.length_toList, s1] at this
    omega
  have hl := h1.1
  rw [h1.cellAt (j * 18 + 2 + i) (by omega), show j * 18 + 2 + i = j * 18 + (i + 2) by omega, s4 (i + 2) (by omega)]
  simpa using hu
/-- The next frame is copied. -/
theorem MidK.next {w : World} {B : Nat} {p : Zp} {n m g c1 : Nat} {A2 : Option Addr} {c2 k : Nat} {W u : World} (h : MidK w B p n m (some ⟨g, 0, none⟩) c1 A2 c2 k W) (hn : p.cells.length = n) (hB : B ≤ w.heap.size) (hk : k < n) {ds : Array Value} (hb : Below W.heap.size W u)
    (h1 : ds.size = 16) (h2 : ds.all (·.oneCell') = true) (ho : OwnF u W.heap.size (.agg ds) (p.cells[k]'(by omega)).frm) : MidK w B p n m (some ⟨g, 0, none⟩) c1 A2 c2 (k + 1) (u.setCells g (k * 18 + 2) ds.toList) := by
  obtain ⟨xs, r1, r2⟩ := h.cels
  have hg := (r1.lt g rfl)
  have hs := h.low.size
  have r1' := r_later r1 hb
  have hk1 := kt_setCells r1' (k * 18 + 2) ds.toList
  have hW := h.pen.lt
  have hlen : xs.length = n * 18 := r1.1
  refine ⟨?_, ?_, ?_, ⟨setL xs (k * 18 + 2) ds.toList, row_setCells _ _ r1', ?_⟩, ?_⟩
  · exact (setCells_far _ _ _ _ _ (by omega)).trans (h.pen.below hb)
  · exact (setCells_far _ _ _ _ _ (by omega)).trans (h.res.below hb)
  · exact row_kt (r_later h.free hb) hk1 tyCI
  · have e : p.cells = p.cells.set k ⟨(p.cells[k]'(by omega)).gen, (p.cells[k]'(by omega)).used, (p.cells[k]'(by omega)).frm⟩ := by
      rw [show (⟨(p.cells[k]'(by omega)).gen, (p.cells[k]'(by omega)).used, (p.cells[k]'(by omega)).frm⟩ : Cel) = p.cells[k]'(by omega) from rfl, List.set_getElem_self]
    rw [e]
    refine celsOf_frm r2 (by omega) h1 h2 ?_ fun j v f hj hF => ?_
    · rw [if_pos (by omega)]
      exact (ho.mono (by omega)).kt hk1 tyCV tyCS
    · by_cases hjk : j < k
      · rw [if_pos hjk] at hF
        rw [if_pos (by omega)]
        exact (hF.below hb).kt hk1 tyCV tyCS
      · rw [if_neg hjk] at hF
        rw [if_neg (by omega)]
        exact (hF.below hb (by omega)).below (C := w.heap.size) (below_setCells (Below.refl _ _) (by omega) _ _) hB
  · exact below_setCells (h.low.trans (hb.mono hs)) (by omega) _ _
/-- All are copied. -/
theorem MidK.done {w : World} {B : Nat} {p : Zp} {n m : Nat} {A1 : Option Addr} {c1 : Nat} {A2 : Option Addr} {c2 : Nat} {W : World} (h : MidK w B p n m A1 c1 A2 c2 n W) (hn : p.cells.length = n) (hm : p.free.length = m) (cs : Array Value) : OwnZ (W.setRow (w.heap.size + 1) cs) w.heap.size A1 c1 A2 c2 p := by
  subst hn hm
  obtain ⟨xs, r1, r2⟩ := h.cels
  have hk : KTy W (W.setRow (w.heap.size + 1) cs) 29 := fun g e ds fr hg hne => row_far0 W (w.heap.size + 1) cs g (fun e2 => by
    subst e2
    have hr := h.res
    rw [Held, hg] at hr
    simp at hr
    exact hne hr.2.1)
  refine ⟨⟨xs, row_mono (row_kt r1 hk (by decide)) (by omega), r2.1, fun j hj => ?_⟩, row_mono (row_kt h.free hk (by decide)) (by omega)⟩
  obtain ⟨ds, s1, s2, s3, s4⟩ := r2.2 j hj
  rw [if_pos hj] at s3
  exact ⟨ds, s1, s2, (s3.kt hk (by decide) (by decide)).mono (by omega), s4⟩
theorem MidK.below {w : World} {B : Nat} {p : Zp} {n m : Nat} {A1 : Option Addr} {c1 : Nat} {A2 : Option Addr} {c2 k : Nat} {W W' : World} (h : MidK w B p n m A1 c1 A2 c2 k W) (hb : Below W.heap.size W W') (hB : B ≤ w.heap.size) : MidK w B p n m A1 c1 A2 c2 k W' := by
  obtain ⟨xs, r1, r2⟩ := h.cels
  refine ⟨h.pen.below hb, h.res.below hb, r_later h.free hb, ⟨xs, r_later r1 hb, r2.mono fun j v f hF => ?_⟩, Below.step h.low hb⟩
  by_cases hj : j < k
  · rw [if_pos hj] at hF ⊢
    exact hF.below hb
  · rw [if_neg hj] at hF ⊢
    exact hF.below hb (Nat.le_trans hB h.low.size)
theorem MidK.there {w : World} {B : Nat} {p : Zp} {n m g c1 : Nat} {A2 : Option Addr} {c2 k : Nat} {W u : World} (h : MidK w B p n m (some ⟨g, 0, none⟩) c1 A2 c2 k W) (hb : Below W.heap.size W u) {j : Nat} (hj : j < n) : u.there g (j * 18 + 2) 16 := by
  obtain ⟨xs, r1, r2⟩ := h.cels
  exact row_there (r_later r1 hb) (by omega)

set_option maxHeartbeats 8000000 in
set_option maxRecDepth 100000 in
theorem clone_z {A A2 : Option Addr} {p : Zp} {B n m : Nat} (c c2 : Nat) (w : World) (hn : p.cells.length = n) (hm : p.free.length = m) (h : PAtZ w B A A2 p) (hl : LenZ p) (hB : B ≤ w.heap.size) :
    Calls Tryd.prog 54 #[pv A n c A2 m c2 p.most] w fun e w' => ∃ A' c' A2' c2', e = .returned (pv A' n c' A2' m c2' p.most) ∧ OwnZ w' w.heap.size A' c' A2' c2' p ∧ Below w.heap.size w w' := by
  have C1 := fun W (hb : Below w.heap.size w W) => Lib.hid (cloc_any c W hn (h.cells.below hb hB) (by have := hl.cells; omega) (Nat.le_trans hB hb.size))
  have C2 := fun W (hb : Below w.heap.size w W) => Lib.hid (cloi_any c2 W hm (h.free.below hb hB) (by have := hl.free; omega) (Nat.le_trans hB hb.size))
  have HL := Lib.hid hl
  have HB := Lib.hid hB
  have HN := Lib.hid hn
  have HM := Lib.hid hm
  have hnI : (n : Int) ≤ 2000 := by have := hl.cells; omega
  clear h hl hB hn hm
  go_enter Tryd.func54, Tryd.ntmps54
  go_upto_region 1 with (fail)
  have hx := (Held.new w 29 (pc A n c A2 m c2 p.most)).alloc (.cells pz0 29)
  have hr := Held.new1 w (.cells (pc A n c A2 m c2 p.most) 29) 29 pz0
  have hbw : Below w.heap.size w ((w.alloc (.cells (pc A n c A2 m c2 p.most) 29)).alloc (.cells pz0 29)) := below2 w _ _
  have hsz : ((w.alloc (.cells (pc A n c A2 m c2 p.most) 29)).alloc (.cells pz0 29)).heap.size = w.heap.size + 2 := by simp
  generalize (w.alloc (.cells (pc A n c A2 m c2 p.most) 29)).alloc (.cells pz0 29) = W0 at *
  have q0 := hx.cell 0
  have q1 := hx.cell 1
  simp at q0 q1
  go_cut [] (fun wx => ∃ A1 c1 A2 c2, MidK w B p n m A1 c1 A2 c2 0 wx)
  case first =>
    go_region_with (first
      | (go_at_call 75; (with_reducible refine (C1 _ hbw.drew).out.mono ?_); rintro _ u1 ⟨A3, c3, xs, rfl, hs, hcs, hb1⟩; have hbw1 : Below w.heap.size w u1 := Below.step hbw.drew hb1; have hx1 := (held_drew hx).below hb1; have q1 := hx1.cell 1; simp at q1)
      | (go_at_call 76; (with_reducible refine (C2 _ hbw1).out.mono ?_); rintro _ u2 ⟨A4, c4, rfl, hl, hb2⟩; have hbw2 := Below.step hbw1 hb2; have hx2 := hx1.below hb2; have q0 := hx2.cell 0; have q1 := hx2.cell 1; have z0 := hx2.fz 0; have z1 := hx2.fz 1; simp at q0 q1))
    all_goals
      go_wp2_with fail
      go_meet
      case rel => exact ⟨A3, c3, A4, c4, mid_k HB.out hx2 (((held_drew hr).below hb1).below hb2) hb2 (by simp; omega) (by have := hb1.size; simp at this; omega) hs hcs hl hbw2⟩
  case rest =>
    clear q0 q1 hx hr hbw hsz C1 C2
    obtain ⟨A1, c1, A3, c3, hk⟩ := hcut
    have q0 := hk.pen.cell 0
    simp at q0
    have HK := Lib.hid hk
    clear hk
    go_upto_region 3 with (fail)
    go_loopw [15] (fun iv W => ∃ j : Nat, iv = .int .i64 j ∧ j ≤ n ∧ MidK w B p n m A1 c1 A3 c3 j W) (fun iv _ => n - (intOf iv).toNat)
    case atStart => exact ⟨0, rfl, by omega, HK.out⟩
    case round =>
      clear q0
      obtain ⟨j, rfl, hj, hw⟩ := hrel
      have q0 := hw.pen.cell 0
      simp at q0
      by_cases hlt : j < n
      · obtain ⟨g, rfl, hg, cs, s1, s3, s4⟩ := hw.cel HN.out hlt (Nat.le_refl _)
        have hlt2 : (j : Int) < n := by omega
        have hj0 : (0 : Int) ≤ j := by omega
        have HW := Lib.hid hw
        have HJ := Lib.hid (And.intro hlt (And.intro hj hg))
        have S1 := Lib.hid s1
        have S3 := Lib.hid s3
        have hpl := hw.pen.lt
        have HPL := Lib.hid hpl
        have S4 := Lib.hid s4
        clear hw hj hg s1 s3 s4 hpl
        go_upto_region 5 with (fail)
        have hpen := HW.out.pen
        have hgl : g < wr.heap.size := by
          obtain ⟨xs, r1, _⟩ := HW.out.cels
          exact (r1.lt g rfl).2
        have hw9 := HW.out
        have HW9 := Lib.hid hw9
        have s3 := S3.out
        have s4 := S4.out
        clear HW S3 S4
        have hdr := (Below.refl wr.heap.size wr).drew
        replace hpen := Held.below hpen hdr
        replace hw9 := hw9.below hdr HB.out
        replace s4 : wr.drew.rangeAt g (j * 18 + 2) cs.toList := range_keep s4 (hdr.block g hgl)
        replace s3 := s3.below hdr (Nat.le_trans HB.out (MidK.low HW9.out).size)
        clear hdr
        refine wp_region_K 12 (fun W => Below wr.drew.heap.size wr.drew W) (by kernel_rfl) (by kernel_rfl) (fun HNS => ?_)
        generalize wr.drew = W1 at *
        replace hgl : g < W1.heap.size := by
          obtain ⟨xs, r1, _⟩ := hw9.cels
          exact (r1.lt g rfl).2
        have hS : Below W1.heap.size W1 W1 := Below.refl _ _
        show wpAnyK _ _ _ _ _ _ 13 #[false, false, false, false, false, false, false, false, false, false, false, false, false] _ _
        have HW := Lib.hid hw9
        clear hw9 HW9
        have OC := Lib.hid (own_c W1 s3 (HL.out.frm j (by rw [HN.out]; exact hlt)) (Nat.le_trans HB.out HW.out.low.size))
        refine wpAnyK_take HNS [1, 10, 11, 12] (i := 0) (v := .pointer (some ⟨w.heap.size, 0, none⟩)) rfl (by kernel_rfl) (by kernel_rfl) (by kernel_rfl) (fun _ _ _ h => h) (Or.inl ⟨by kernel_rfl, fun W hW => ?_⟩) hS ?_
        · go_simp
        simp only [Act.put, List.getElem_toArray, List.getElem_cons_succ, List.getElem_cons_zero, List.setIfInBounds_toArray, List.set_cons_zero, List.set_cons_succ]
        refine wpAnyK_take HNS [10, 11, 12] (i := 1) (v := .slice (some ⟨g, 0, none⟩) n c1) rfl (by kernel_rfl) (by kernel_rfl) (by kernel_rfl) (fun _ _ _ h => h) (Or.inl ⟨by kernel_rfl, fun W hW => ?_⟩) hS ?_
        · (have hz := Held.below hpen hW; have z0 := hz.cell 0; simp at z0; go_simp)
        simp only [Act.put, List.getElem_toArray, List.getElem_cons_succ, List.getElem_cons_zero, List.setIfInBounds_toArray, List.set_cons_zero, List.set_cons_succ]
        refine wpAnyK_take HNS [10, 11, 12] (i := 2) (v := .int .i64 j) rfl (by kernel_rfl) (by kernel_rfl) (by kernel_rfl) (fun _ _ _ h => h) (Or.inl ⟨by kernel_rfl, fun W hW => ?_⟩) hS ?_
        · go_simp
        simp only [Act.put, List.getElem_toArray, List.getElem_cons_succ, List.getElem_cons_zero, List.setIfInBounds_toArray, List.set_cons_zero, List.set_cons_succ]
        refine wpAnyK_take HNS [4, 6, 7, 8, 9, 12] (i := 3) (v := .pointer (some ⟨w.heap.size, 0, none⟩)) rfl (by kernel_rfl) (by kernel_rfl) (by kernel_rfl) (fun _ _ _ h => h) (Or.inl ⟨by kernel_rfl, fun W hW => ?_⟩) hS ?_
        · go_simp
        simp only [Act.put, List.getElem_toArray, List.getElem_cons_succ, List.getElem_cons_zero, List.setIfInBounds_toArray, List.set_cons_zero, List.set_cons_succ]
        refine wpAnyK_take HNS [6, 7, 8, 9, 12] (i := 4) (v := .slice (some ⟨g, 0, none⟩) n c1) rfl (by kernel_rfl) (by kernel_rfl) (by kernel_rfl) (fun _ _ _ h => h) (Or.inl ⟨by kernel_rfl, fun W hW => ?_⟩) hS ?_
        · (have hz := Held.below hpen hW; have z0 := hz.cell 0; simp at z0; go_simp)
        simp only [Act.put, List.getElem_toArray, List.getElem_cons_succ, List.getElem_cons_zero, List.setIfInBounds_toArray, List.set_cons_zero, List.set_cons_succ]
        refine wpAnyK_take HNS [6, 7, 8, 9, 12] (i := 5) (v := .int .i64 j) rfl (by kernel_rfl) (by kernel_rfl) (by kernel_rfl) (fun _ _ _ h => h) (Or.inl ⟨by kernel_rfl, fun W hW => ?_⟩) hS ?_
        · go_simp
        simp only [Act.put, List.getElem_toArray, List.getElem_cons_succ, List.getElem_cons_zero, List.setIfInBounds_toArray, List.set_cons_zero, List.set_cons_succ]
        refine wpAnyK_take HNS [7, 8, 9, 12] (i := 6) (v := .pointer (some ⟨g, j * 18, none⟩)) rfl (by kernel_rfl) (by kernel_rfl) (by kernel_rfl) (fun _ _ _ h => h) (Or.inl ⟨by kernel_rfl, fun W hW => ?_⟩) hS ?_
        · go_simp
        simp only [Act.put, List.getElem_toArray, List.getElem_cons_succ, List.getElem_cons_zero, List.setIfInBounds_toArray, List.set_cons_zero, List.set_cons_succ]
        refine wpAnyK_take HNS [8, 9, 12] (i := 7) (v := .pointer (some ⟨g, j * 18 + 2, none⟩)) rfl (by kernel_rfl) (by kernel_rfl) (by kernel_rfl) (fun _ _ _ h => h) (Or.inl ⟨by kernel_rfl, fun W hW => ?_⟩) hS ?_
        · go_simp
        simp only [Act.put, List.getElem_toArray, List.getElem_cons_succ, List.getElem_cons_zero, List.setIfInBounds_toArray, List.set_cons_zero, List.set_cons_succ]
        refine wpAnyK_take HNS [9, 12] (i := 8) (v := .agg cs) rfl (by kernel_rfl) (by kernel_rfl) (by kernel_rfl) (fun _ _ _ h => h) (yieldsIf_load_midA (by kernel_rfl) 54 _ rfl g (j * 18 + 2) (by rfl) cs _ (fun W hW => range_keep s4 (hW.block g hgl)) Tryd.underlying54 rfl (by rw [S1.out]; kernel_rfl)) hS ?_
        simp only [Act.put, List.getElem_toArray, List.getElem_cons_succ, List.getElem_cons_zero, List.setIfInBounds_toArray, List.set_cons_zero, List.set_cons_succ]
        refine wpAnyK_mid (i := 9) (by kernel_rfl) rfl (fun K hK => ?_)
        rw [if_pos (by kernel_rfl)]
        go_simp
        go_at_call 56
        (with_reducible refine (OC.out).mono ?_)
        rintro _ u ⟨ds, rfl, d1, d2, d3, hb⟩
        replace hS := Below.step hS hb
        (repeat (first | go_skip | go_guarded | go_step | go_upon))
        refine hK.out _ _ hS ?_
        clear hK K
        (try simp only [Act.put, List.getElem_toArray, List.getElem_cons_succ, List.getElem_cons_zero, List.setIfInBounds_toArray, List.set_cons_zero, List.set_cons_succ])
        refine wpAnyK_take HNS [11, 12] (i := 10) (v := .pointer (some ⟨g, j * 18, none⟩)) rfl (by kernel_rfl) (by kernel_rfl) (by kernel_rfl) (fun _ _ _ h => h) (Or.inl ⟨by kernel_rfl, fun W hW => ?_⟩) hS ?_
        · go_simp
        simp only [Act.put, List.getElem_toArray, List.getElem_cons_succ, List.getElem_cons_zero, List.setIfInBounds_toArray, List.set_cons_zero, List.set_cons_succ]
        refine wpAnyK_take HNS [12] (i := 11) (v := .pointer (some ⟨g, j * 18 + 2, none⟩)) rfl (by kernel_rfl) (by kernel_rfl) (by kernel_rfl) (fun _ _ _ h => h) (Or.inl ⟨by kernel_rfl, fun W hW => ?_⟩) hS ?_
        · go_simp
        simp only [Act.put, List.getElem_toArray, List.getElem_cons_succ, List.getElem_cons_zero, List.setIfInBounds_toArray, List.set_cons_zero, List.set_cons_succ]
        refine wpAnyK_last (by kernel_rfl) rfl (fun K hK => ?_)
        rw [if_pos (by kernel_rfl)]
        refine wp_store_mid 54 _ _ rfl g (j * 18 + 2) ds (by rfl) (by rfl) (by rw [d1]; exact HW.out.there hS HJ.out.1) (by rw [d1]; kernel_rfl) d2 ?_
        refine hK.out _ _ ?_
        clear hK K
        (try simp only [Act.put, List.getElem_toArray, List.getElem_cons_succ, List.getElem_cons_zero, List.setIfInBounds_toArray, List.set_cons_zero, List.set_cons_succ])
        refine wpAnyK_done (by kernel_rfl) ?_ _
        have HNX := Lib.hid (HW.out.next HN.out HB.out hlt hS d1 d2 d3)
        clear s3 s4 hpen hS d1 d2 d3 OC
        generalize World.setCells _ g _ _ = W2 at *
        go_wp2_with fail
        go_roundw
        case rel => exact ⟨j + 1, by go_num, by omega, HNX.out⟩
        case measure => simp [intOf]; omega
      · obtain rfl : j = n := by omega
        have HW := Lib.hid hw
        have g1 := hw.pen
        have g2 := hw.res
        clear hw hlt hj
        go_wp2_with (first
          | (guard_target = wpList _ _ _ (Oper.mk _ (Op.load 29 (.tmp 1)) _ _ _ none :: _) _ _; refine wpList_load_row rfl 29 _ rfl w.heap.size rfl _ _ _ _ g1 Tryd.underlying29 rfl (by kernel_rfl) ?_)
          | (guard_target = wpList _ _ _ (Oper.mk _ (Op.store 29 (.tmp 2) _) _ _ _ none :: _) _ _; refine wpList_store_row rfl 29 _ _ rfl (w.heap.size + 1) (pc A1 j c1 A3 m c3 p.most) rfl rfl _ _ g2 (by kernel_rfl) rfl (by simp [Value.oneCell']) ?_))
        refine bodyPost_ret (results_c0 rfl _ _ rfl (load_pen (held_rowSelf g2 (pc A1 j c1 A3 m c3 p.most)) rfl)) rfl ⟨A1, c1, A3, c3, rfl, HW.out.done HN.out HM.out _, below_setRow HW.out.low (Nat.le_succ _) _⟩
end Go.Proofs.YtjibkgildfjjoaaDoor

