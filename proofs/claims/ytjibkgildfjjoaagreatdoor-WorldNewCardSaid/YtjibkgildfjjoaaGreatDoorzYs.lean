/- Layer 12's code: Same. -/
import Derived.Test.YtjibkgildfjjoaaGreatDoorzYr
import Derived.Test.YtjibkgildfjjoaaGreatDoorzYf
namespace Go.Proofs.YtjibkgildfjjoaaGreatDoor
set_option linter.unusedVariables false
set_option linter.unusedSimpArgs false
open Go.RowKit Go.ChangeShapes Go.WideShapes Go.ChangeAt Go.Sort

/-- The cells of a cell that was loaded. -/
def CelV (w : World) (B : Nat) (arr : Array Value) (x : Cel) : Prop := ∃ cs : Array Value, arr = (celv x cs).toArray ∧ cs.size = 16 ∧ cs.all (·.oneCell') = true ∧ FrmAt w B (.agg cs) x.frm
theorem CelV.below {w w' : World} {B : Nat} {arr : Array Value} {x : Cel} (h : CelV w B arr x) {C : Nat} (hb : Below C w w') (hC : B ≤ C) : CelV w' B arr x := by
  obtain ⟨cs, e, h1, h2, h3⟩ := h
  exact ⟨cs, e, h1, h2, h3.below hb hC⟩
theorem CelV.size {w : World} {B : Nat} {arr : Array Value} {x : Cel} (h : CelV w B arr x) : arr.size = 18 := by
  obtain ⟨cs, rfl, h1, h2, h3⟩ := h
  simp [h1]
theorem CelV.one {w : World} {B : Nat} {arr : Array Value} {x : Cel} (h : CelV w B arr x) : arr.all (·.oneCell') = true := by
  obtain ⟨cs, rfl, h1, h2, h3⟩ := h
  have s3 := Array.all_eq_true_iff_forall_mem.1 h2
  refine Array.all_eq_true_iff_forall_mem.2 fun v hx => ?_
  simp at hx
  rcases hx with rfl | rfl | hx
  · rfl
  · rfl
  · exact s3 v (by simpa using hx)
theorem CelV.gen {w : World} {B : Nat} {arr : Array Value} {x : Cel} (h : CelV w B arr x) : arr[0]? = some (.int .i64 x.gen) := by
  obtain ⟨cs, rfl, h1, h2, h3⟩ := h
  rfl
theorem CelV.used {w : World} {B : Nat} {arr : Array Value} {x : Cel} (h : CelV w B arr x) : arr[1]? = some (.bool x.used) := by
  obtain ⟨cs, rfl, h1, h2, h3⟩ := h
  rfl
theorem CelV.frm {w : World} {B : Nat} {arr : Array Value} {x : Cel} (h : CelV w B arr x) : ∃ cs : Array Value, cs.size = 16 ∧ cs.all (·.oneCell') = true ∧ FrmAt w B (.agg cs) x.frm ∧ ∀ W g, Held W g 77 arr → W.rangeAt g 2 cs.toList := by
  obtain ⟨cs, rfl, h1, h2, h3⟩ := h
  refine ⟨cs, h1, h2, h3, fun W g hg i v hi => ?_⟩
  rw [hg.cell (2 + i), show 2 + i = i + 2 by omega]
  simpa using hi
theorem CAt.celV {w : World} {B : Nat} {A : Option Addr} {l : List Cel} (h : CAt w B A l) {j : Nat} (hj : j < l.length) : ∃ b off, A = some ⟨b, off, none⟩ ∧ ∃ arr, CelV w B arr l[j] ∧ w.rangeAt b (off + j * 18) arr.toList := by
  obtain ⟨b, off, e, -, cs, h1, h2, h3, -, -, -, h4⟩ := h.cel hj
  exact ⟨b, off, e, _, ⟨cs, rfl, h1, h2, h3⟩, h4⟩
theorem cel_eq (x y : Cel) : decide (x = y) = ((x.gen == y.gen) && (x.used == y.used) && decide (x.frm = y.frm)) := by
  obtain ⟨a, b, c⟩ := x
  obtain ⟨d, e, f⟩ := y
  rw [Bool.eq_iff_iff]
  simp only [decide_eq_true_eq, Cel.mk.injEq, Bool.and_eq_true, beq_iff_eq]
  constructor
  · rintro ⟨h1, h2, h3⟩
    exact ⟨⟨h1, h2⟩, h3⟩
  · rintro ⟨⟨h1, h2⟩, h3⟩
    exact ⟨h1, h2, h3⟩
theorem pen_eq (x y : Zp) : decide (x = y) = ((x.most == y.most) && decide (x.free = y.free) && decide (x.cells = y.cells)) := by
  obtain ⟨a, b, c⟩ := x
  obtain ⟨d, e, f⟩ := y
  rw [Bool.eq_iff_iff]
  simp only [decide_eq_true_eq, Zp.mk.injEq, Bool.and_eq_true, beq_iff_eq]
  constructor
  · rintro ⟨h1, h2, h3⟩
    exact ⟨⟨h3, h2⟩, h1⟩
  · rintro ⟨⟨h1, h2⟩, h3⟩
    exact ⟨h3, h2, h1⟩
set_option maxHeartbeats 4000000 in
set_option maxRecDepth 100000 in
theorem scel_z {B B' : Nat} {arr brr : Array Value} {x y : Cel} (w : World) (h : CelV w B arr x) (h' : CelV w B' brr y) (hl : FrmLen x.frm) (hl' : FrmLen y.frm) (hB : B ≤ w.heap.size) (hB' : B' ≤ w.heap.size) :
    Calls Tryz.prog 74 #[.agg arr, .agg brr] w fun e w' => e = .returned (.bool (decide (x = y))) ∧ Below w.heap.size w w' := by
  have hb0 := below2 w (.cells arr 77) (.cells brr 77)
  have g2 := (Held.new w 77 arr).alloc (.cells brr 77)
  have g3 := Held.new1 w (.cells arr 77) 77 brr
  have x0 := (g2.cell 0).trans h.gen
  have x1 := (g2.cell 1).trans h.used
  have y0 := (g3.cell 0).trans h'.gen
  have y1 := (g3.cell 1).trans h'.used
  obtain ⟨cs, s1, -, hf, hr⟩ := h.frm
  obtain ⟨ds, t1, -, hf', hr'⟩ := h'.frm
  have HR := Lib.hid (hr _ _ g2)
  have HR' := Lib.hid (hr' _ _ g3)
  have SF := Lib.hid (fsame_z _ (hf.below hb0 hB) (hf'.below hb0 hB') hl hl' (Nat.le_trans hB hb0.size) (Nat.le_trans hB' hb0.size))
  have S1 := Lib.hid s1
  have T1 := Lib.hid t1
  have HE := Lib.hid (cel_eq x y)
  obtain ⟨gx, ux, fx⟩ := x
  obtain ⟨gy, uy, fy⟩ := y
  generalize decide (Cel.mk gx ux fx = Cel.mk gy uy fy) = R at *
  simp only at HE SF x0 x1 y0 y1
  obtain ⟨e1, he1⟩ : ∃ e, (gx == gy) = e := ⟨_, rfl⟩
  obtain ⟨e2, he2⟩ : ∃ e, (ux == uy) = e := ⟨_, rfl⟩
  generalize decide (fx = fy) = e3 at *
  rw [he1, he2] at HE
  clear h h' hl hl' hB hB' s1 t1 hf hf' hr hr'
  cases e1
  case false =>
    go_enter Tryz.func74, Tryz.ntmps74
    go_upto_region 1 with (first
      | (guard_target = wpList _ _ _ (Oper.mk (some 2) _ _ _ _ none :: _) _ _; refine wpList_box_arr rfl 77 _ rfl arr rfl ?_)
      | (guard_target = wpList _ _ _ (Oper.mk (some 3) _ _ _ _ none :: _) _ _; refine wpList_box_arr rfl 77 _ rfl brr rfl ?_))
    generalize (w.alloc (.cells arr 77)).alloc (.cells brr 77) = W0 at *
    go_wp2_with fail
    go_ret
    rw [HE.out]
    exact ⟨rfl, hb0⟩
  case true =>
    cases ux <;> cases uy <;> simp at he2 <;> subst he2
    case false.true | true.false =>
      go_enter Tryz.func74, Tryz.ntmps74
      go_upto_region 1 with (first
        | (guard_target = wpList _ _ _ (Oper.mk (some 2) _ _ _ _ none :: _) _ _; refine wpList_box_arr rfl 77 _ rfl arr rfl ?_)
        | (guard_target = wpList _ _ _ (Oper.mk (some 3) _ _ _ _ none :: _) _ _; refine wpList_box_arr rfl 77 _ rfl brr rfl ?_))
      generalize (w.alloc (.cells arr 77)).alloc (.cells brr 77) = W0 at *
      go_wp2_with fail
      go_ret
      rw [HE.out]
      exact ⟨rfl, hb0⟩
    all_goals
      go_enter Tryz.func74, Tryz.ntmps74
      go_upto_region 1 with (first
        | (guard_target = wpList _ _ _ (Oper.mk (some 2) _ _ _ _ none :: _) _ _; refine wpList_box_arr rfl 77 _ rfl arr rfl ?_)
        | (guard_target = wpList _ _ _ (Oper.mk (some 3) _ _ _ _ none :: _) _ _; refine wpList_box_arr rfl 77 _ rfl brr rfl ?_))
      generalize (w.alloc (.cells arr 77)).alloc (.cells brr 77) = W0 at *
      go_wp2_with (first
        | (guard_target = wpList _ _ _ (Oper.mk (some 19) _ _ _ _ _ :: _) _ _; refine wpList_done rfl ?_; refine wpList_load_midA rfl 60 _ rfl w.heap.size 2 rfl cs _ HR.out Tryz.underlying60 rfl (by rw [S1.out]; kernel_rfl) ?_)
        | (guard_target = wpList _ _ _ (Oper.mk (some 21) _ _ _ _ _ :: _) _ _; refine wpList_done rfl ?_; refine wpList_load_midA rfl 60 _ rfl (w.heap.size + 1) 2 rfl ds _ HR'.out Tryz.underlying60 rfl (by rw [T1.out]; kernel_rfl) ?_)
        | (go_at_call 75; (with_reducible refine SF.out.mono ?_); rintro _ u9 ⟨rfl, hb9⟩))
      go_ret
      rw [HE.out]
      exact ⟨ret_bool (by simp), Below.step hb0 hb9⟩
/-- The function that compares two cells. -/
abbrev sameFn : Value := .func (.func 74) #[] #[]
set_option maxHeartbeats 4000000 in
set_option maxRecDepth 100000 in
theorem eqf_z {A A2 : Option Addr} {l k : List Cel} {B B' n m : Nat} (c c2 : Nat) (w : World) (hn : l.length = n) (hm : k.length = m) (h : CAt w B A l) (h' : CAt w B' A2 k) (hl : n ≤ 100000) (hk : m ≤ 100000) (hfl : ∀ i (h : i < l.length), FrmLen l[i].frm) (hfk : ∀ i (h : i < k.length), FrmLen k[i].frm) (hB : B ≤ w.heap.size) (hB' : B' ≤ w.heap.size) :
    Calls Tryz.prog 77 #[.slice A n c, .slice A2 m c2, sameFn] w fun e w' => e = .returned (.bool (decide (l = k))) ∧ Below w.heap.size w w' := by
  by_cases hlen : n = m
  · have hl2 : (n : Int) ≤ 100000 := by omega
    subst hlen
    have HN := Lib.hid hn
    have HM := Lib.hid hm
    have HH := Lib.hid (And.intro h (And.intro h' (And.intro hB hB')))
    have HF := Lib.hid hfl
    have HF' := Lib.hid hfk
    obtain ⟨R, hR⟩ : ∃ R : Bool, decide (l = k) = R := ⟨_, rfl⟩
    rw [hR]
    have HR := Lib.hid hR
    clear h h' hB hB' hn hm hfl hfk hR
    go_enter Tryz.func77, Tryz.ntmps77
    go_upto_region 4 with (fail)
    go_loopw [17] (fun iv W => ∃ j : Nat, iv = .int .i64 j ∧ j ≤ n ∧ l.take j = k.take j ∧ Below w.heap.size w W) (fun iv _ => n - (intOf iv).toNat)
    case atStart => exact ⟨0, rfl, by omega, by simp, Below.refl _ _⟩
    case round =>
      obtain ⟨j, rfl, hj, htk, hw⟩ := hrel
      have HTK := Lib.hid htk
      have HW := Lib.hid hw
      clear htk
      by_cases hlt : j < n
      · have hjl : j < l.length := by rw [HN.out]; exact hlt
        have hjk : j < k.length := by rw [HM.out]; exact hlt
        obtain ⟨hA, hA2, hB, hB'⟩ := HH.out
        obtain ⟨b1, off1, rfl, arr, a1, r1⟩ := (hA.below hw hB).celV hjl
        obtain ⟨b2, off2, rfl, brr, a2, r2⟩ := (hA2.below hw hB').celV hjk
        have T1 := Lib.hid (List.take_succ_eq_append_getElem hjl)
        have T2 := Lib.hid (List.take_succ_eq_append_getElem hjk)
        have NE9 : Hid (l[j] ≠ k[j] → R = false) := Lib.hid fun hne => HR.out.symm.trans (decide_eq_false fun e => hne (by subst e; rfl))
        have hlt2 : (j : Int) < n := by omega
        have hj0 : (0 : Int) ≤ j := by omega
        have F1 := HF.out j hjl
        have F2 := HF'.out j hjk
        generalize l[j] = x at *
        generalize k[j] = y at *
        have hz := Held.new wr 77 cz0
        have R1 := Lib.hid r1
        have sz1 := Lib.hid a1.size
        have sz2 := Lib.hid a2.size
        have on1 := Lib.hid a1.one
        have on2 := Lib.hid a2.one
        have FF := Lib.hid (And.intro F1 (And.intro F2 (And.intro hB hB')))
        have R2 := Lib.hid r2
        clear hA hA2 hw r1 r2 F1 F2 hB hB'
        go_upto_region 6 with (first
          | (guard_target = wpList _ _ _ (Oper.mk (some 21) _ _ _ _ none :: _) _ _; refine wpList_load_midA rfl 77 _ rfl b1 (off1 + j * 18) rfl arr _ R1.out Tryz.underlying77 rfl (by rw [sz1.out]; kernel_rfl) ?_)
          | (guard_target = wpList _ _ _ (Oper.mk (some 8) (Op.alloc 77) _ _ _ none :: _) _ _; refine wpList_plain rfl fun K hK => wp_alloc_R 77 rfl cz0 (by kernel_rfl) (hK _ _ ?_))
          | (guard_target = wpList _ _ _ (Oper.mk _ (Op.store 77 (.tmp 8) _) _ _ _ none :: _) _ _; refine wpList_store_row rfl 77 _ _ rfl wr.heap.size arr rfl rfl _ _ hz (by rw [sz1.out]; kernel_rfl) (by rw [sz1.out]; rfl) on1.out ?_))
        have hb5 : Below wr.heap.size wr ((wr.alloc (.cells cz0 77)).setRow wr.heap.size arr) := below_setRow ((Below.refl _ _).alloc (Nat.le_refl _) _) (Nat.le_refl _) _
        have h8 : Held ((wr.alloc (.cells cz0 77)).setRow wr.heap.size arr) wr.heap.size 77 arr := held_rowSelf hz arr
        have hlt5 : wr.heap.size < ((wr.alloc (.cells cz0 77)).setRow wr.heap.size arr).heap.size := h8.lt
        have a1' := a1.below hb5 (Nat.le_trans FF.out.2.2.1 HW.out.size)
        have a2' := a2.below hb5 (Nat.le_trans FF.out.2.2.2 HW.out.size)
        have R2' : Hid (((wr.alloc (.cells cz0 77)).setRow wr.heap.size arr).rangeAt b2 (off2 + j * 18) brr.toList) := Lib.hid (range_keep R2.out (hb5.block b2 (by
          have hz9 := R2.out 0 (brr[0]'(by rw [sz2.out]; omega)) (by simp [sz2.out])
          have := block_lt_of_cell hz9
          exact this)))
        have hw5 := Below.step HW.out hb5
        clear hz hb5 a1 a2 R2 R1
        generalize (wr.alloc (.cells cz0 77)).setRow wr.heap.size arr = W5 at *
        generalize wr.heap.size = g8 at *
        have hz := Held.new W5 77 cz0
        go_upto_region 7 with (first
          | (guard_target = wpList _ _ _ (Oper.mk (some 25) _ _ _ _ none :: _) _ _; refine wpList_load_midA rfl 77 _ rfl b2 (off2 + j * 18) rfl brr _ R2'.out Tryz.underlying77 rfl (by rw [sz2.out]; kernel_rfl) ?_)
          | (guard_target = wpList _ _ _ (Oper.mk (some 9) (Op.alloc 77) _ _ _ none :: _) _ _; refine wpList_plain rfl fun K hK => wp_alloc_R 77 rfl cz0 (by kernel_rfl) (hK _ _ ?_))
          | (guard_target = wpList _ _ _ (Oper.mk _ (Op.store 77 (.tmp 9) _) _ _ _ none :: _) _ _; refine wpList_store_row rfl 77 _ _ rfl W5.heap.size brr rfl rfl _ _ hz (by rw [sz2.out]; kernel_rfl) (by rw [sz2.out]; rfl) on2.out ?_))
        have hb6 : Below W5.heap.size W5 ((W5.alloc (.cells cz0 77)).setRow W5.heap.size brr) := below_setRow ((Below.refl _ _).alloc (Nat.le_refl _) _) (Nat.le_refl _) _
        have h9 : Held ((W5.alloc (.cells cz0 77)).setRow W5.heap.size brr) W5.heap.size 77 brr := held_rowSelf hz brr
        have h8' := Held.below h8 hb6
        have a1 := a1'.below hb6 (Nat.le_trans FF.out.2.2.1 hw5.size)
        have a2 := a2'.below hb6 (Nat.le_trans FF.out.2.2.2 hw5.size)
        have hw6 := Below.step hw5 hb6
        clear hz hb6 a1' a2' h8 hw5 R2'
        generalize (W5.alloc (.cells cz0 77)).setRow W5.heap.size brr = W6 at *
        generalize W5.heap.size = g9 at *
        have SC := Lib.hid (scel_z W6 a1 a2 FF.out.1 FF.out.2.1 (Nat.le_trans FF.out.2.2.1 hw6.size) (Nat.le_trans FF.out.2.2.2 hw6.size))
        by_cases hxy : x = y
        · rw [decide_eq_true hxy] at SC
          have HXY := Lib.hid hxy
          clear hxy a1 a2
          go_wp2_with (first
            | (guard_target = wpList _ _ _ (Oper.mk (some 27) _ _ _ _ none :: _) _ _; refine wpList_load_row rfl 77 _ rfl g8 rfl _ _ _ _ h8' Tryz.underlying77 rfl (by rw [sz1.out]; kernel_rfl) ?_)
            | (guard_target = wpList _ _ _ (Oper.mk (some 28) _ _ _ _ none :: _) _ _; refine wpList_load_row rfl 77 _ rfl g9 rfl _ _ _ _ h9 Tryz.underlying77 rfl (by rw [sz2.out]; kernel_rfl) ?_)
            | (go_at_call 74; (with_reducible refine SC.out.mono ?_); rintro _ u9 ⟨rfl, hb9⟩))
          go_roundw
          case rel => exact ⟨j + 1, by go_num, by omega, by rw [T1.out, T2.out, HTK.out, HXY.out], Below.step hw6 hb9⟩
          case measure => simp [intOf]; omega
        · rw [decide_eq_false hxy] at SC
          obtain rfl : R = false := NE9.out hxy
          clear hxy a1 a2
          go_wp2_with (first
            | (guard_target = wpList _ _ _ (Oper.mk (some 27) _ _ _ _ none :: _) _ _; refine wpList_load_row rfl 77 _ rfl g8 rfl _ _ _ _ h8' Tryz.underlying77 rfl (by rw [sz1.out]; kernel_rfl) ?_)
            | (guard_target = wpList _ _ _ (Oper.mk (some 28) _ _ _ _ none :: _) _ _; refine wpList_load_row rfl 77 _ rfl g9 rfl _ _ _ _ h9 Tryz.underlying77 rfl (by rw [sz2.out]; kernel_rfl) ?_)
            | (go_at_call 74; (with_reducible refine SC.out.mono ?_); rintro _ u9 ⟨rfl, hb9⟩))
          go_ret
          exact ⟨rfl, Below.step hw6 hb9⟩
      · obtain rfl : j = n := by omega
        obtain rfl : R = true := HR.out.symm.trans (decide_eq_true (by
          have := HTK.out
          rwa [List.take_of_length_le (by rw [HN.out]; exact Nat.le_refl _), List.take_of_length_le (by rw [HM.out]; exact Nat.le_refl _)] at this))
        clear hw hlt
        go_wp2_with fail
        go_ret
        exact ⟨rfl, HW.out⟩
  · have ne : ((n : Int) != (m : Int)) = true := by simpa using fun e : (n : Int) = m => hlen (by omega)
    have hno : decide (l = k) = false := decide_eq_false fun e => hlen (by rw [← hn, ← hm, e])
    rw [hno]
    clear hno hlen h h' hfl hfk
    go_enter Tryz.func77, Tryz.ntmps77
    go_wp2_with fail
    go_ret
    exact ⟨rfl, Below.refl _ _⟩
set_option maxHeartbeats 4000000 in
set_option maxRecDepth 100000 in
theorem same_z {A A2 A3 A4 : Option Addr} {p q : Zp} {B B' n m n' m' : Nat} (c c2 c3 c4 : Nat) (w : World) (hn : p.cells.length = n) (hm : p.free.length = m) (hn' : q.cells.length = n') (hm' : q.free.length = m') (h : PAtZ w B A A2 p) (h' : PAtZ w B' A3 A4 q) (hl : LenZ p) (hl' : LenZ q) (hB : B ≤ w.heap.size) (hB' : B' ≤ w.heap.size) :
    Calls Tryz.prog 43 #[pv A n c A2 m c2 p.most, pv A3 n' c3 A4 m' c4 q.most] w fun e w' => e = .returned (.bool (decide (p = q))) ∧ Below w.heap.size w w' := by
  have hb0 := below2 w (.cells (pc A n c A2 m c2 p.most) 32) (.cells (pc A3 n' c3 A4 m' c4 q.most) 32)
  have g2 := (Held.new w 32 (pc A n c A2 m c2 p.most)).alloc (.cells (pc A3 n' c3 A4 m' c4 q.most) 32)
  have g3 := Held.new1 w (.cells (pc A n c A2 m c2 p.most) 32) 32 (pc A3 n' c3 A4 m' c4 q.most)
  have hp := h.below hb0 hB
  have hq := h'.below hb0 hB'
  have hbs := Nat.le_trans hB hb0.size
  have hbs' := Nat.le_trans hB' hb0.size
  have SI := Lib.hid (sints_z c2 c4 _ hm hm' hp.free hq.free (by have := hl.free; omega) (by have := hl'.free; omega))
  have SC := fun W (hb : Below _ _ W) => Lib.hid (eqf_z c c3 W hn hn' (hp.cells.below hb hbs) (hq.cells.below hb hbs') (by have := hl.cells; omega) (by have := hl'.cells; omega) hl.frm hl'.frm (Nat.le_trans hbs hb.size) (Nat.le_trans hbs' hb.size))
  have HE := Lib.hid (pen_eq p q)
  obtain ⟨pcs, pfr, pm⟩ := p
  obtain ⟨qcs, qfr, qm⟩ := q
  generalize decide (Zp.mk pcs pfr pm = Zp.mk qcs qfr qm) = R at *
  simp only at HE SI SC g2 g3 hb0 ⊢
  obtain ⟨e1, he1⟩ : ∃ e, (pm == qm) = e := ⟨_, rfl⟩
  generalize decide (pfr = qfr) = e2 at *
  generalize decide (pcs = qcs) = e3 at *
  rw [he1] at HE
  clear h h' hl hl' hB hB' hp hq hbs hbs' hn hm hn' hm'
  cases e1
  case false =>
    go_enter Tryz.func43, Tryz.ntmps43
    go_upto_region 1 with (fail)
    generalize (w.alloc (.cells (pc A n c A2 m c2 pm) 32)).alloc (.cells (pc A3 n' c3 A4 m' c4 qm) 32) = W0 at *
    have x2 := g2.cell 2
    have y2 := g3.cell 2
    simp at x2 y2
    go_wp2_with fail
    go_ret
    rw [HE.out]
    exact ⟨rfl, hb0⟩
  case true =>
    cases e2
    all_goals
      go_enter Tryz.func43, Tryz.ntmps43
      go_upto_region 1 with (fail)
      generalize (w.alloc (.cells (pc A n c A2 m c2 pm) 32)).alloc (.cells (pc A3 n' c3 A4 m' c4 qm) 32) = W0 at *
      have x2 := g2.cell 2
      have y2 := g3.cell 2
      have x1 := g2.cell 1
      have y1 := g3.cell 1
      simp at x2 y2 x1 y1
      go_wp2_with (first
        | (go_at_call 76; (with_reducible refine SI.out.mono ?_); rintro _ u8 ⟨rfl, hb8⟩; have x0 := (Held.below g2 hb8).cell 0; have y0 := (Held.below g3 hb8).cell 0; simp at x0 y0)
        | (go_at_call 77; (with_reducible refine (SC _ hb8).out.mono ?_); rintro _ u9 ⟨rfl, hb9⟩))
      go_ret
      rw [HE.out]
      first
        | exact ⟨ret_bool (by simp), Below.step (Below.step hb0 hb8) hb9⟩
        | exact ⟨ret_bool (by simp), Below.step hb0 hb8⟩
end Go.Proofs.YtjibkgildfjjoaaGreatDoor

