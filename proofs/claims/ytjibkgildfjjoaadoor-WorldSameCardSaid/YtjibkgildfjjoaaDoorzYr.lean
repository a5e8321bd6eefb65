/- Layer 12: Refs. -/
import Derived.Test.YtjibkgildfjjoaaDoorzYj
import Derived.Test.YtjibkgildfjjoaaDoorzPr1
import Derived.Test.YtjibkgildfjjoaaDoorzRw
import Derived.Deep.RegionHeld3
import Derived.Deep.DeepCutAuto
import Derived.Deep.CutBlock
import Derived.BigQuiet
import Derived.WalkLawsBesides
import Derived.Test.YtjibkgildfjjoaaDoorzYg
import Derived.Test.YtjibkgildfjjoaaDoorzYf
import Derived.Test.YtjibkgildfjjoaaDoorzYo
import Derived.Test.YtjibkgildfjjoaaDoorzPw
import Derived.Test.YtjibkgildfjjoaaDoorzFrp
import Derived.Test.YtjibkgildfjjoaaDoorzOww
import Derived.Test.YtjibkgildfjjoaaDoorzYn
namespace Go.Proofs.YtjibkgildfjjoaaDoor
set_option linter.unusedVariables false
set_option linter.unusedSimpArgs false
open Go.RowKit Go.ChangeShapes Go.WideShapes Go.ChangeAt Go.Sort

abbrev cz0 : Array Value := #[.int .i64 0, .bool false, .int .i64 0, .int .i64 0, .slice none 0 0, .slice none 0 0, .slice none 0 0, .int .i64 0, .int .i64 0, .int .i64 0, .int .i64 0, .int .i64 0, .int .i64 0, .int .i64 0, .int .i64 0, .int .i64 0, .int .i64 0, .int .i64 0]
theorem below_grow {w w' : World} {row : Option Nat} {C : Nat} (hg : w.grownBy w' row) (h : ∀ q, row = some q → C ≤ q) (hC : C ≤ w.heap.size) : Below C w w' :=
  ⟨hg.os, hg.tape, hg.output, hg.size, fun k hk => hg.block k (by omega) fun e => absurd (h k e.symm) (by omega)⟩
end Go.Proofs.YtjibkgildfjjoaaDoor

/- Layer 13: the document's Fresh. -/
namespace Go.Proofs.YtjibkgildfjjoaaDoor
set_option linter.unusedVariables false
set_option linter.unusedSimpArgs false
open Go.RowKit Go.ChangeShapes Go.WideShapes Go.ChangeAt Go.Sort

set_option maxRecDepth 100000 in
theorem none_z (w : World) : Calls Tryd.prog 10 #[] w fun e w' => e = .returned (gv (-1) 0) ∧ Below w.heap.size w w' := by
  have hn := Held.new w 33 #[.int .i64 0, .int .i64 0]
  have hb : Below w.heap.size w (w.alloc (.cells #[.int .i64 0, .int .i64 0] 33)) := (Below.refl _ _).alloc (Nat.le_refl _) _
  go_enter Tryd.func10, Tryd.ntmps10
  go_wp2_with (guard_target = wpList _ _ _ (Oper.mk _ (Op.store 33 (.tmp 0) _) _ _ _ none :: _) _ _; refine wpList_store_row rfl 33 _ _ rfl w.heap.size #[.int .i64 (-1), .int .i64 0] rfl rfl _ _ hn (by kernel_rfl) rfl (by simp [Value.oneCell']) ?_)
  exact bodyPost_ret (results_c0 rfl _ _ rfl (load_ref (held_rowSelf hn #[.int .i64 (-1), .int .i64 0]) rfl)) rfl ⟨rfl, below_setRow hb (Nat.le_refl _) _⟩
theorem rng_held {w : World} {b : Nat} {t : TypeId} {cs : Array Value} (h : Held w b t cs) : w.rangeAt b 0 cs.toList := fun j v hj => by
  rw [Nat.zero_add]
  exact (h.cell j).trans (by simpa using hj)
abbrev lmc (lf lm lr : Int) : Array Value := #[.int .i64 lf, .int .i64 lm, .int .i64 lr]
/-- What Fresh tells. -/
def FreshQ (w : World) (R : List Rng × List V) (e : Ending) (w' : World) : Prop := ∃ A c A2 c2, e = .returned (.tuple #[.slice A R.1.length c, .slice A2 R.2.length c2]) ∧ OwnGx (Value.ownBlock (.slice A2 R.2.length c2)) w' w.heap.size (.slice A R.1.length c) R.1 ∧ OwnR w' w.heap.size (.slice A2 R.2.length c2) R.2 ∧ Below w.heap.size w w'
end Go.Proofs.YtjibkgildfjjoaaDoor

/- Layer 13: the document's Ready. -/
namespace Go.Proofs.YtjibkgildfjjoaaDoor
set_option linter.unusedVariables false
set_option linter.unusedSimpArgs false
open Go.RowKit Go.ChangeShapes Go.WideShapes Go.ChangeAt Go.Sort

theorem pat_cell {w : World} {B : Nat} {A : Option Addr} {l : List P2} (h : PAt w B A l) {j : Nat} (hj : j < l.length) : ∃ b off, A = some ⟨b, off, none⟩ ∧ b < B ∧ w.cell? ⟨b, off + j * 2, none⟩ = some (.int .i64 l[j].1) ∧ w.cell? ⟨b, off + j * 2 + 1, none⟩ = some (.int .i64 l[j].2) := by
  obtain ⟨b, off, e, hb, hc⟩ := h (by omega)
  exact ⟨b, off, e, hb, (hc j hj).1, (hc j hj).2⟩
end Go.Proofs.YtjibkgildfjjoaaDoor

/- Layer 12's code: Same. -/
namespace Go.Proofs.YtjibkgildfjjoaaDoor
set_option linter.unusedVariables false
set_option linter.unusedSimpArgs false
open Go.RowKit Go.ChangeShapes Go.WideShapes Go.ChangeAt Go.Sort

/-- The cells of a cell that was loaded. -/
def CelV (w : World) (B : Nat) (arr : Array Value) (x : Cel) : Prop := ∃ cs : Array Value, arr = (celv x cs).toArray ∧ cs.size = 16 ∧ cs.all (·.oneCell') = true ∧ FrmAt w B (.agg cs) x.frm
theorem CelV.below {w w' : World} {B : Nat} {arr : Array Value} {x : Cel} (h : CelV w B arr x) {C : Nat} (hb : Below C w w') (hC : B ≤ C) : CelV w' B arr x := by
  obtain ⟨cs, e, h1, h2, h3⟩ := h
  exact ⟨cs, e, h1, h2, h3.below hb hC⟩
theorem CelV.size {w : World} {B : Nat} {arr : Array Value} {x : Cel} (h : CelV w B arr x) : arr.size = 18 := by
  obtain ⟨cs, rfl, h1, h2, h3⟩ := h
  simp [h1]
theorem CelV.one {w : World} {B : Nat} {arr : Array Value} {x : Cel} (h : CelV w B arr x) : arr.all (·.oneCell') = true := by
  obtain ⟨cs, rfl, h1, h2, h3⟩ := h
  have s3 := Array.all_eq_true_iff_forall_mem.1 h2
  refine Array.all_eq_true_iff_forall_mem.2 fun v hx => ?_
  simp at hx
  rcases hx with rfl | rfl | hx
  · rfl
  · rfl
  · exact s3 v (by simpa using hx)
theorem CelV.gen {w : World} {B : Nat} {arr : Array Value} {x : Cel} (h : CelV w B arr x) : arr[0]? = some (.int .i64 x.gen) := by
  obtain ⟨cs, rfl, h1, h2, h3⟩ := h
  rfl
theorem CelV.used {w : World} {B : Nat} {arr : Array Value} {x : Cel} (h : CelV w B arr x) : arr[1]? = some (.bool x.used) := by
  obtain ⟨cs, rfl, h1, h2, h3⟩ := h
  rfl
theorem CelV.frm {w : World} {B : Nat} {arr : Array Value} {x : Cel} (h : CelV w B arr x) : ∃ cs : Array Value, cs.size = 16 ∧ cs.all (·.oneCell') = true ∧ FrmAt w B (.agg cs) x.frm ∧ ∀ W g, Held W g 56 arr → W.rangeAt g 2 cs.toList := by
  obtain ⟨cs, rfl, h1, h2, h3⟩ := h
  refine ⟨cs, h1, h2, h3, fun W g hg i v hi => ?_⟩
  rw [hg.cell (2 + i), show 2 + i = i + 2 by omega]
  simpa using hi
theorem CAt.celV {w : World} {B : Nat} {A : Option Addr} {l : List Cel} (h : CAt w B A l) {j : Nat} (hj : j < l.length) : ∃ b off, A = some ⟨b, off, none⟩ ∧ ∃ arr, CelV w B arr l[j] ∧ w.rangeAt b (off + j * 18) arr.toList := by
  obtain ⟨b, off, e, -, cs, h1, h2, h3, -, -, -, h4⟩ := h.cel hj
  exact ⟨b, off, e, _, ⟨cs, rfl, h1, h2, h3⟩, h4⟩
theorem cel_eq (x y : Cel) : decide (x = y) = ((x.gen == y.gen) && (x.used == y.used) && decide (x.frm = y.frm)) := by
  obtain ⟨a, b, c⟩ := x
  obtain ⟨d, e, f⟩ := y
  rw [Bool.eq_iff_iff]
  simp only [decide_eq_true_eq, Cel.mk.injEq, Bool.and_eq_true, beq_iff_eq]
  constructor
  · rintro ⟨h1, h2, h3⟩
    exact ⟨⟨h1, h2⟩, h3⟩
  · rintro ⟨⟨h1, h2⟩, h3⟩
    exact ⟨h1, h2, h3⟩
theorem pen_eq (x y : Zp) : decide (x = y) = ((x.most == y.most) && decide (x.free = y.free) && decide (x.cells = y.cells)) := by
  obtain ⟨a, b, c⟩ := x
  obtain ⟨d, e, f⟩ := y
  rw [Bool.eq_iff_iff]
  simp only [decide_eq_true_eq, Zp.mk.injEq, Bool.and_eq_true, beq_iff_eq]
  constructor
  · rintro ⟨h1, h2, h3⟩
    exact ⟨⟨h3, h2⟩, h1⟩
  · rintro ⟨⟨h1, h2⟩, h3⟩
    exact ⟨h3, h2, h1⟩
set_option maxHeartbeats 4000000 in
set_option maxRecDepth 100000 in
theorem scel_z {B B' : Nat} {arr brr : Array Value} {x y : Cel} (w : World) (h : CelV w B arr x) (h' : CelV w B' brr y) (hl : FrmLen x.frm) (hl' : FrmLen y.frm) (hB : B ≤ w.heap.size) (hB' : B' ≤ w.heap.size) :
    Calls Tryd.prog 40 #[.agg arr, .agg brr] w fun e w' => e = .returned (.bool (decide (x = y))) ∧ Below w.heap.size w w' := by
  have hb0 := below2 w (.cells arr 56) (.cells brr 56)
  have g2 := (Held.new w 56 arr).alloc (.cells brr 56)
  have g3 := Held.new1 w (.cells arr 56) 56 brr
  have x0 := (g2.cell 0).trans h.gen
  have x1 := (g2.cell 1).trans h.used
  have y0 := (g3.cell 0).trans h'.gen
  have y1 := (g3.cell 1).trans h'.used
  obtain ⟨cs, s1, -, hf, hr⟩ := h.frm
  obtain ⟨ds, t1, -, hf', hr'⟩ := h'.frm
  have HR := Lib.hid (hr _ _ g2)
  have HR' := Lib.hid (hr' _ _ g3)
  have SF := Lib.hid (fsame_z _ (hf.below hb0 hB) (hf'.below hb0 hB') hl hl' (Nat.le_trans hB hb0.size) (Nat.le_trans hB' hb0.size))
  have S1 := Lib.hid s1
  have T1 := Lib.hid t1
  have HE := Lib.hid (cel_eq x y)
  obtain ⟨gx, ux, fx⟩ := x
  obtain ⟨gy, uy, fy⟩ := y
  generalize decide (Cel.mk gx ux fx = Cel.mk gy uy fy) = R at *
  simp only at HE SF x0 x1 y0 y1
  obtain ⟨e1, he1⟩ : ∃ e, (gx == gy) = e := ⟨_, rfl⟩
  obtain ⟨e2, he2⟩ : ∃ e, (ux == uy) = e := ⟨_, rfl⟩
  generalize decide (fx = fy) = e3 at *
  rw [he1, he2] at HE
  clear h h' hl hl' hB hB' s1 t1 hf hf' hr hr'
  cases e1
  case false =>
    go_enter Tryd.func40, Tryd.ntmps40
    go_upto_region 1 with (first
      | (guard_target = wpList _ _ _ (Oper.mk (some 2) _ _ _ _ none :: _) _ _; refine wpList_box_arr rfl 56 _ rfl arr rfl ?_)
      | (guard_target = wpList _ _ _ (Oper.mk (some 3) _ _ _ _ none :: _) _ _; refine wpList_box_arr rfl 56 _ rfl brr rfl ?_))
    generalize (w.alloc (.cells arr 56)).alloc (.cells brr 56) = W0 at *
    go_wp2_with fail
    go_ret
    rw [HE.out]
    exact ⟨rfl, hb0⟩
  case true =>
    cases ux <;> cases uy <;> simp at he2 <;> subst he2
    case false.true | true.false =>
      go_enter Tryd.func40, Tryd.ntmps40
      go_upto_region 1 with (first
        | (guard_target = wpList _ _ _ (Oper.mk (some 2) _ _ _ _ none :: _) _ _; refine wpList_box_arr rfl 56 _ rfl arr rfl ?_)
        | (guard_target = wpList _ _ _ (Oper.mk (some 3) _ _ _ _ none :: _) _ _; refine wpList_box_arr rfl 56 _ rfl brr rfl ?_))
      generalize (w.alloc (.cells arr 56)).alloc (.cells brr 56) = W0 at *
      go_wp2_with fail
      go_ret
      rw [HE.out]
      exact ⟨rfl, hb0⟩
    all_goals
      go_enter Tryd.func40, Tryd.ntmps40
      go_upto_region 1 with (first
        | (guard_target = wpList _ _ _ (Oper.mk (some 2) _ _ _ _ none :: _) _ _; refine wpList_box_arr rfl 56 _ rfl arr rfl ?_)
        | (guard_target = wpList _ _ _ (Oper.mk (some 3) _ _ _ _ none :: _) _ _; refine wpList_box_arr rfl 56 _ rfl brr rfl ?_))
      generalize (w.alloc (.cells arr 56)).alloc (.cells brr 56) = W0 at *
      go_wp2_with (first
        | (guard_target = wpList _ _ _ (Oper.mk (some 19) _ _ _ _ _ :: _) _ _; refine wpList_done rfl ?_; refine wpList_load_midA rfl 54 _ rfl w.heap.size 2 rfl cs _ HR.out Tryd.underlying54 rfl (by rw [S1.out]; kernel_rfl) ?_)
        | (guard_target = wpList _ _ _ (Oper.mk (some 21) _ _ _ _ _ :: _) _ _; refine wpList_done rfl ?_; refine wpList_load_midA rfl 54 _ rfl (w.heap.size + 1) 2 rfl ds _ HR'.out Tryd.underlying54 rfl (by rw [T1.out]; kernel_rfl) ?_)
        | (go_at_call 41; (with_reducible refine SF.out.mono ?_); rintro _ u9 ⟨rfl, hb9⟩))
      go_ret
      rw [HE.out]
      exact ⟨ret_bool (by simp), Below.step hb0 hb9⟩
/-- The function that compares two cells. -/
abbrev sameFn : Value := .func (.func 40) #[] #[]
set_option maxHeartbeats 4000000 in
set_option maxRecDepth 100000 in
theorem eqf_z {A A2 : Option Addr} {l k : List Cel} {B B' n m : Nat} (c c2 : Nat) (w : World) (hn : l.length = n) (hm : k.length = m) (h : CAt w B A l) (h' : CAt w B' A2 k) (hl : n ≤ 100000) (hk : m ≤ 100000) (hfl : ∀ i (h : i < l.length), FrmLen l[i].frm) (hfk : ∀ i (h : i < k.length), FrmLen k[i].frm) (hB : B ≤ w.heap.size) (hB' : B' ≤ w.heap.size) :
    Calls Tryd.prog 43 #[.slice A n c, .slice A2 m c2, sameFn] w fun e w' => e = .returned (.bool (decide (l = k))) ∧ Below w.heap.size w w' := by
  by_cases hlen : n = m
  · have hl2 : (n : Int) ≤ 100000 := by omega
    subst hlen
    have HN := Lib.hid hn
    have HM := Lib.hid hm
    have HH := Lib.hid (And.intro h (And.intro h' (And.intro hB hB')))
    have HF := Lib.hid hfl
    have HF' := Lib.hid hfk
    obtain ⟨R, hR⟩ : ∃ R : Bool, decide (l = k) = R := ⟨_, rfl⟩
    rw [hR]
    have HR := Lib.hid hR
    clear h h' hB hB' hn hm hfl hfk hR
    go_enter Tryd.func43, Tryd.ntmps43
    go_upto_region 4 with (fail)
    go_loopw [17] (fun iv W => ∃ j : Nat, iv = .int .i64 j ∧ j ≤ n ∧ l.take j = k.take j ∧ Below w.heap.size w W) (fun iv _ => n - (intOf iv).toNat)
    case atStart => exact ⟨0, rfl, by omega, by simp, Below.refl _ _⟩
    case round =>
      obtain ⟨j, rfl, hj, htk, hw⟩ := hrel
      have HTK := Lib.hid htk
      have HW := Lib.hid hw
      clear htk
      by_cases hlt : j < n
      · have hjl : j < l.length := by rw [HN.out]; exact hlt
        have hjk : j < k.length := by rw [HM.out]; exact hlt
        obtain ⟨hA, hA2, hB, hB'⟩ := HH.out
        obtain ⟨b1, off1, rfl, arr, a1, r1⟩ := (hA.below hw hB).celV hjl
        obtain ⟨b2, off2, rfl, brr, a2, r2⟩ := (hA2.below hw hB').celV hjk
        have T1 := Lib.hid (List.take_succ_eq_append_getElem hjl)
        have T2 := Lib.hid (List.take_succ_eq_append_getElem hjk)
        have NE9 : Hid (l[j] ≠ k[j] → R = false) := Lib.hid fun hne => HR.out.symm.trans (decide_eq_false fun e => hne (by subst e; rfl))
        have hlt2 : (j : Int) < n := by omega
        have hj0 : (0 : Int) ≤ j := by omega
        have F1 := HF.out j hjl
        have F2 := HF'.out j hjk
        generalize l[j] = x at *
        generalize k[j] = y at *
        have hz := Held.new wr 56 cz0
        have R1 := Lib.hid r1
        have sz1 := Lib.hid a1.size
        have sz2 := Lib.hid a2.size
        have on1 := Lib.hid a1.one
        have on2 := Lib.hid a2.one
        have FF := Lib.hid (And.intro F1 (And.intro F2 (And.intro hB hB')))
        have R2 := Lib.hid r2
        clear hA hA2 hw r1 r2 F1 F2 hB hB'
        go_upto_region 6 with (first
          | (guard_target = wpList _ _ _ (Oper.mk (some 21) _ _ _ _ none :: _) _ _; refine wpList_load_midA rfl 56 _ rfl b1 (off1 + j * 18) rfl arr _ R1.out Tryd.underlying56 rfl (by rw [sz1.out]; kernel_rfl) ?_)
          | (guard_target = wpList _ _ _ (Oper.mk (some 8) (Op.alloc 56) _ _ _ none :: _) _ _; refine wpList_plain rfl fun K hK => wp_alloc_R 56 rfl cz0 (by kernel_rfl) (hK _ _ ?_))
          | (guard_target = wpList _ _ _ (Oper.mk _ (Op.store 56 (.tmp 8) _) _ _ _ none :: _) _ _; refine wpList_store_row rfl 56 _ _ rfl wr.heap.size arr rfl rfl _ _ hz (by rw [sz1.out]; kernel_rfl) (by rw [sz1.out]; rfl) on1.out ?_))
        have hb5 : Below wr.heap.size wr ((wr.alloc (.cells cz0 56)).setRow wr.heap.size arr) := below_setRow ((Below.refl _ _).alloc (Nat.le_refl _) _) (Nat.le_refl _) _
        have h8 : Held ((wr.alloc (.cells cz0 56)).setRow wr.heap.size arr) wr.heap.size 56 arr := held_rowSelf hz arr
        have hlt5 : wr.heap.size < ((wr.alloc (.cells cz0 56)).setRow wr.heap.size arr).heap.size := h8.lt
        have a1' := a1.below hb5 (Nat.le_trans FF.out.2.2.1 HW.out.size)
        have a2' := a2.below hb5 (Nat.le_trans FF.out.2.2.2 HW.out.size)
        have R2' : Hid (((wr.alloc (.cells cz0 56)).setRow wr.heap.size arr).rangeAt b2 (off2 + j * 18) brr.toList) := Lib.hid (range_keep R2.out (hb5.block b2 (by
          have hz9 := R2.out 0 (brr[0]'(by rw [sz2.out]; omega)) (by simp [sz2.out])
          have := block_lt_of_cell hz9
          exact this)))
        have hw5 := Below.step HW.out hb5
        clear hz hb5 a1 a2 R2 R1
        generalize (wr.alloc (.cells cz0 56)).setRow wr.heap.size arr = W5 at *
        generalize wr.heap.size = g8 at *
        have hz := Held.new W5 56 cz0
        go_upto_region 7 with (first
          | (guard_target = wpList _ _ _ (Oper.mk (some 25) _ _ _ _ none :: _) _ _; refine wpList_load_midA rfl 56 _ rfl b2 (off2 + j * 18) rfl brr _ R2'.out Tryd.underlying56 rfl (by rw [sz2.out]; kernel_rfl) ?_)
          | (guard_target = wpList _ _ _ (Oper.mk (some 9) (Op.alloc 56) _ _ _ none :: _) _ _; refine wpList_plain rfl fun K hK => wp_alloc_R 56 rfl cz0 (by kernel_rfl) (hK _ _ ?_))
          | (guard_target = wpList _ _ _ (Oper.mk _ (Op.store 56 (.tmp 9) _) _ _ _ none :: _) _ _; refine wpList_store_row rfl 56 _ _ rfl W5.heap.size brr rfl rfl _ _ hz (by rw [sz2.out]; kernel_rfl) (by rw [sz2.out]; rfl) on2.out ?_))
        have hb6 : Below W5.heap.size W5 ((W5.alloc (.cells cz0 56)).setRow W5.heap.size brr) := below_setRow ((Below.refl _ _).alloc (Nat.le_refl _) _) (Nat.le_refl _) _
        have h9 : Held ((W5.alloc (.cells cz0 56)).setRow W5.heap.size brr) W5.heap.size 56 brr := held_rowSelf hz brr
        have h8' := Held.below h8 hb6
        have a1 := a1'.below hb6 (Nat.le_trans FF.out.2.2.1 hw5.size)
        have a2 := a2'.below hb6 (Nat.le_trans FF.out.2.2.2 hw5.size)
        have hw6 := Below.step hw5 hb6
        clear hz hb6 a1' a2' h8 hw5 R2'
        generalize (W5.alloc (.cells cz0 56)).setRow W5.heap.size brr = W6 at *
        generalize W5.heap.size = g9 at *
        have SC := Lib.hid (scel_z W6 a1 a2 FF.out.1 FF.out.2.1 (Nat.le_trans FF.out.2.2.1 hw6.size) (Nat.le_trans FF.out.2.2.2 hw6.size))
        by_cases hxy : x = y
        · rw [decide_eq_true hxy] at SC
          have HXY := Lib.hid hxy
          clear hxy a1 a2
          go_wp2_with (first
            | (guard_target = wpList _ _ _ (Oper.mk (some 27) _ _ _ _ none :: _) _ _; refine wpList_load_row rfl 56 _ rfl g8 rfl _ _ _ _ h8' Tryd.underlying56 rfl (by rw [sz1.out]; kernel_rfl) ?_)
            | (guard_target = wpList _ _ _ (Oper.mk (some 28) _ _ _ _ none :: _) _ _; refine wpList_load_row rfl 56 _ rfl g9 rfl _ _ _ _ h9 Tryd.underlying56 rfl (by rw [sz2.out]; kernel_rfl) ?_)
            | (go_at_call 40; (with_reducible refine SC.out.mono ?_); rintro _ u9 ⟨rfl, hb9⟩))
          go_roundw
          case rel => exact ⟨j + 1, by go_num, by omega, by rw [T1.out, T2.out, HTK.out, HXY.out], Below.step hw6 hb9⟩
          case measure => simp [intOf]; omega
        · rw [decide_eq_false hxy] at SC
          obtain rfl : R = false := NE9.out hxy
          clear hxy a1 a2
          go_wp2_with (first
            | (guard_target = wpList _ _ _ (Oper.mk (some 27) _ _ _ _ none :: _) _ _; refine wpList_load_row rfl 56 _ rfl g8 rfl _ _ _ _ h8' Tryd.underlying56 rfl (by rw [sz1.out]; kernel_rfl) ?_)
            | (guard_target = wpList _ _ _ (Oper.mk (some 28) _ _ _ _ none :: _) _ _; refine wpList_load_row rfl 56 _ rfl g9 rfl _ _ _ _ h9 Tryd.underlying56 rfl (by rw [sz2.out]; kernel_rfl) ?_)
            | (go_at_call 40; (with_reducible refine SC.out.mono ?_); rintro _ u9 ⟨rfl, hb9⟩))
          go_ret
          exact ⟨rfl, Below.step hw6 hb9⟩
      · obtain rfl : j = n := by omega
        obtain rfl : R = true := HR.out.symm.trans (decide_eq_true (by
          have := HTK.out
          rwa [List.take_of_length_le (by rw [HN.out]; exact Nat.le_refl _), List.take_of_length_le (by rw [HM.out]; exact Nat.le_refl _)] at this))
        clear hw hlt
        go_wp2_with fail
        go_ret
        exact ⟨rfl, HW.out⟩
  · have ne : ((n : Int) != (m : Int)) = true := by simpa using fun e : (n : Int) = m => hlen (by omega)
    have hno : decide (l = k) = false := decide_eq_false fun e => hlen (by rw [← hn, ← hm, e])
    rw [hno]
    clear hno hlen h h' hfl hfk
    go_enter Tryd.func43, Tryd.ntmps43
    go_wp2_with fail
    go_ret
    exact ⟨rfl, Below.refl _ _⟩
set_option maxHeartbeats 4000000 in
set_option maxRecDepth 100000 in
theorem same_z {A A2 A3 A4 : Option Addr} {p q : Zp} {B B' n m n' m' : Nat} (c c2 c3 c4 : Nat) (w : World) (hn : p.cells.length = n) (hm : p.free.length = m) (hn' : q.cells.length = n') (hm' : q.free.length = m') (h : PAtZ w B A A2 p) (h' : PAtZ w B' A3 A4 q) (hl : LenZ p) (hl' : LenZ q) (hB : B ≤ w.heap.size) (hB' : B' ≤ w.heap.size) :
    Calls Tryd.prog 24 #[pv A n c A2 m c2 p.most, pv A3 n' c3 A4 m' c4 q.most] w fun e w' => e = .returned (.bool (decide (p = q))) ∧ Below w.heap.size w w' := by
  have hb0 := below2 w (.cells (pc A n c A2 m c2 p.most) 29) (.cells (pc A3 n' c3 A4 m' c4 q.most) 29)
  have g2 := (Held.new w 29 (pc A n c A2 m c2 p.most)).alloc (.cells (pc A3 n' c3 A4 m' c4 q.most) 29)
  have g3 := Held.new1 w (.cells (pc A n c A2 m c2 p.most) 29) 29 (pc A3 n' c3 A4 m' c4 q.most)
  have hp := h.below hb0 hB
  have hq := h'.below hb0 hB'
  have hbs := Nat.le_trans hB hb0.size
  have hbs' := Nat.le_trans hB' hb0.size
  have SI := Lib.hid (sints_z c2 c4 _ hm hm' hp.free hq.free (by have := hl.free; omega) (by have := hl'.free; omega))
  have SC := fun W (hb : Below _ _ W) => Lib.hid (eqf_z c c3 W hn hn' (hp.cells.below hb hbs) (hq.cells.below hb hbs') (by have := hl.cells; omega) (by have := hl'.cells; omega) hl.frm hl'.frm (Nat.le_trans hbs hb.size) (Nat.le_trans hbs' hb.size))
  have HE := Lib.hid (pen_eq p q)
  obtain ⟨pcs, pfr, pm⟩ := p
  obtain ⟨qcs, qfr, qm⟩ := q
  generalize decide (Zp.mk pcs pfr pm = Zp.mk qcs qfr qm) = R at *
  simp only at HE SI SC g2 g3 hb0 ⊢
  obtain ⟨e1, he1⟩ : ∃ e, (pm == qm) = e := ⟨_, rfl⟩
  generalize decide (pfr = qfr) = e2 at *
  generalize decide (pcs = qcs) = e3 at *
  rw [he1] at HE
  clear h h' hl hl' hB hB' hp hq hbs hbs' hn hm hn' hm'
  cases e1
  case false =>
    go_enter Tryd.func24, Tryd.ntmps24
    go_upto_region 1 with (fail)
    generalize (w.alloc (.cells (pc A n c A2 m c2 pm) 29)).alloc (.cells (pc A3 n' c3 A4 m' c4 qm) 29) = W0 at *
    have x2 := g2.cell 2
    have y2 := g3.cell 2
    simp at x2 y2
    go_wp2_with fail
    go_ret
    rw [HE.out]
    exact ⟨rfl, hb0⟩
  case true =>
    cases e2
    all_goals
      go_enter Tryd.func24, Tryd.ntmps24
      go_upto_region 1 with (fail)
      generalize (w.alloc (.cells (pc A n c A2 m c2 pm) 29)).alloc (.cells (pc A3 n' c3 A4 m' c4 qm) 29) = W0 at *
      have x2 := g2.cell 2
      have y2 := g3.cell 2
      have x1 := g2.cell 1
      have y1 := g3.cell 1
      simp at x2 y2 x1 y1
      go_wp2_with (first
        | (go_at_call 42; (with_reducible refine SI.out.mono ?_); rintro _ u8 ⟨rfl, hb8⟩; have x0 := (Held.below g2 hb8).cell 0; have y0 := (Held.below g3 hb8).cell 0; simp at x0 y0)
        | (go_at_call 43; (with_reducible refine (SC _ hb8).out.mono ?_); rintro _ u9 ⟨rfl, hb9⟩))
      go_ret
      rw [HE.out]
      first
        | exact ⟨ret_bool (by simp), Below.step (Below.step hb0 hb8) hb9⟩
        | exact ⟨ret_bool (by simp), Below.step hb0 hb8⟩
end Go.Proofs.YtjibkgildfjjoaaDoor

/- Layer 12: the document's Same; its copy. -/
namespace Go.Proofs.YtjibkgildfjjoaaDoor
set_option linter.unusedVariables false
set_option linter.unusedSimpArgs false
open Go.RowKit Go.ChangeShapes Go.WideShapes Go.ChangeAt Go.Sort

end Go.Proofs.YtjibkgildfjjoaaDoor

/- Layer 13: the document's Same. -/
namespace Go.Proofs.YtjibkgildfjjoaaDoor
set_option linter.unusedVariables false
set_option linter.unusedSimpArgs false
open Go.RowKit Go.ChangeShapes Go.WideShapes Go.ChangeAt Go.Sort

def eqG (r q : Rng) : Bool := decide (r.buf = q.buf) && (r.head == q.head) && (r.many == q.many) && (r.most == q.most)
theorem eqG_iff (r q : Rng) : eqG r q = true ↔ r = q := by
  obtain ⟨b, h, m, t⟩ := r
  obtain ⟨b', h', m', t'⟩ := q
  simp [eqG, and_assoc]
/-- The numbers of two worlds are the same. -/
def scalW (U W : Wld) : Bool := decide ((U.lf, U.lm, U.lr) = (W.lf, W.lm, W.lr)) && decide (U.root = W.root) && (U.used == W.used) && (U.st == W.st) && decide ((U.otr, U.ore, U.oim) = (W.otr, W.ore, W.oim)) && (U.err == W.err) && (U.stl == W.stl) && (U.mis == W.mis)
theorem scalW_iff (U W : Wld) : scalW U W = true ↔ U.lf = W.lf ∧ U.lm = W.lm ∧ U.lr = W.lr ∧ U.root = W.root ∧ U.used = W.used ∧ U.st = W.st ∧ U.otr = W.otr ∧ U.ore = W.ore ∧ U.oim = W.oim ∧ U.err = W.err ∧ U.stl = W.stl ∧ U.mis = W.mis := by
  simp [scalW, and_assoc]
theorem sameW_parts (U W : Wld) : sameW U W = true ↔ U.rings.length = W.rings.length ∧ U.cur = W.cur ∧ U.prog = W.prog ∧ U.pen = W.pen ∧ U.rings = W.rings ∧ scalW U W = true := by
  rw [sameW_iff, scalW_iff]
  constructor
  · rintro rfl
    simp
  · rintro ⟨-, h1, h2, h3, h4, h5, h6, h7, h8, h9, h10, h11, h12, h13, h14, h15, h16⟩
    cases U
    cases W
    simp only at *
    subst h1 h2 h3 h4 h5 h6 h7 h8 h9 h10 h11 h12 h13 h14 h15 h16
    rfl
end Go.Proofs.YtjibkgildfjjoaaDoor

/- Layer 13: what of the world must stay for world's calls; programs cloned: slices.Clone of functions, of instructions; world.own. -/
namespace Go.Proofs.YtjibkgildfjjoaaDoor
set_option linter.unusedVariables false
set_option linter.unusedSimpArgs false
open Go.RowKit Go.ChangeShapes Go.WideShapes Go.ChangeAt Go.Sort

/-- The variable NoRef. -/
def NoR (W : World) : Prop := ∃ ty, Held W 0 ty #[.int .i64 (-1), .int .i64 0]
theorem NoR.below {w w' : World} (h : NoR w) (hb : Below w.heap.size w w') : NoR w' := h.imp fun _ h => h.below hb
/-- What must stay: three listed variables. -/
structure TW (w : World) : Prop where
  tb : TabB w w.heap.size
  nr : NoR w
theorem TW.below {w w' : World} (h : TW w) (hb : Below w.heap.size w w') : TW w' := ⟨(h.tb.below hb (Nat.le_refl _)).more hb.size, h.nr.below hb⟩

/-- A program that is the call's own. -/
def OwnK (w : World) (B : Nat) (v : Value) (p : List Fun) : Prop := ∃ L : List (Fun × Value), L.map (·.1) = p ∧ w.ownsRow B 89 4 v L.length (flatF L) ∧ ∀ x ∈ L, OwnC w B x.2 x.1.code
theorem OwnK.kt {w w' : World} {B : Nat} {v : Value} {p : List Fun} {t : TypeId} (h : OwnK w B v p) (hk : KTy w w' t) (h1 : 89 ≠ t) (h2 : 116 ≠ t) : OwnK w' B v p := by
  obtain ⟨L, e, k1, k2⟩ := h
  exact ⟨L, e, row_kt k1 hk h1, fun x hx => row_kt (k2 x hx) hk h2⟩
theorem OwnK.below {w w' : World} {B : Nat} {v : Value} {p : List Fun} (h : OwnK w B v p) (hb : Below w.heap.size w w') : OwnK w' B v p := by
  obtain ⟨L, e, k1, k2⟩ := h
  exact ⟨L, e, r_later k1 hb, fun x hx => (k2 x hx).below hb⟩
theorem OwnK.mono {w : World} {B C : Nat} {v : Value} {p : List Fun} (h : OwnK w B v p) (hC : C ≤ B) : OwnK w C v p := by
  obtain ⟨L, e, k1, k2⟩ := h
  exact ⟨L, e, row_mono k1 hC, fun x hx => (k2 x hx).mono hC⟩
theorem OwnK.prog {w : World} {B : Nat} {v : Value} {p : List Fun} (h : OwnK w B v p) (h0 : 1 ≤ p.length) : ∃ A c, v = .slice A p.length c ∧ ProgAt w w.heap.size A p := by
  obtain ⟨L, rfl, k1, k2⟩ := h
  have hl : 1 ≤ L.length := by simpa using h0
  obtain ⟨g, cap, rfl, hg1, hg2⟩ := k1.form hl
  exact ⟨_, cap, by rw [List.length_map], prog_of_row k1 fun x hx => (k2 x hx).code⟩
theorem run_eqF (w : World) (a : Option Addr) (n c n' c' : Nat) : (binOp .eql 23 (.slice a n c) (.slice none n' c')).run Tryd.prog w = .ok (.bool a.isNone) w := Lib.run_eql_slice_nil w _ _ a n c n' c' Tryd.underlying23
theorem run_eqI (w : World) (a : Option Addr) (n c n' c' : Nat) : (binOp .eql 87 (.slice a n c) (.slice none n' c')).run Tryd.prog w = .ok (.bool a.isNone) w := Lib.run_eql_slice_nil w _ _ a n c n' c' Tryd.underlying87
theorem OwnC.made (w : World) : OwnC (w.alloc (.cells #[] 116)) w.heap.size (.slice (some ⟨w.heap.size, 0, none⟩) 0 0) [] := World.ownsRow_made w #[] 0 (Nat.le_refl _) (by decide) rfl
set_option maxHeartbeats 1000000 in
/-- Instructions cloned. -/
theorem cloI_w {A : Option Addr} {l : List Ins} {B n : Nat} (c : Nat) (w : World) (hn : l.length = n) (h : CodeAt w B A l) (h1 : 1 ≤ n) (hl : n ≤ 1000) (hB : B ≤ w.heap.size) :
    Calls Tryd.prog 58 #[.slice A n c] w fun e w' => ∃ g cap, e = .returned (.slice (some ⟨g, 0, none⟩) n cap) ∧ OwnC w' w.heap.size (.slice (some ⟨g, 0, none⟩) n cap) l ∧ Below w.heap.size w w' := by
  have q := run_eqI
  obtain ⟨b, off, rfl, hb0, _⟩ := h (by omega)
  have hbe : Below w.heap.size w (w.alloc (.cells #[] 116)) := (Below.refl _ _).alloc (Nat.le_refl _) _
  have HVA := Lib.hid (h.below hbe hB)
  have HN := Lib.hid (show n = l.length ∧ 1 ≤ l.length ∧ l.length ≤ 1000 by omega)
  have HO := Lib.hid (OwnC.made w)
  have HS := Lib.hid (show w.heap.size ≤ (w.alloc (.cells #[] 116)).heap.size by simp)
  have HBE := Lib.hid hbe
  clear h hB hl h1 hbe hb0 hn
  go_enter Tryd.func58, Tryd.ntmps58
  go_wp2_with (at_builtin; refine wpList_append_code rfl _ _ rfl w.heap.size _ [] rfl HO.out (k := l) (c := c) (by rw [← HN.out.1]; rfl) HVA.out HN.out.2.1 (by have := HN.out.2.2; simp; omega) HS.out ?_; intro g6 c6 u6 k1 k2 k3 k4; rw [List.length_nil, Nat.zero_add, ← HN.out.1]; rw [List.length_nil, Nat.zero_add, List.nil_append, ← HN.out.1] at k1; have K1 := Lib.hid k1; have K2 := Lib.hid k2; clear k1 k2 k3 k4)
  go_ret
  exact ⟨g6, c6, rfl, K1.out, HBE.out.trans K2.out⟩
set_option maxHeartbeats 1000000 in
/-- Functions cloned: their codes are the same ones. -/
theorem cloF_w {A : Option Addr} {p : List Fun} {n : Nat} (c : Nat) (w : World) (hn : p.length = n) (h : ProgAt w w.heap.size A p) (h1 : 1 ≤ n) (hl : n ≤ 1000) :
    Calls Tryd.prog 57 #[.slice A n c] w fun e w' => ∃ g cap L, e = .returned (.slice (some ⟨g, 0, none⟩) n cap) ∧ L.map (·.1) = p ∧ OwnQ w' w.heap.size (.slice (some ⟨g, 0, none⟩) n cap) L ∧ Below w.heap.size w w' := by
  have q := run_eqF
  obtain ⟨b, off, rfl, hb0, _⟩ := h (by omega)
  have hbe : Below w.heap.size w (w.alloc (.cells #[] 89)) := (Below.refl _ _).alloc (Nat.le_refl _) _
  have HVA := Lib.hid (h.below hbe (Nat.le_refl _))
  have HN := Lib.hid (show n = p.length ∧ 1 ≤ p.length ∧ p.length ≤ 1000 by omega)
  have HO := Lib.hid (OwnQ.made w)
  have HS := Lib.hid (show w.heap.size ≤ (w.alloc (.cells #[] 89)).heap.size by simp)
  have HBE := Lib.hid hbe
  clear h hl h1 hbe hb0 hn
  go_enter Tryd.func57, Tryd.ntmps57
  go_wp2_with (at_builtin; refine wpList_append_prog 23 Tryd.underlying23 rfl _ _ rfl w.heap.size _ [] rfl HO.out (p := p) (c := c) (by rw [← HN.out.1]; rfl) HVA.out HN.out.2.1 (by have := HN.out.2.2; simp; omega) HS.out ?_; intro v6 u6 L6 k1 k2 k3; rw [List.nil_append] at k2; have K1 := Lib.hid k1; have K2 := Lib.hid k2; have K3 := Lib.hid k3; clear k1 k2 k3)
  go_ret
  have e9 : L6.length = n := by rw [HN.out.1, ← K1.out, List.length_map]
  obtain ⟨k1, k2⟩ := K2.out
  have h1 := HN.out.2.1
  obtain ⟨g, cap, rfl, -, -⟩ := k1.form (by rw [e9, HN.out.1]; exact h1)
  rw [e9]
  refine ⟨g, cap, L6, rfl, K1.out, ⟨?_, k2⟩, HBE.out.trans K3.out⟩
  rw [e9] at k1 ⊢
  exact k1

theorem flatF_set3 : ∀ (l : List (Fun × Value)) (k : Nat) (y : Value) (h : k < l.length), (flatF l).set (k * 4 + 3) y = flatF (l.set k (l[k].1, y))
  | z :: l, 0, y, _ => rfl
  | z :: l, k + 1, y, h => by
    have ih := flatF_set3 l k y (by simpa using h)
    rw [List.set_cons_succ, show (k + 1) * 4 + 3 = k * 4 + 3 + 4 by omega]
    show .int .i64 z.1.ar :: .int .i64 z.1.lo :: .int .i64 z.1.sl :: z.2 :: (flatF l).set (k * 4 + 3) y = .int .i64 z.1.ar :: .int .i64 z.1.lo :: .int .i64 z.1.sl :: z.2 :: flatF (l.set k ((l[k]'(by simpa using h)).1, y))
    rw [ih]
theorem map_set1 {l : List (Fun × Value)} {k : Nat} {y : Value} (h : k < l.length) : (l.set k (l[k].1, y)).map (·.1) = l.map (·.1) := by
  apply List.ext_getElem (by simp)
  intro i h1 h2
  simp only [List.getElem_map, List.getElem_set]
  split
  · subst_vars; rfl
  · rfl
/-- A program of which the first j codes are the call's own, too. -/
structure HalfK (w : World) (B g n cap : Nat) (p : List Fun) (j : Nat) (L : List (Fun × Value)) : Prop where
  e : L.map (·.1) = p
  len : L.length = n
  r : w.ownsRow B 89 4 (.slice (some ⟨g, 0, none⟩) n cap) n (flatF L)
  o : ∀ i (h : i < L.length), i < j → OwnC w B L[i].2 L[i].1.code
  l : ∀ i (h : i < L.length), j ≤ i → ∃ A c, L[i].2 = .slice A L[i].1.code.length c ∧ CodeAt w B A L[i].1.code
theorem HalfK.below {w w' : World} {B g n cap : Nat} {p : List Fun} {j : Nat} {L : List (Fun × Value)} (h : HalfK w B g n cap p j L) (hB : B ≤ w.heap.size) (hb : Below w.heap.size w w') : HalfK w' B g n cap p j L :=
  ⟨h.e, h.len, r_later h.r hb, fun i hi hj => (h.o i hi hj).below hb, fun i hi hj => by
    obtain ⟨A, c, e, k⟩ := h.l i hi hj
    exact ⟨A, c, e, k.below hb hB⟩⟩
theorem HalfK.step {w : World} {B g n cap : Nat} {p : List Fun} {j : Nat} {L : List (Fun × Value)} (h : HalfK w B g n cap p j L) (hj : j < L.length) {v : Value} (hv : OwnC w B v L[j].1.code) :
    HalfK (w.setCell ⟨g, j * 4 + 3, none⟩ v) B g n cap p (j + 1) (L.set j (L[j].1, v)) := by
  have hgB : B ≤ g := (h.r.lt g rfl).1
  have hgr : w.grownBy (w.setCell ⟨g, j * 4 + 3, none⟩ v) (some g) := grown_set w g (j * 4 + 3) v
  have hk : KTy w (w.setCell ⟨g, j * 4 + 3, none⟩ v) 89 := kt_own h.r hgr
  have hb : Below B w (w.setCell ⟨g, j * 4 + 3, none⟩ v) := (Below.refl _ _).setCell (p := ⟨g, j * 4 + 3, none⟩) hgB _
  refine ⟨by rw [map_set1 hj]; exact h.e, by rw [List.length_set]; exact h.len, ?_, fun i hi hij => ?_, fun i hi hij => ?_⟩
  · rw [← flatF_set3 L j v hj]
    exact (h.r.stored (j * 4 + 3) v).1
  · rw [List.length_set] at hi
    by_cases e : i = j
    · subst e
      rw [List.getElem_set_self]
      exact row_kt hv hk (by decide)
    · rw [List.getElem_set_ne (fun e2 => e e2.symm)]
      exact row_kt (h.o i hi (by omega)) hk (by decide)
  · rw [List.length_set] at hi
    rw [List.getElem_set_ne (by omega)]
    obtain ⟨A, c, e, k⟩ := h.l i hi (by omega)
    exact ⟨A, c, e, k.below hb (Nat.le_refl _)⟩
theorem HalfK.done {w : World} {B g n cap : Nat} {p : List Fun} {L : List (Fun × Value)} (h : HalfK w B g n cap p n L) : OwnK w B (.slice (some ⟨g, 0, none⟩) n cap) p :=
  ⟨L, h.e, by rw [h.len]; exact h.r, fun x hx => by
    obtain ⟨i, hi, rfl⟩ := List.mem_iff_getElem.1 hx
    exact h.o i hi (by have := h.len; omega)⟩
set_option maxHeartbeats 2000000 in
set_option maxRecDepth 100000 in
/-- A valid program in memory of its own. -/
theorem own_w {A : Option Addr} {p : List Fun} (c : Nat) (w : World) (h : ProgAt w w.heap.size A p) (hm : mayP p = true) :
    Calls Tryd.prog 34 #[.slice A p.length c] w fun e w' => ∃ v, e = .returned v ∧ OwnK w' w.heap.size v p ∧ Below w.heap.size w w' := by
  obtain ⟨m1, m2, m3⟩ := (mayP_iff p).1 hm
  obtain ⟨n, hn⟩ : ∃ n, p.length = n := ⟨_, rfl⟩
  have HC := Lib.hid (cloF_w c w hn h (by omega) (by omega))
  have HN := Lib.hid hn
  rw [hn] at m1 m2 ⊢
  have hM : ∀ f ∈ p, 1 ≤ f.code.length ∧ f.code.length ≤ 200 := fun f hf => by
    have h9 := m3 f hf
    unfold mayF at h9
    simp at h9
    exact h9.1.2
  have HM := Lib.hid hM
  clear h hm m3 hM hn
  go_enter Tryd.func34, Tryd.ntmps34
  go_upto_region 2 with (go_at_call 57; (with_reducible refine HC.out.mono ?_); rintro _ u0 ⟨g, cap, L0, rfl, e0, oq, hb0⟩)
  go_upto_region 3 with (fail)
  have hL0 : L0.length = n := by rw [← HN.out, ← e0, List.length_map]
  have h0 : HalfK u0 w.heap.size g n cap p 0 L0 := ⟨e0, hL0, by have := oq.1; rw [hL0] at this; exact this, fun i hi hj => absurd hj (by omega), fun i hi _ => oq.2 _ (List.getElem_mem hi)⟩
  have H0 := Lib.hid (And.intro h0 hb0)
  clear HC e0 oq hb0 hL0 h0
  go_loopw [8] (fun iv W => ∃ (j : Nat) (L : List (Fun × Value)), iv = .int .i64 j ∧ j ≤ n ∧ HalfK W w.heap.size g n cap p j L ∧ Below w.heap.size w W) (fun iv _ => n - (intOf iv).toNat)
  case atStart => exact ⟨0, L0, rfl, by omega, H0.out.1, H0.out.2⟩
  case round =>
    clear H0
    obtain ⟨j, L, rfl, hj, hk, hb⟩ := hrel
    have hj0 : (0 : Int) ≤ j := by omega
    by_cases hlt : j < n
    · have hlt2 : (j : Int) < (n : Int) := by omega
      have hjL : j < L.length := by rw [hk.len]; exact hlt
      obtain ⟨A9, c9, e9, hc9⟩ := hk.l j hjL (Nat.le_refl _)
      have hmem : L[j].1 ∈ p := by rw [← hk.e]; exact List.mem_map.2 ⟨L[j], List.getElem_mem hjL, rfl⟩
      obtain ⟨q1, q2⟩ := HM.out _ hmem
      have y3 := (hk.r.cellAt (j * 4 + 3) (by omega)).trans (flatF_at L j hjL).2.2.2
      rw [e9] at y3
      obtain ⟨m, hm⟩ : ∃ m, L[j].1.code.length = m := ⟨_, rfl⟩
      rw [hm] at y3
      have HCI := Lib.hid (cloI_w c9 wr hm hc9 (by omega) (by omega) hb.size)
      have HK := Lib.hid (And.intro hk hb)
      clear hk hb e9 hc9 hmem q1 q2 hm
      go_upto_region 5 with (fail)
      go_upto_region 6 with (go_at_call 58; (with_reducible refine HCI.out.mono ?_); rintro _ u ⟨g7, c7, rfl, ho7, hb7⟩; have z9 := ((HK.out.1.below HK.out.2.size hb7).r).cellAt (j * 4 + 3) (by omega); rw [(flatF_at L j hjL).2.2.2] at z9; have f9 := ((HK.out.1.below HK.out.2.size hb7).r).frozenAt (j * 4 + 3))
      have hk2 := (HK.out.1.below HK.out.2.size hb7).step hjL (ho7.mono HK.out.2.size)
      have hb2 : Below w.heap.size w (u.setCell ⟨g, j * 4 + 3, none⟩ (.slice (some ⟨g7, 0, none⟩) m c7)) := (Below.step HK.out.2 hb7).setCell (p := ⟨g, j * 4 + 3, none⟩) ((HK.out.1.r).lt g rfl).1 _
      have HF := Lib.hid (And.intro hk2 hb2)
      clear hk2 hb2 z9 f9 HK HCI ho7 hb7 y3
      generalize (u.setCell ⟨g, j * 4 + 3, none⟩ (.slice (some ⟨g7, 0, none⟩) m c7)) = W9 at *
      go_wp2_with fail
      go_roundw
      case rel => exact ⟨j + 1, _, by go_num, by omega, HF.out.1, HF.out.2⟩
      case measure => simp [intOf]; omega
    · obtain rfl : j = n := by omega
      have HF := Lib.hid (And.intro hk.done hb)
      clear hk hb
      go_wp2_with fail
      go_ret
      exact ⟨_, rfl, HF.out.1, HF.out.2⟩
end Go.Proofs.YtjibkgildfjjoaaDoor

/- Layer 13: world.Ready. -/
namespace Go.Proofs.YtjibkgildfjjoaaDoor
set_option linter.unusedVariables false
set_option linter.unusedSimpArgs false
open Go.RowKit Go.ChangeShapes Go.WideShapes Go.ChangeAt Go.Sort

abbrev wcsR (b off : Nat) (a : WA) (W : Wld) : Array Value := #[.slice a.ap W.prog.length a.cp, .int .i64 W.lf, .int .i64 W.lm, .int .i64 W.lr, .slice a.ac W.pen.cells.length a.cc, .slice a.af W.pen.free.length a.cf, .int .i64 W.pen.most, .slice (some ⟨b, off, none⟩) W.rings.length a.cr, .slice a.aq W.cur.length a.cq, .int .i64 W.root.1, .int .i64 W.root.2, .int .i64 W.used, .int .i64 W.st, .int .i64 W.otr, .int .i64 W.ore, .int .i64 W.oim, .int .i64 W.err, .int .i64 W.stl, .int .i64 W.mis]
set_option maxHeartbeats 1000000 in
set_option maxRecDepth 100000 in
theorem ready_none {a : WA} {W : Wld} (w : World) (h0 : W.rings.length = 0) : Calls Tryd.prog 8 #[.agg (wcs a W)] w (ListQ w (readyW W)) := by
  have hb0 : Below w.heap.size w (w.alloc (.cells (wcs a W) 40)) := (Below.refl _ _).alloc (Nat.le_refl _) _
  have g1 := Held.new w 40 (wcs a W)
  have hR : readyW W = [] := by unfold readyW; rw [h0]; rfl
  rw [hR]
  simp only [wcs, h0] at g1 hb0 ⊢
  clear hR h0
  go_enter Tryd.func8, Tryd.ntmps8
  go_upto_region 1 with (fail)
  generalize w.alloc _ = W0 at *
  have x7 := g1.cell 7
  simp at x7
  go_upto_region 3 with (fail)
  go_loopw [9, 3] (fun iv sv wx => iv = .int .i64 0 ∧ sv = .slice none 0 0 ∧ wx = W0) (fun _ _ _ => 0)
  case atStart => exact ⟨rfl, rfl, rfl⟩
  case round =>
    obtain ⟨rfl, rfl, rfl⟩ := hrel
    go_wp2_with fail
    go_ret
    exact ⟨none, 0, rfl, Own2.nil _ _ _, hb0⟩
set_option maxHeartbeats 4000000 in
set_option maxRecDepth 100000 in
theorem ready_some {a : WA} {W : Wld} {B bR oR : Nat} (w : World) (hT : TW w) (h : WAt w B a W) (hr : a.ar = some ⟨bR, oR, none⟩) (hn1 : W.rings.length ≤ 900) (hn2 : W.cur.length ≤ 1000) (hB : B ≤ w.heap.size) :
    Calls Tryd.prog 8 #[.agg (wcs a W)] w (ListQ w (readyW W)) := by
  rw [show wcs a W = wcsR bR oR a W by simp only [wcs, wcsR, hr]]
  have hb0 : Below w.heap.size w (w.alloc (.cells (wcsR bR oR a W) 40)) := (Below.refl _ _).alloc (Nat.le_refl _) _
  have g1 := Held.new w 40 (wcsR bR oR a W)
  have HP := Lib.hid (And.intro h hB)
  have HR := Lib.hid hr
  have HTW := Lib.hid hT
  clear h hB hr hT
  go_enter Tryd.func8, Tryd.ntmps8
  go_upto_region 1 with (fail)
  generalize w.alloc (.cells (wcsR bR oR a W) 40) = W0 at *
  have x7 := g1.cell 7
  simp at x7
  go_upto_region 3 with (fail)
  have HX := Lib.hid (And.intro g1 hb0)
  clear g1 hb0 x7
  go_loopw [9, 3] (fun iv sv wx => ∃ (j k : Nat) (A9 : Option Addr) (c9 : Nat), iv = .int .i64 j ∧ sv = .slice A9 k c9 ∧ j ≤ W.rings.length ∧ (readyN W.rings W.cur j).length = k ∧ OwnR wx w.heap.size (.slice A9 k c9) (readyN W.rings W.cur j) ∧ Below w.heap.size w wx ∧ Held wx w.heap.size 40 (wcsR bR oR a W)) (fun iv _ _ => W.rings.length - (intOf iv).toNat)
  case atStart => exact ⟨0, 0, none, 0, rfl, rfl, by omega, rfl, Own2.nil _ _ _, HX.out.2, HX.out.1⟩
  case round =>
    clear HX
    obtain ⟨j, k, A9, c9, rfl, rfl, hj, hk, ho, hbw, g1⟩ := hrel
    have hj0 : (0 : Int) ≤ j := by omega
    have hnI : (W.rings.length : Int) ≤ 900 := by omega
    have hcI : (W.cur.length : Int) ≤ 1000 := by omega
    by_cases hlt : j < W.rings.length
    · have hlt2 : (j : Int) < (W.rings.length : Int) := by omega
      have hkn : k ≤ 922500 := by
        have := readyN_le W.rings W.cur j
        omega
      have HST := Lib.hid (readyN_at (cs := W.cur) hlt)
      obtain ⟨cj, hcj⟩ : ∃ c, W.cur.getD j noV = c := ⟨_, rfl⟩
      rw [hcj] at HST
      have HJ := Lib.hid (And.intro ho (And.intro hbw hk))
      have hp := HP.out.1.below hbw HP.out.2
      obtain ⟨b, off, e1, hbl0, Ab, cb, hab, k0, k1, k2, k3⟩ := hp.rings.rng hlt
      have e2 := HR.out.symm.trans e1
      simp only [Option.some.injEq, Addr.mk.injEq, and_true] at e2
      obtain ⟨rfl, rfl⟩ := e2
      obtain ⟨rj, hrj⟩ : ∃ r, W.rings[j] = r := ⟨_, rfl⟩
      rw [hrj] at k0 k1 k2 k3 hab HST
      obtain ⟨nb, hnb⟩ : ∃ n, rj.buf.length = n := ⟨_, rfl⟩
      rw [hnb] at k0
      have hn := Held.new wr 46 rz0
      have HHB := Lib.hid hbl0
      clear ho hbw hk hp e1 hbl0
      go_upto_region 5 with (guard_target = wpList _ _ _ (Oper.mk _ (Op.store 46 (.tmp 5) _) _ _ _ none :: _) _ _; refine wpList_store_row rfl 46 _ _ rfl wr.heap.size (rgc Ab nb cb rj.head rj.many rj.most) rfl rfl _ _ hn (by kernel_rfl) rfl (by simp [Value.oneCell']) ?_)
      have hbV : Below wr.heap.size wr ((wr.alloc (.cells rz0 46)).setRow wr.heap.size (rgc Ab nb cb rj.head rj.many rj.most)) := below_setRow ((Below.refl _ _).alloc (Nat.le_refl _) _) (Nat.le_refl _) _
      have kn := held_rowSelf hn (rgc Ab nb cb rj.head rj.many rj.most)
      replace g1 := g1.below hbV
      replace hab := hab.below hbV (Nat.le_trans HP.out.2 HJ.out.2.1.size)
      have HJ2 := Lib.hid (And.intro (r_later HJ.out.1 hbV : OwnR _ w.heap.size (.slice A9 k c9) (readyN W.rings W.cur j)) (And.intro (Below.step HJ.out.2.1 hbV) HJ.out.2.2))
      clear HJ k0 k1 k2 k3 hn hbV
      generalize World.setRow _ wr.heap.size _ = W1 at *
      generalize wr.heap.size = gV at *
      have HAB := Lib.hid hab
      clear hab
      obtain ⟨tn, nr⟩ := (HTW.out.below HJ2.out.2.1).nr
      have hln := nr.lt
      have hlg := g1.lt
      have HKN := Lib.hid kn
      clear kn
      simp only [Act.put]
      go_cut [27] from 14 to 27 (fun v wx => v = .bool (decide (cj ≠ noV)) ∧ Below W1.heap.size W1 wx)
      case first =>
        have hp := HP.out.1.below HJ2.out.2.1 HP.out.2
        have hbs := Nat.le_trans HP.out.2 HJ2.out.2.1.size
        by_cases hc : j < W.cur.length
        · have hc2 : (j : Int) < (W.cur.length : Int) := by omega
          obtain ⟨bq, oq, e1, hbl0, k0, k1⟩ := pat_cell hp.cur hc
          have hbl : bq < W1.heap.size := Nat.lt_of_lt_of_le hbl0 hbs
          rw [show W.cur[j] = cj by rw [← hcj, List.getD_eq_getElem?_getD, List.getElem?_eq_getElem hc, Option.getD_some]] at k0 k1
          have NE9 : ∀ w9, (binOp .neq 33 (gv cj.1 cj.2) (gv (-1) 0)).run Tryd.prog w9 = .ok (.bool (decide (cj ≠ noV))) w9 := fun w9 => neqr_run cj.1 cj.2 (-1) 0 w9
          clear HST HJ2 hp hbl0 hbs
          have hdr := (Below.refl W1.heap.size W1).drew
          have HDR := Lib.hid hdr
          replace g1 := Held.below g1 hdr
          replace nr := Held.below nr hdr
          replace hln : _ < W1.drew.heap.size := hln
          replace hlg : _ < W1.drew.heap.size := hlg
          replace k0 := (hdr.cell (p := ⟨bq, _, none⟩) hbl).trans k0
          replace k1 := (hdr.cell (p := ⟨bq, _, none⟩) hbl).trans k1
          replace hbl : bq < W1.drew.heap.size := hbl
          clear hdr
          refine wp_region_held_drew (S := fun W => Below W1.drew.heap.size W1.drew W) (by kernel_rfl) (Below.refl _ _) (fun hS => ?_)
          generalize W1.drew = Wq at *
          show wpAnyH _ _ _ _ _ 14 #[false, false, false, false, false, false, false, false, false, false, false, false, false, false] _ _
          refine wpAnyH_begin (by kernel_rfl) (fun HNS => ?_)
          refine wpAnyH_takeS HNS (i := 0) (v := .int .i64 j) rfl (by kernel_rfl) (by kernel_rfl) (fun _ _ _ h => h) (Or.inl ⟨by kernel_rfl, fun W hW => ?_⟩) hS ?_
          · go_simp
          simp only [Act.put, List.getElem_toArray, List.getElem_cons_succ, List.getElem_cons_zero, List.setIfInBounds_toArray, List.set_cons_zero, List.set_cons_succ]
          refine wpAnyH_takeS HNS (i := 1) (v := .pointer (some ⟨w.heap.size, 8, none⟩)) rfl (by kernel_rfl) (by kernel_rfl) (fun _ _ _ h => h) (Or.inl ⟨by kernel_rfl, fun W hW => ?_⟩) hS ?_
          · go_simp
          simp only [Act.put, List.getElem_toArray, List.getElem_cons_succ, List.getElem_cons_zero, List.setIfInBounds_toArray, List.set_cons_zero, List.set_cons_succ]
          refine wpAnyH_takeS HNS (i := 2) (v := .slice a.aq W.cur.length a.cq) rfl (by kernel_rfl) (by kernel_rfl) (fun _ _ _ h => h) (Or.inl ⟨by kernel_rfl, fun W hW => ?_⟩) hS ?_
          · (have hz := Held.below g1 hW; have z0 := hz.cell 8; simp at z0; go_simp)
          simp only [Act.put, List.getElem_toArray, List.getElem_cons_succ, List.getElem_cons_zero, List.setIfInBounds_toArray, List.set_cons_zero, List.set_cons_succ]
          refine wpAnyH_takeS HNS (i := 3) (v := .int .i64 (W.cur.length : Nat)) rfl (by kernel_rfl) (by kernel_rfl) (fun _ _ _ h => h) (Or.inl ⟨by kernel_rfl, fun W hW => ?_⟩) hS ?_
          · go_simp
          simp only [Act.put, List.getElem_toArray, List.getElem_cons_succ, List.getElem_cons_zero, List.setIfInBounds_toArray, List.set_cons_zero, List.set_cons_succ]
          refine wpAnyH_takeS HNS (i := 4) (v := .bool true) rfl (by kernel_rfl) (by kernel_rfl) (fun _ _ _ h => h) (Or.inl ⟨by kernel_rfl, fun W hW => ?_⟩) hS ?_
          · go_simp
          simp only [Act.put, List.getElem_toArray, List.getElem_cons_succ, List.getElem_cons_zero, List.setIfInBounds_toArray, List.set_cons_zero, List.set_cons_succ]
          refine wpAnyH_takeS HNS (i := 5) (v := .bool true) rfl (by kernel_rfl) (by kernel_rfl) (fun _ _ _ h => h) (Or.inl ⟨by kernel_rfl, fun W hW => ?_⟩) hS ?_
          · go_simp
          simp only [Act.put, List.getElem_toArray, List.getElem_cons_succ, List.getElem_cons_zero, List.setIfInBounds_toArray, List.set_cons_zero, List.set_cons_succ]
          refine wpAnyH_takeS HNS (i := 6) (v := .pointer (some ⟨w.heap.size, 8, none⟩)) rfl (by kernel_rfl) (by kernel_rfl) (fun _ _ _ h => h) (Or.inl ⟨by kernel_rfl, fun W hW => ?_⟩) hS ?_
          · go_simp
          simp only [Act.put, List.getElem_toArray, List.getElem_cons_succ, List.getElem_cons_zero, List.setIfInBounds_toArray, List.set_cons_zero, List.set_cons_succ]
          refine wpAnyH_takeS HNS (i := 7) (v := .slice (some ⟨bq, oq, none⟩) W.cur.length a.cq) rfl (by kernel_rfl) (by kernel_rfl) (fun _ _ _ h => h) (Or.inl ⟨by kernel_rfl, fun W hW => ?_⟩) hS ?_
          · (have hz := Held.below g1 hW; have z0 := hz.cell 8; simp at z0; rw [e1] at z0; go_simp)
          simp only [Act.put, List.getElem_toArray, List.getElem_cons_succ, List.getElem_cons_zero, List.setIfInBounds_toArray, List.set_cons_zero, List.set_cons_succ]
          refine wpAnyH_takeS HNS (i := 8) (v := .int .i64 j) rfl (by kernel_rfl) (by kernel_rfl) (fun _ _ _ h => h) (Or.inl ⟨by kernel_rfl, fun W hW => ?_⟩) hS ?_
          · go_simp
          simp only [Act.put, List.getElem_toArray, List.getElem_cons_succ, List.getElem_cons_zero, List.setIfInBounds_toArray, List.set_cons_zero, List.set_cons_succ]
          refine wpAnyH_takeS HNS (i := 9) (v := .pointer (some ⟨bq, oq + j * 2, none⟩)) rfl (by kernel_rfl) (by kernel_rfl) (fun _ _ _ h => h) (Or.inl ⟨by kernel_rfl, fun W hW => ?_⟩) hS ?_
          · go_simp
          simp only [Act.put, List.getElem_toArray, List.getElem_cons_succ, List.getElem_cons_zero, List.setIfInBounds_toArray, List.set_cons_zero, List.set_cons_succ]
          refine wpAnyH_takeS HNS (i := 10) (v := .agg #[.int .i64 cj.1, .int .i64 cj.2]) rfl (by kernel_rfl) (by kernel_rfl) (fun _ _ _ h => h) (Or.inl ⟨by kernel_rfl, fun W hW => ?_⟩) hS ?_
          · (have z0 := (hW.cell (p := ⟨bq, _, none⟩) hbl).trans k0; have z1 := (hW.cell (p := ⟨bq, _, none⟩) hbl).trans k1; go_simp)
          simp only [Act.put, List.getElem_toArray, List.getElem_cons_succ, List.getElem_cons_zero, List.setIfInBounds_toArray, List.set_cons_zero, List.set_cons_succ]
          refine wpAnyH_takeS HNS (i := 11) (v := .agg #[.int .i64 (-1), .int .i64 0]) rfl (by kernel_rfl) (by kernel_rfl) (fun _ _ _ h => h) (Or.inl ⟨by kernel_rfl, fun W hW => ?_⟩) hS ?_
          · (have hz := Held.below nr hW; have z0 := hz.cell 0; have z1 := hz.cell 1; simp at z0 z1; go_simp)
          simp only [Act.put, List.getElem_toArray, List.getElem_cons_succ, List.getElem_cons_zero, List.setIfInBounds_toArray, List.set_cons_zero, List.set_cons_succ]
          refine wpAnyH_takeS HNS (i := 12) (v := .bool (decide (cj ≠ noV))) rfl (by kernel_rfl) (by kernel_rfl) (fun _ _ _ h => h) (Or.inl ⟨by kernel_rfl, fun W hW => ?_⟩) hS ?_
          · (have e9 := NE9 W; go_simp; try exact e9)
          simp only [Act.put, List.getElem_toArray, List.getElem_cons_succ, List.getElem_cons_zero, List.setIfInBounds_toArray, List.set_cons_zero, List.set_cons_succ]
          refine wpAnyH_takeS HNS (i := 13) (v := .bool (decide (cj ≠ noV))) rfl (by kernel_rfl) (by kernel_rfl) (fun _ _ _ h => h) (Or.inl ⟨by kernel_rfl, fun W hW => ?_⟩) hS ?_
          · go_simp
          simp only [Act.put, List.getElem_toArray, List.getElem_cons_succ, List.getElem_cons_zero, List.setIfInBounds_toArray, List.set_cons_zero, List.set_cons_succ]
          refine wpAnyH_done (by kernel_rfl) ?_ _
          (repeat (first | go_skip | go_guarded | go_step | go_upon))
          go_meet
          case rel => exact ⟨rfl, Below.step HDR.out hS⟩
        · have hc2 : ¬ (j : Int) < (W.cur.length : Int) := by omega
          have hcn : cj = noV := by rw [← hcj, List.getD_eq_getElem?_getD, List.getElem?_eq_none (by omega), Option.getD_none]
          clear HST HJ2 hp hbs
          have hdr := (Below.refl W1.heap.size W1).drew
          have HDR := Lib.hid hdr
          replace g1 := Held.below g1 hdr
          replace nr := Held.below nr hdr
          replace hln : _ < W1.drew.heap.size := hln
          replace hlg : _ < W1.drew.heap.size := hlg
          clear hdr
          refine wp_region_held_drew (S := fun W => Below W1.drew.heap.size W1.drew W) (by kernel_rfl) (Below.refl _ _) (fun hS => ?_)
          generalize W1.drew = Wq at *
          show wpAnyH _ _ _ _ _ 14 #[false, false, false, false, false, false, false, false, false, false, false, false, false, false] _ _
          refine wpAnyH_begin (by kernel_rfl) (fun HNS => ?_)
          refine wpAnyH_takeS HNS (i := 0) (v := .int .i64 j) rfl (by kernel_rfl) (by kernel_rfl) (fun _ _ _ h => h) (Or.inl ⟨by kernel_rfl, fun W hW => ?_⟩) hS ?_
          · go_simp
          simp only [Act.put, List.getElem_toArray, List.getElem_cons_succ, List.getElem_cons_zero, List.setIfInBounds_toArray, List.set_cons_zero, List.set_cons_succ]
          refine wpAnyH_takeS HNS (i := 1) (v := .pointer (some ⟨w.heap.size, 8, none⟩)) rfl (by kernel_rfl) (by kernel_rfl) (fun _ _ _ h => h) (Or.inl ⟨by kernel_rfl, fun W hW => ?_⟩) hS ?_
          · go_simp
          simp only [Act.put, List.getElem_toArray, List.getElem_cons_succ, List.getElem_cons_zero, List.setIfInBounds_toArray, List.set_cons_zero, List.set_cons_succ]
          refine wpAnyH_takeS HNS (i := 2) (v := .slice a.aq W.cur.length a.cq) rfl (by kernel_rfl) (by kernel_rfl) (fun _ _ _ h => h) (Or.inl ⟨by kernel_rfl, fun W hW => ?_⟩) hS ?_
          · (have hz := Held.below g1 hW; have z0 := hz.cell 8; simp at z0; go_simp)
          simp only [Act.put, List.getElem_toArray, List.getElem_cons_succ, List.getElem_cons_zero, List.setIfInBounds_toArray, List.set_cons_zero, List.set_cons_succ]
          refine wpAnyH_takeS HNS (i := 3) (v := .int .i64 (W.cur.length : Nat)) rfl (by kernel_rfl) (by kernel_rfl) (fun _ _ _ h => h) (Or.inl ⟨by kernel_rfl, fun W hW => ?_⟩) hS ?_
          · go_simp
          simp only [Act.put, List.getElem_toArray, List.getElem_cons_succ, List.getElem_cons_zero, List.setIfInBounds_toArray, List.set_cons_zero, List.set_cons_succ]
          refine wpAnyH_takeS HNS (i := 4) (v := .bool false) rfl (by kernel_rfl) (by kernel_rfl) (fun _ _ _ h => h) (Or.inl ⟨by kernel_rfl, fun W hW => ?_⟩) hS ?_
          · go_simp
          simp only [Act.put, List.getElem_toArray, List.getElem_cons_succ, List.getElem_cons_zero, List.setIfInBounds_toArray, List.set_cons_zero, List.set_cons_succ]
          refine wpAnyH_takeS HNS (i := 5) (v := .bool false) rfl (by kernel_rfl) (by kernel_rfl) (fun _ _ _ h => h) (Or.inl ⟨by kernel_rfl, fun W hW => ?_⟩) hS ?_
          · go_simp
          simp only [Act.put, List.getElem_toArray, List.getElem_cons_succ, List.getElem_cons_zero, List.setIfInBounds_toArray, List.set_cons_zero, List.set_cons_succ]
          refine wpAnyH_takeS HNS (i := 6) (v := undef) rfl (by kernel_rfl) (by kernel_rfl) (fun _ _ _ h => h) (Or.inr ⟨by kernel_rfl, rfl⟩) hS ?_
          simp only [Act.put, List.getElem_toArray, List.getElem_cons_succ, List.getElem_cons_zero, List.setIfInBounds_toArray, List.set_cons_zero, List.set_cons_succ]
          refine wpAnyH_takeS HNS (i := 7) (v := undef) rfl (by kernel_rfl) (by kernel_rfl) (fun _ _ _ h => h) (Or.inr ⟨by kernel_rfl, rfl⟩) hS ?_
          simp only [Act.put, List.getElem_toArray, List.getElem_cons_succ, List.getElem_cons_zero, List.setIfInBounds_toArray, List.set_cons_zero, List.set_cons_succ]
          refine wpAnyH_takeS HNS (i := 8) (v := undef) rfl (by kernel_rfl) (by kernel_rfl) (fun _ _ _ h => h) (Or.inr ⟨by kernel_rfl, rfl⟩) hS ?_
          simp only [Act.put, List.getElem_toArray, List.getElem_cons_succ, List.getElem_cons_zero, List.setIfInBounds_toArray, List.set_cons_zero, List.set_cons_succ]
          refine wpAnyH_takeS HNS (i := 9) (v := undef) rfl (by kernel_rfl) (by kernel_rfl) (fun _ _ _ h => h) (Or.inr ⟨by kernel_rfl, rfl⟩) hS ?_
          simp only [Act.put, List.getElem_toArray, List.getElem_cons_succ, List.getElem_cons_zero, List.setIfInBounds_toArray, List.set_cons_zero, List.set_cons_succ]
          refine wpAnyH_takeS HNS (i := 10) (v := undef) rfl (by kernel_rfl) (by kernel_rfl) (fun _ _ _ h => h) (Or.inr ⟨by kernel_rfl, rfl⟩) hS ?_
          simp only [Act.put, List.getElem_toArray, List.getElem_cons_succ, List.getElem_cons_zero, List.setIfInBounds_toArray, List.set_cons_zero, List.set_cons_succ]
          refine wpAnyH_takeS HNS (i := 11) (v := undef) rfl (by kernel_rfl) (by kernel_rfl) (fun _ _ _ h => h) (Or.inr ⟨by kernel_rfl, rfl⟩) hS ?_
          simp only [Act.put, List.getElem_toArray, List.getElem_cons_succ, List.getElem_cons_zero, List.setIfInBounds_toArray, List.set_cons_zero, List.set_cons_succ]
          refine wpAnyH_takeS HNS (i := 12) (v := undef) rfl (by kernel_rfl) (by kernel_rfl) (fun _ _ _ h => h) (Or.inr ⟨by kernel_rfl, rfl⟩) hS ?_
          simp only [Act.put, List.getElem_toArray, List.getElem_cons_succ, List.getElem_cons_zero, List.setIfInBounds_toArray, List.set_cons_zero, List.set_cons_succ]
          refine wpAnyH_takeS HNS (i := 13) (v := .bool false) rfl (by kernel_rfl) (by kernel_rfl) (fun _ _ _ h => h) (Or.inl ⟨by kernel_rfl, fun W hW => ?_⟩) hS ?_
          · go_simp
          simp only [Act.put, List.getElem_toArray, List.getElem_cons_succ, List.getElem_cons_zero, List.setIfInBounds_toArray, List.set_cons_zero, List.set_cons_succ]
          refine wpAnyH_done (by kernel_rfl) ?_ _
          (repeat (first | go_skip | go_guarded | go_step | go_upon))
          go_meet
          case rel => exact ⟨by rw [hcn]; simp, Below.step HDR.out hS⟩
      case rest =>
        obtain ⟨rfl, hwc⟩ := hcut
        have g1b := g1.below hwc
        obtain ⟨ho0, hbw0, hk0⟩ := HJ2.out
        have hob : OwnR wc w.heap.size (.slice A9 k c9) (readyN W.rings W.cur j) := r_later ho0 hwc
        have hbwb := Below.step hbw0 hwc
        obtain ⟨L, hL⟩ : ∃ L, readyN W.rings W.cur j = L := ⟨_, rfl⟩
        rw [hL] at HST hob hk0
        have HW1 := Lib.hid (And.intro hwc (Nat.le_trans HP.out.2 hbw0.size))
        clear g1 HJ2 ho0 hbw0 hwc hL nr hln hlg
        obtain ⟨IL, hIL⟩ : ∃ l, itemsR rj = l := ⟨_, rfl⟩
        have hIl : IL.length ≤ 1024 := by rw [← hIL]; exact itemsR_le rj
        rw [hIL] at HST
        by_cases hcn : cj = noV
        · subst hcn
          have HST2 : Hid (readyN W.rings W.cur (j + 1) = L ++ IL) := Lib.hid (by rw [HST.out]; rfl)
          have HLK := Lib.hid (show L.length + IL.length ≤ 1000000 by omega)
          have hdn : decide (noV ≠ noV) = false := by simp
          rw [hdn]
          clear hk0 HST hcj hdn
          have IC := Lib.hid (by have h9 := items_r (r := rj) cb wc (HAB.out.below HW1.out.1 HW1.out.2) (Nat.le_trans HP.out.2 hbwb.size); rw [hIL, hnb] at h9; exact h9 : Calls Tryd.prog 21 #[rgv Ab nb cb rj.head rj.many rj.most] wc (ListQ wc IL))
          have HF := Lib.hid (And.intro hob (And.intro hbwb g1b))
          have kn := HKN.out.below HW1.out.1
          clear hob hbwb g1b hrj hIL hnb
          go_wp2_with (first
            | (guard_target = wpList _ _ _ (Oper.mk (some 37) _ _ _ _ none :: _) _ _; refine wpList_load_row rfl 46 _ rfl gV rfl _ _ _ _ kn Tryd.underlying46 rfl (by kernel_rfl) ?_)
            | (go_at_call 21; (with_reducible refine IC.out.mono ?_); rintro _ u ⟨A7, c7, rfl, hi, hbi⟩)
            | (at_builtin; refine wpList_append_rsE rfl _ _ rfl w.heap.size _ L rfl (by have h9 : OwnR u w.heap.size (.slice A9 k c9) L := r_later HF.out.1 hbi; exact h9) (k := IL) (n := IL.length) rfl rfl (own2_at hi) (by have := HLK.out; omega) (Nat.le_trans HF.out.2.1.size hbi.size) ?_; rintro v8 w8 r1 r2 -; obtain ⟨A8, c8, rfl, -⟩ := Own2.lies r1; have R1 := Lib.hid r1; have R2 := Lib.hid r2; clear r1 r2))
          have o9 : OwnR u w.heap.size (.slice A9 k c9) L := r_later HF.out.1 hbi
          have bw9 := (Below.step HF.out.2.1 hbi).trans (below_grow R2.out (fun q e => (World.ownsRow.lt o9 q e).1) (Nat.le_trans HF.out.2.1.size hbi.size))
          have g9 := held_grown (HF.out.2.2.below hbi) R2.out (fun e => r_apart o9 (HF.out.2.2.below hbi) (by decide) _ e rfl)
          have HG := Lib.hid (And.intro bw9 g9)
          clear o9 bw9 g9 HF IC R2 hbi hi kn
          go_roundw
          case rel => exact ⟨j + 1, (L ++ IL).length, A8, c8, by go_num, by rw [List.length_append], by omega, by rw [HST2.out], by rw [HST2.out]; exact R1.out, HG.out.1, HG.out.2⟩
          case measure => simp [intOf]; omega
        · have hc : j < W.cur.length := Nat.lt_of_not_le fun h9 => hcn (by rw [← hcj, List.getD_eq_getElem?_getD, List.getElem?_eq_none h9, Option.getD_none])
          have hc2 : (j : Int) < (W.cur.length : Int) := by omega
          have hp := HP.out.1.below hbwb HP.out.2
          have x8 := g1b.cell 8
          simp at x8
          obtain ⟨bq, offq, e2, hbq0, q0, q1⟩ := pat_cell hp.cur hc
          rw [show W.cur[j] = cj by rw [← hcj, List.getD_eq_getElem?_getD, List.getElem?_eq_getElem hc, Option.getD_some]] at q0 q1
          rw [e2] at x8
          have hdn : decide (cj ≠ noV) = true := decide_eq_true hcn
          rw [hdn]
          have HST2 : Hid (readyN W.rings W.cur (j + 1) = (L ++ [cj]) ++ IL) := Lib.hid (by rw [HST.out, show curL cj = [cj] from if_neg hcn, List.append_assoc])
          have HF := Lib.hid (And.intro hob (And.intro hbwb g1b))
          have HK1 := Lib.hid hk0
          have HBA := Lib.hid ((Below.refl _ _).alloc (Nat.le_refl _) _ : Below wc.heap.size wc (wc.alloc (.cells #[.int .i64 cj.1, .int .i64 cj.2] 33)))
          clear hob hbwb g1b hk0 HST hcj hcn hdn e2 hbq0 hp
          go_upto_region 7 with (at_builtin; (refine wpList_append_rs rfl _ _ rfl w.heap.size _ L rfl (by have h9 : OwnR _ w.heap.size (.slice A9 k c9) L := r_later HF.out.1 HBA.out; exact h9) (k := [cj]) (n := 1) rfl rfl (one2_at cj.1 cj.2) (Nat.le_refl _) (by have := HK1.out; omega) (Nat.le_trans HF.out.2.1.size HBA.out.size) ?_; rintro v6 w6 r1 r2 -; obtain ⟨A6, c6, rfl, -⟩ := Own2.lies r1; have R1 := Lib.hid r1; have R2 := Lib.hid r2; clear r1 r2))
          have o9 : OwnR _ w.heap.size (.slice A9 k c9) L := r_later HF.out.1 HBA.out
          have b19 := below_grow R2.out (fun q e => (World.ownsRow.lt o9 q e).1) (Nat.le_trans HF.out.2.1.size HBA.out.size)
          have bw6 := (Below.step HF.out.2.1 HBA.out).trans b19
          have g6 := held_grown (HF.out.2.2.below HBA.out) R2.out (fun e => r_apart o9 (HF.out.2.2.below HBA.out) (by decide) _ e rfl)
          have kn6 := held_grown ((HKN.out.below HW1.out.1).below HBA.out) R2.out (fun e => r_apart o9 ((HKN.out.below HW1.out.1).below HBA.out) (by decide) _ e rfl)
          have ab6 := ((HAB.out.below HW1.out.1 HW1.out.2).below HBA.out (Nat.le_trans HP.out.2 HF.out.2.1.size)).below b19 HP.out.2
          have o6 : OwnR w6 w.heap.size (.slice A6 (L.length + 1) c6) (L ++ [cj]) := by
            have h9 := R1.out
            rw [List.length_append] at h9
            exact h9
          obtain ⟨k6, hk6⟩ : ∃ n, L.length + 1 = n := ⟨_, rfl⟩
          obtain ⟨L6, hL6⟩ : ∃ l, L ++ [cj] = l := ⟨_, rfl⟩
          simp only [hk6] at o6 ⊢
          have HLK : Hid (L6.length + IL.length ≤ 1000000) := Lib.hid (by rw [← hL6, List.length_append]; have := HK1.out; simp; omega)
          rw [hL6] at o6 HST2
          clear o9 b19 HF HBA R1 R2 HK1 hL6 hk6 x8 q0 q1 HKN HAB
          have HKN := Lib.hid kn6
          have HAB := Lib.hid ab6
          clear kn6 ab6
          have IC := Lib.hid (by have h9 := items_r (r := rj) cb w6 (HAB.out.below (Below.refl w6.heap.size w6) (Nat.le_trans HP.out.2 bw6.size)) (Nat.le_trans HP.out.2 bw6.size); rw [hIL, hnb] at h9; exact h9 : Calls Tryd.prog 21 #[rgv Ab nb cb rj.head rj.many rj.most] w6 (ListQ w6 IL))
          have HF := Lib.hid (And.intro o6 (And.intro bw6 g6))
          have kn := HKN.out.below (Below.refl w6.heap.size w6)
          clear o6 bw6 g6 hrj hIL hnb
          go_wp2_with (first
            | (guard_target = wpList _ _ _ (Oper.mk (some 37) _ _ _ _ none :: _) _ _; refine wpList_load_row rfl 46 _ rfl gV rfl _ _ _ _ kn Tryd.underlying46 rfl (by kernel_rfl) ?_)
            | (go_at_call 21; (with_reducible refine IC.out.mono ?_); rintro _ u ⟨A7, c7, rfl, hi, hbi⟩)
            | (at_builtin; refine wpList_append_rsE rfl _ _ rfl w.heap.size _ L6 rfl (by have h9 : OwnR u w.heap.size (.slice A6 k6 c6) L6 := r_later HF.out.1 hbi; exact h9) (k := IL) (n := IL.length) rfl rfl (own2_at hi) (by have := HLK.out; omega) (Nat.le_trans HF.out.2.1.size hbi.size) ?_; rintro v8 w8 r1 r2 -; obtain ⟨A8, c8, rfl, -⟩ := Own2.lies r1; have R1 := Lib.hid r1; have R2 := Lib.hid r2; clear r1 r2))
          have o9 : OwnR u w.heap.size (.slice A6 k6 c6) L6 := r_later HF.out.1 hbi
          have bw9 := (Below.step HF.out.2.1 hbi).trans (below_grow R2.out (fun q e => (World.ownsRow.lt o9 q e).1) (Nat.le_trans HF.out.2.1.size hbi.size))
          have g9 := held_grown (HF.out.2.2.below hbi) R2.out (fun e => r_apart o9 (HF.out.2.2.below hbi) (by decide) _ e rfl)
          have HG := Lib.hid (And.intro bw9 g9)
          clear o9 bw9 g9 HF IC R2 hbi hi kn
          go_roundw
          case rel => exact ⟨j + 1, (L6 ++ IL).length, A8, c8, by go_num, by rw [List.length_append], by omega, by rw [HST2.out], by rw [HST2.out]; exact R1.out, HG.out.1, HG.out.2⟩
          case measure => simp [intOf]; omega
    · obtain rfl : j = W.rings.length := by omega
      have HF := Lib.hid (And.intro ho (And.intro hbw hk))
      clear ho hbw hk g1
      go_wp2_with fail
      go_ret
      obtain ⟨ho, hbw, hk⟩ := HF.out
      refine ⟨A9, c9, ?_, ?_, hbw⟩
      · unfold readyW; rw [hk]; rfl
      · unfold readyW; rw [hk]; exact ho
theorem ready_w {a : WA} {W : Wld} {B : Nat} (w : World) (hT : TW w) (h : WAt w B a W) (hn1 : W.rings.length ≤ 900) (hn2 : W.cur.length ≤ 1000) (hB : B ≤ w.heap.size) :
    Calls Tryd.prog 8 #[.agg (wcs a W)] w (ListQ w (readyW W)) := by
  by_cases h0 : W.rings.length = 0
  · exact ready_none w h0
  · obtain ⟨b, off, xs, e, _⟩ := h.rings (by omega)
    exact ready_some w hT h e hn1 hn2 hB
end Go.Proofs.YtjibkgildfjjoaaDoor

/- Layer 13: world.Same. -/
namespace Go.Proofs.YtjibkgildfjjoaaDoor
set_option linter.unusedVariables false
set_option linter.unusedSimpArgs false
open Go.RowKit Go.ChangeShapes Go.WideShapes Go.ChangeAt Go.Sort

set_option maxHeartbeats 1000000 in
set_option maxRecDepth 100000 in
theorem eqrf_w {A A2 : Option Addr} {l k : List V} {B B' n m : Nat} (c c2 : Nat) (w : World) (hn : l.length = n) (hm : k.length = m) (h1 : PAt w B A l) (h2 : PAt w B' A2 k) (hl : n ≤ 100000) (hk : m ≤ 100000) :
    Calls Tryd.prog 27 #[.slice A n c, .slice A2 m c2] w fun e w' => e = .returned (.bool (decide (l = k))) ∧ Below w.heap.size w w' := by
  subst hn hm
  have H1 := Lib.hid h1
  have H2 := Lib.hid h2
  clear h1 h2
  by_cases hlen : l.length = k.length
  · have hl2 : (l.length : Int) ≤ 100000 := by omega
    have ne : ((l.length : Int) != (k.length : Int)) = false := by simp [hlen]
    have HLN := Lib.hid hlen
    obtain ⟨R, hR⟩ : ∃ R : Bool, R = decide (l = k) := ⟨_, rfl⟩
    rw [← hR]
    have HR := Lib.hid hR
    clear hR hlen
    go_enter Tryd.func27, Tryd.ntmps27
    go_wp2_with fail
    go_loopw [13] (fun iv W => ∃ j : Nat, iv = .int .i64 j ∧ j ≤ l.length ∧ l.take j = k.take j ∧ Below w.heap.size w W) (fun iv _ => l.length - (intOf iv).toNat)
    case atStart => exact ⟨0, rfl, by omega, by simp, Below.refl _ _⟩
    case round =>
      obtain ⟨j, rfl, hj, htk, hw⟩ := hrel
      have HTK := Lib.hid htk
      clear htk
      by_cases hlt : j < l.length
      · have hltk : j < k.length := by have := HLN.out; omega
        obtain ⟨b1, off1, rfl, _, hc1⟩ := H1.out (by omega)
        obtain ⟨b2, off2, rfl, _, hc2⟩ := H2.out (by omega)
        obtain ⟨a0, a1⟩ := hc1 j hlt
        obtain ⟨d0, d1⟩ := hc2 j hltk
        have lb1 := block_lt_of_cell a0
        replace a0 := (hw.cell (p := ⟨b1, off1 + j * 2, none⟩) lb1).trans a0
        replace a1 := (hw.cell (p := ⟨b1, off1 + j * 2 + 1, none⟩) lb1).trans a1
        have lb2 := block_lt_of_cell d0
        replace d0 := (hw.cell (p := ⟨b2, off2 + j * 2, none⟩) lb2).trans d0
        replace d1 := (hw.cell (p := ⟨b2, off2 + j * 2 + 1, none⟩) lb2).trans d1
        clear hc1 hc2
        have T1 := Lib.hid (List.take_succ_eq_append_getElem hlt)
        have T2 := Lib.hid (List.take_succ_eq_append_getElem hltk)
        have G1 := Lib.hid (List.getElem?_eq_getElem hlt)
        have G2 := Lib.hid (List.getElem?_eq_getElem hltk)
        have hlt2 : (j : Int) < l.length := by omega
        have hltk2 : (j : Int) < k.length := by omega
        have hj0 : (0 : Int) ≤ j := Int.natCast_nonneg j
        generalize l[j] = v at *
        generalize k[j] = u at *
        by_cases hvu : v = u
        · subst hvu
          have NE : ∀ W, (binOp .neq 33 (gv v.1 v.2) (gv v.1 v.2)).run Tryd.prog W = .ok (.bool false) W := fun W => by rw [neqr_run]; simp
          go_wp2_with fail
          go_quiet (fail)
          go_wp2_with fail
          go_roundw
          case rel => exact ⟨j + 1, by go_num, by omega, by rw [T1.out, T2.out, HTK.out], below_drewN hw _⟩
          case measure => simp [intOf]; omega
        · have NE : ∀ W, (binOp .neq 33 (gv v.1 v.2) (gv u.1 u.2)).run Tryd.prog W = .ok (.bool true) W := fun W => by rw [neqr_run, decide_eq_true (show (v.1, v.2) ≠ (u.1, u.2) from hvu)]
          have hno : R = false := by
            rw [HR.out]
            refine decide_eq_false fun e => hvu ?_
            have g1 := G1.out
            rw [e, G2.out] at g1
            exact (Option.some.inj g1).symm
          subst hno
          go_wp2_with fail
          go_quiet (fail)
          go_wp2_with fail
          go_ret
          exact ⟨rfl, below_drewN hw _⟩
      · obtain rfl : j = l.length := by omega
        have hyes : R = true := by
          rw [HR.out]
          refine decide_eq_true ?_
          have h9 := HTK.out
          rwa [List.take_of_length_le (Nat.le_refl _), List.take_of_length_le (by have := HLN.out; omega)] at h9
        subst hyes
        go_wp2_with fail
        go_ret
        exact ⟨rfl, hw⟩
  · have ne : ((l.length : Int) != (k.length : Int)) = true := by simp; omega
    have hno : decide (l = k) = false := decide_eq_false fun e => hlen (by rw [e])
    rw [hno]
    clear hno hlen
    go_enter Tryd.func27, Tryd.ntmps27
    go_wp2_with fail
    go_ret
    exact ⟨rfl, Below.refl _ _⟩
set_option maxHeartbeats 1000000 in
set_option maxRecDepth 100000 in
theorem sameRing_w {B : Nat} {A A' : Option Addr} {r q : Rng} {n m : Nat} (c c' : Nat) (w : World) (hn : r.buf.length = n) (hm : q.buf.length = m) (h : PAt w B A r.buf) (h' : PAt w B A' q.buf) (hz : n ≤ 100000) (hz' : m ≤ 100000) (hB : B ≤ w.heap.size) :
    Calls Tryd.prog 26 #[rgv A n c r.head r.many r.most, rgv A' m c' q.head q.many q.most] w fun e w' => e = .returned (.bool (eqG r q)) ∧ Below w.heap.size w w' := by
  have C := fun W (hw : Below w.heap.size w W) => Lib.hid (eqrf_w c c' W hn hm (h.below hw hB) (h'.below hw hB) hz hz')
  have hdec : eqG r q = ((r.head == q.head) && (r.many == q.many) && (r.most == q.most) && decide (r.buf = q.buf)) := by
    unfold eqG
    cases (r.head == q.head) <;> cases (r.many == q.many) <;> cases (r.most == q.most) <;> simp
  rw [hdec]
  clear hdec h h' hz hz' hn hm
  have hw := below2 w (.cells (rgc A n c r.head r.many r.most) 46) (.cells (rgc A' m c' q.head q.many q.most) 46)
  have C2 := C _ hw
  clear C
  generalize r.head = fa at *
  generalize r.many = fl at *
  generalize r.most = fs at *
  generalize q.head = ga at *
  generalize q.many = gl at *
  generalize q.most = gs at *
  generalize decide (r.buf = q.buf) = x at *
  cases e0 : (fa == ga)
  · go_enter Tryd.func26, Tryd.ntmps26
    go_wp2_with fail
    go_ret
    exact ⟨rfl, hw⟩
  cases e1 : (fl == gl)
  · go_enter Tryd.func26, Tryd.ntmps26
    go_wp2_with fail
    go_ret
    exact ⟨rfl, hw⟩
  cases e2 : (fs == gs)
  · go_enter Tryd.func26, Tryd.ntmps26
    go_wp2_with fail
    go_ret
    exact ⟨rfl, hw⟩
  go_enter Tryd.func26, Tryd.ntmps26
  go_wp2_with (go_at_call 27; (with_reducible refine C2.out.mono ?_); rintro e v ⟨rfl, hb⟩)
  go_ret
  exact ⟨rfl, Below.step hw hb⟩
noncomputable def sameG (p q : List Rng) : Bool := @decide (p = q) (Classical.propDecidable _)
theorem sameG_iff (p q : List Rng) : sameG p q = true ↔ p = q := by unfold sameG; exact @decide_eq_true_iff _ (Classical.propDecidable _)
theorem sameG_no {p q : List Rng} (h : p ≠ q) : sameG p q = false := by
  rw [← Bool.not_eq_true, sameG_iff]
  exact h
set_option maxHeartbeats 2000000 in
set_option maxRecDepth 100000 in
theorem eqrg_w {B : Nat} {A A' : Option Addr} {p q : List Rng} {n m : Nat} (c c' : Nat) (w : World) (hpn : p.length = n) (hqn : q.length = m) (h : GAt w B A p) (h' : GAt w B A' q) (hl : n ≤ 100000) (hb1 : ∀ r ∈ p, r.buf.length ≤ 100000) (hb2 : ∀ r ∈ q, r.buf.length ≤ 100000) (hB : B ≤ w.heap.size) :
    Calls Tryd.prog 25 #[.slice A n c, .slice A' m c', fnv 26] w fun e w' => e = .returned (.bool (sameG p q)) ∧ Below w.heap.size w w' := by
  have HA := Lib.hid h
  have HA' := Lib.hid h'
  have HZ := Lib.hid (And.intro hb1 hb2)
  have HPN := Lib.hid (And.intro hpn hqn)
  clear h h' hb1 hb2
  obtain ⟨R, hR⟩ : ∃ R : Bool, R = sameG p q := ⟨_, rfl⟩
  rw [← hR]
  have HR := Lib.hid hR
  clear hR
  by_cases hlen : n = m
  case neg =>
    have hs : R = false := by rw [HR.out]; exact sameG_no fun e => hlen (by rw [← hpn, ← hqn, e])
    subst hs
    have hl : ((n : Int) != (m : Int)) = true := by simp; omega
    clear hlen hpn hqn
    go_enter Tryd.func25, Tryd.ntmps25
    go_wp2
    go_ret
    exact ⟨rfl, Below.refl _ _⟩
  have hln : ((n : Int) != (m : Int)) = false := by simp; omega
  have HLEN := Lib.hid hlen
  have hlI : (n : Int) ≤ 100000 := by omega
  clear hlen hpn hqn
  go_enter Tryd.func25, Tryd.ntmps25
  go_wp2
  clear hln
  go_loopw [17] (fun i W => ∃ k : Nat, k ≤ n ∧ i = .int .i64 k ∧ (∀ j (h2 : j < p.length) (h3 : j < q.length), j < k → p[j] = q[j]) ∧ Below w.heap.size w W) (fun i _ => n - (intOf i).toNat)
  case atStart => exact ⟨0, by omega, rfl, fun j _ _ hj => absurd hj (by omega), Below.refl _ _⟩
  case round =>
    obtain ⟨k, hk, rfl, hall, hw⟩ := hrel
    have HALL := Lib.hid hall
    clear hall
    have hk0 : (0 : Int) ≤ k := Int.natCast_nonneg k
    by_cases hlt : k < n
    · have hltp : k < p.length := by have := HPN.out.1; omega
      have hltq : k < q.length := by have := HPN.out.2; have := HLEN.out; omega
      have hltI : (k : Int) < (n : Int) := by omega
      have hltI2 : (k : Int) < (m : Int) := by have := HLEN.out; omega
      obtain ⟨b, off, rfl, hbl, A2, c2, hcf, f0, f1, f2, f3⟩ := (HA.out.below hw hB).rng hltp
      obtain ⟨b', off', rfl, hbl', A3, c3, hcg, g0, g1, g2, g3⟩ := (HA'.out.below hw hB).rng hltq
      have hzf := HZ.out.1 _ (List.getElem_mem hltp)
      have hzg := HZ.out.2 _ (List.getElem_mem hltq)
      have hat : p[k] ≠ q[k] → p ≠ q := fun e e2 => e (by simp only [e2])
      have hstep : p[k] = q[k] → ∀ j (h2 : j < p.length) (h3 : j < q.length), j < k + 1 → p[j] = q[j] := fun e j h2 h3 h1 => by
        rcases Nat.lt_succ_iff_lt_or_eq.1 h1 with h | rfl
        · exact HALL.out j h2 h3 h
        · exact e
      generalize p[k] = f at *
      generalize q[k] = g at *
      have HAT := Lib.hid hat
      have HST := Lib.hid hstep
      clear hat hstep
      obtain ⟨nf, hnf⟩ : ∃ n, f.buf.length = n := ⟨_, rfl⟩
      obtain ⟨ng, hng⟩ : ∃ n, g.buf.length = n := ⟨_, rfl⟩
      rw [hnf] at f0 hzf
      rw [hng] at g0 hzg
      have hwz := hw.size
      have hBr : B ≤ wr.heap.size := by omega
      have hbr := below2 wr (.cells (rgc A2 nf c2 f.head f.many f.most) 46) (.cells (rgc A3 ng c3 g.head g.many g.most) 46)
      have C := Lib.hid (sameRing_w (r := f) (q := g) c2 c3 _ hnf hng (hcf.below hbr hBr) (hcg.below hbr hBr) hzf hzg (Nat.le_trans hBr hbr.size))
      obtain ⟨t, ht⟩ : ∃ t, t = eqG f g := ⟨_, rfl⟩
      rw [← ht] at C
      have HT := Lib.hid ht
      clear ht hcf hcg hzf hzg hbr hnf hng
      have hbw : b < wr.heap.size := by omega
      have hbw' : b' < wr.heap.size := by omega
      cases t
      · have hs : R = false := by
          rw [HR.out]
          refine sameG_no (HAT.out (fun e => by
            have := HT.out
            rw [(eqG_iff f g).2 e] at this
            cases this))
        subst hs
        go_wp2_with (go_at_call 26; (with_reducible refine C.out.mono ?_); rintro e v ⟨rfl, hb⟩; replace hw := Below.step hw (Below.step (below2 _ _ _) hb); clear hb)
        go_ret
        exact ⟨rfl, hw⟩
      · have he : f = g := (eqG_iff f g).1 HT.out.symm
        have HE := Lib.hid he
        clear he
        go_wp2_with (go_at_call 26; (with_reducible refine C.out.mono ?_); rintro e v ⟨rfl, hb⟩; replace hw := Below.step hw (Below.step (below2 _ _ _) hb); clear hb)
        go_roundw
        case rel => exact ⟨k + 1, by omega, by go_num, HST.out HE.out, hw⟩
        case measure => simp [intOf]; omega
    · obtain rfl : k = n := by omega
      have hs : R = true := by
        rw [HR.out]
        exact (sameG_iff _ _).2 (List.ext_getElem (by rw [HPN.out.1, HPN.out.2]; exact HLEN.out) fun j h1 h2 => HALL.out j h1 h2 (by have := HPN.out.1; omega))
      subst hs
      go_wp2_with fail
      go_ret
      exact ⟨rfl, hw⟩

end Go.Proofs.YtjibkgildfjjoaaDoor

/- Layer 13: the numbers of a world. -/
namespace Go.Proofs.YtjibkgildfjjoaaDoor
set_option linter.unusedVariables false
set_option linter.unusedSimpArgs false
open Go.RowKit Go.ChangeShapes Go.WideShapes Go.ChangeAt Go.Sort

/-! The numbers of a world. -/
abbrev sclC (W : Wld) : Array Value := #[.int .i64 W.lf, .int .i64 W.lm, .int .i64 W.lr, .int .i64 W.root.1, .int .i64 W.root.2, .int .i64 W.used, .int .i64 W.st, .int .i64 W.otr, .int .i64 W.ore, .int .i64 W.oim, .int .i64 W.err, .int .i64 W.stl, .int .i64 W.mis]
abbrev scz0 : Array Value := #[.int .i64 0, .int .i64 0, .int .i64 0, .int .i64 0, .int .i64 0, .int .i64 0, .int .i64 0, .int .i64 0, .int .i64 0, .int .i64 0, .int .i64 0, .int .i64 0, .int .i64 0]
set_option maxHeartbeats 1000000 in
theorem eq13_run (x0 x1 x2 x3 x4 x5 x6 x7 x8 x9 x10 x11 x12 y0 y1 y2 y3 y4 y5 y6 y7 y8 y9 y10 y11 y12 : Int) (W : World) : (binOp .eql 68 (.agg #[.int .i64 x0, .int .i64 x1, .int .i64 x2, .int .i64 x3, .int .i64 x4, .int .i64 x5, .int .i64 x6, .int .i64 x7, .int .i64 x8, .int .i64 x9, .int .i64 x10, .int .i64 x11, .int .i64 x12]) (.agg #[.int .i64 y0, .int .i64 y1, .int .i64 y2, .int .i64 y3, .int .i64 y4, .int .i64 y5, .int .i64 y6, .int .i64 y7, .int .i64 y8, .int .i64 y9, .int .i64 y10, .int .i64 y11, .int .i64 y12])).run Tryd.prog W = .ok (.bool (decide (x0 = y0 ∧ x1 = y1 ∧ x2 = y2 ∧ x3 = y3 ∧ x4 = y4 ∧ x5 = y5 ∧ x6 = y6 ∧ x7 = y7 ∧ x8 = y8 ∧ x9 = y9 ∧ x10 = y10 ∧ x11 = y11 ∧ x12 = y12))) W := by
  by_cases h0 : x0 = y0
  case neg => simp [go_sem, h0]
  by_cases h1 : x1 = y1
  case neg => simp [go_sem, h0, h1]
  by_cases h2 : x2 = y2
  case neg => simp [go_sem, h0, h1, h2]
  by_cases h3 : x3 = y3
  case neg => simp [go_sem, h0, h1, h2, h3]
  by_cases h4 : x4 = y4
  case neg => simp [go_sem, h0, h1, h2, h3, h4]
  by_cases h5 : x5 = y5
  case neg => simp [go_sem, h0, h1, h2, h3, h4, h5]
  by_cases h6 : x6 = y6
  case neg => simp [go_sem, h0, h1, h2, h3, h4, h5, h6]
  by_cases h7 : x7 = y7
  case neg => simp [go_sem, h0, h1, h2, h3, h4, h5, h6, h7]
  by_cases h8 : x8 = y8
  case neg => simp [go_sem, h0, h1, h2, h3, h4, h5, h6, h7, h8]
  by_cases h9 : x9 = y9
  case neg => simp [go_sem, h0, h1, h2, h3, h4, h5, h6, h7, h8, h9]
  by_cases h10 : x10 = y10
  case neg => simp [go_sem, h0, h1, h2, h3, h4, h5, h6, h7, h8, h9, h10]
  by_cases h11 : x11 = y11
  case neg => simp [go_sem, h0, h1, h2, h3, h4, h5, h6, h7, h8, h9, h10, h11]
  by_cases h12 : x12 = y12
  case neg => simp [go_sem, h0, h1, h2, h3, h4, h5, h6, h7, h8, h9, h10, h11, h12]
  subst h0 h1 h2 h3 h4 h5 h6 h7 h8 h9 h10 h11 h12
  simp [go_sem]
theorem eqscl_run (U V : Wld) (W : World) : (binOp .eql 68 (.agg (sclC U)) (.agg (sclC V))).run Tryd.prog W = .ok (.bool (scalW U V)) W := by
  rw [eq13_run]
  congr 2
  rw [Bool.eq_iff_iff, scalW_iff, decide_eq_true_iff]
  constructor
  · rintro ⟨h1, h2, h3, h4, h5, h6, h7, h8, h9, h10, h11, h12, h13⟩
    exact ⟨h1, h2, h3, Prod.ext h4 h5, h6, h7, h8, h9, h10, h11, h12, h13⟩
  · rintro ⟨h1, h2, h3, h4, h6, h7, h8, h9, h10, h11, h12, h13⟩
    exact ⟨h1, h2, h3, by rw [h4], by rw [h4], h6, h7, h8, h9, h10, h11, h12, h13⟩

set_option maxHeartbeats 1000000 in
set_option maxRecDepth 100000 in
theorem scalars_w (a : WA) (W : Wld) (w : World) : Calls Tryd.prog 22 #[.agg (wcs a W)] w fun e w' => e = .returned (.agg (sclC W)) ∧ Below w.heap.size w w' := by
  have hb0 := below2 w (.cells (wcs a W) 40) (.cells scz0 68)
  have k1 := (Held.new w 40 (wcs a W)).alloc (.cells scz0 68)
  have k2 := Held.new1 w (.cells (wcs a W) 40) 68 scz0
  go_enter Tryd.func22, Tryd.ntmps22
  go_upto_region 1 with (fail)
  generalize (w.alloc (.cells (wcs a W) 40)).alloc (.cells scz0 68) = W0 at *
  have x1 := k1.cell 1
  have x2 := k1.cell 2
  have x3 := k1.cell 3
  have x9 := k1.cell 9
  have x10 := k1.cell 10
  have x11 := k1.cell 11
  have x12 := k1.cell 12
  have x13 := k1.cell 13
  have x14 := k1.cell 14
  have x15 := k1.cell 15
  have x16 := k1.cell 16
  have x17 := k1.cell 17
  have x18 := k1.cell 18
  simp at x1 x2 x3 x9 x10 x11 x12 x13 x14 x15 x16 x17 x18
  go_wp2_with (guard_target = wpList _ _ _ (Oper.mk _ (Op.store 68 (.tmp 2) _) _ _ _ none :: _) _ _; refine wpList_store_row rfl 68 _ _ rfl (w.heap.size + 1) (sclC W) rfl rfl _ _ k2 (by kernel_rfl) rfl (by simp [Value.oneCell']) ?_)
  have l1 := run_loadVar_row (P := Tryd.prog) _ (w.heap.size + 1) 68 68 _ (0, 0) _ (held_rowSelf k2 (sclC W)) Tryd.underlying68 rfl (by kernel_rfl)
  exact bodyPost_ret (results_c0 rfl _ _ rfl l1) rfl ⟨rfl, below_setRow hb0 (Nat.le_succ _) _⟩
theorem exec_eql {ev : Operand → Value} {o : Oper} {t t2 : TypeId} {x y : Operand} {a b : Array Value} {W : World} {r : Value} (hg : Tryd.prog.eqGuardType Tryd.prog.depth t = false) (ho : o.op = .binOp .eql t x y t2) (hx : ev x = .agg a) (hy : ev y = .agg b) (h : (binOp .eql t (.agg a) (.agg b)).run Tryd.prog W = .ok r W) : (execOp ev o).run Tryd.prog W = .ok (.value r) W := by
  unfold execOp
  simp only [ho, hx, hy, Sem.run_bind, run_eqGuard_agg W .eql t x y a b hg, Result.andThen_ok, h, Sem.run_pure]
theorem sameW_eq (U W : Wld) : sameW U W = (scalW U W && sameP U.prog W.prog && decide (U.pen = W.pen) && sameG U.rings W.rings && decide (U.cur = W.cur)) := by
  rw [Bool.eq_iff_iff, sameW_parts]
  simp only [Bool.and_eq_true, decide_eq_true_eq, sameP_iff, sameG_iff]
  constructor
  · rintro ⟨h1, h2, h3, h4, h5, h6⟩
    exact ⟨⟨⟨⟨h6, h3⟩, h4⟩, h5⟩, h2⟩
  · rintro ⟨⟨⟨⟨h6, h3⟩, h4⟩, h5⟩, h2⟩
    exact ⟨by rw [h5], h2, h3, h4, h5, h6⟩
end Go.Proofs.YtjibkgildfjjoaaDoor

/- Layer 13: world.Same. -/
namespace Go.Proofs.YtjibkgildfjjoaaDoor
set_option linter.unusedVariables false
set_option linter.unusedSimpArgs false
open Go.RowKit Go.ChangeShapes Go.WideShapes Go.ChangeAt Go.Sort

set_option maxHeartbeats 8000000 in
set_option maxRecDepth 100000 in
theorem same_w {a b : WA} {U W : Wld} {B : Nat} (w : World) (h : WAt w B a U) (h' : WAt w B b W) (hl : LenW U) (hl' : LenW W) (hB : B ≤ w.heap.size) :
    Calls Tryd.prog 12 #[.agg (wcs a U), .agg (wcs b W)] w fun e w' => e = .returned (.bool (sameW U W)) ∧ Below w.heap.size w w' := by
  have hbw := below2 w (.cells (wcs a U) 40) (.cells (wcs b W) 40)
  have k2 := (Held.new w 40 (wcs a U)).alloc (.cells (wcs b W) 40)
  have k3 := Held.new1 w (.cells (wcs a U) 40) 40 (wcs b W)
  have HP := Lib.hid (And.intro h (And.intro h' hB))
  have HL := Lib.hid (And.intro hl hl')
  obtain ⟨R, hR⟩ : ∃ R, sameW U W = R := ⟨_, rfl⟩
  rw [hR]
  rw [sameW_eq] at hR
  clear h h' hl hl' hB
  go_enter Tryd.func12, Tryd.ntmps12
  go_upto_region 1 with (fail)
  generalize (w.alloc (.cells (wcs a U) 40)).alloc (.cells (wcs b W) 40) = W0 at *
  have PU := fun (u : World) (hb : Below w.heap.size w u) => HP.out.1.below hb HP.out.2.2
  have PW := fun (u : World) (hb : Below w.heap.size w u) => HP.out.2.1.below hb HP.out.2.2
  have BU := fun (u : World) (hb : Below w.heap.size w u) => Nat.le_trans HP.out.2.2 hb.size
  obtain ⟨s1, hs1⟩ : ∃ e, scalW U W = e := ⟨_, rfl⟩
  obtain ⟨e3, he3⟩ : ∃ e, sameP U.prog W.prog = e := ⟨_, rfl⟩
  obtain ⟨e4, he4⟩ : ∃ e, decide (U.pen = W.pen) = e := ⟨_, rfl⟩
  obtain ⟨e5, he5⟩ : ∃ e, sameG U.rings W.rings = e := ⟨_, rfl⟩
  obtain ⟨e6, he6⟩ : ∃ e, decide (U.cur = W.cur) = e := ⟨_, rfl⟩
  rw [hs1, he3, he4, he5, he6] at hR
  have EQS := fun W9 => (eqscl_run U W W9)
  rw [hs1] at EQS
  have HES := Lib.hid EQS
  have C3 := Lib.hid (fun (u : World) (hb : Below w.heap.size w u) => by
    have h9 := csame_any a.cp b.cp u (PU u hb).prog HL.out.1.prog (PW u hb).prog (BU u hb)
    rw [he3] at h9
    exact h9 : ∀ u, Below w.heap.size w u → Calls Tryd.prog 23 #[.slice a.ap U.prog.length a.cp, .slice b.ap W.prog.length b.cp] u fun e w' => e = .returned (.bool e3) ∧ Below u.heap.size u w')
  have C4 := Lib.hid (fun (u : World) (hb : Below w.heap.size w u) => by
    have h9 := same_z a.cc a.cf b.cc b.cf u rfl rfl rfl rfl (PU u hb).pen (PW u hb).pen HL.out.1.pen HL.out.2.pen (BU u hb) (BU u hb)
    rw [he4] at h9
    exact h9 : ∀ u, Below w.heap.size w u → Calls Tryd.prog 24 #[pv a.ac U.pen.cells.length a.cc a.af U.pen.free.length a.cf U.pen.most, pv b.ac W.pen.cells.length b.cc b.af W.pen.free.length b.cf W.pen.most] u fun e w' => e = .returned (.bool e4) ∧ Below u.heap.size u w')
  have C5 := Lib.hid (fun (u : World) (hb : Below w.heap.size w u) => by
    have h9 := eqrg_w a.cr b.cr u rfl rfl (PU u hb).rings (PW u hb).rings (by have := HL.out.1.rings; omega) HL.out.1.buf HL.out.2.buf (BU u hb)
    rw [he5] at h9
    exact h9 : ∀ u, Below w.heap.size w u → Calls Tryd.prog 25 #[.slice a.ar U.rings.length a.cr, .slice b.ar W.rings.length b.cr, fnv 26] u fun e w' => e = .returned (.bool e5) ∧ Below u.heap.size u w')
  have C6 := Lib.hid (fun (u : World) (hb : Below w.heap.size w u) => by
    have h9 := eqrf_w a.cq b.cq u rfl rfl (PU u hb).cur (PW u hb).cur (by have := HL.out.1.cur; omega) (by have := HL.out.2.cur; omega)
    rw [he6] at h9
    exact h9 : ∀ u, Below w.heap.size w u → Calls Tryd.prog 27 #[.slice a.aq U.cur.length a.cq, .slice b.aq W.cur.length b.cq] u fun e w' => e = .returned (.bool e6) ∧ Below u.heap.size u w')
  clear PU PW BU EQS hs1 he3 he4 he5 he6 HL HP
  have HR := Lib.hid hR
  clear hR
  cases s1
  case false =>
    as_aux_lemma =>
      have hdr := (Below.refl W0.heap.size W0).drew
      replace k2 := Held.below k2 hdr
      replace k3 := Held.below k3 hdr
      replace hbw := Below.step hbw hdr
      clear hdr
      refine wp_region_held_drew (S := fun W => Below W0.drew.heap.size W0.drew W) (by kernel_rfl) (Below.refl _ _) (fun hS => ?_)
      generalize W0.drew = Wq at *
      show wpAnyH _ _ _ _ _ 34 #[false, false, false, false, false, false, false, false, false, false, false, false, false, false, false, false, false, false, false, false, false, false, false, false, false, false, false, false, false, false, false, false, false, false] _ _
      refine wpAnyH_begin (by kernel_rfl) (fun HNS => ?_)
      refine wpAnyH_takeS HNS (i := 0) (v := .agg (wcs a U)) rfl (by kernel_rfl) (by kernel_rfl) (fun _ _ _ h => h) (yieldsIf_load_midA (by kernel_rfl) 40 _ rfl (w.heap.size) 0 (by rfl) (wcs a U) _ (fun W hW => rng_held (Held.below k2 hW)) Tryd.underlying40 rfl (by kernel_rfl)) hS ?_
      simp only [Act.put, List.getElem_toArray, List.getElem_cons_succ, List.getElem_cons_zero, List.setIfInBounds_toArray, List.set_cons_zero, List.set_cons_succ]
      refine wpAnyH_takeS HNS (i := 2) (v := .agg (wcs b W)) rfl (by kernel_rfl) (by kernel_rfl) (fun _ _ _ h => h) (yieldsIf_load_midA (by kernel_rfl) 40 _ rfl (w.heap.size + 1) 0 (by rfl) (wcs b W) _ (fun W hW => rng_held (Held.below k3 hW)) Tryd.underlying40 rfl (by kernel_rfl)) hS ?_
      simp only [Act.put, List.getElem_toArray, List.getElem_cons_succ, List.getElem_cons_zero, List.setIfInBounds_toArray, List.set_cons_zero, List.set_cons_succ]
      refine wpAnyH_ready (rs := [1]) (by kernel_rfl) (by simp) ?_
      refine (AllReadyH.cons rfl (fun K hK => ?_) AllReadyH.nil)
      · rw [if_pos (by kernel_rfl)]
        go_simp
        go_at_call 22
        (with_reducible refine (scalars_w a U _).mono ?_)
        rintro _ u1 ⟨rfl, hb1⟩
        replace hS := Below.step hS hb1
        (repeat (first | go_skip | go_guarded | go_step | go_upon))
        refine hK.out _ _ hS (fun _ => ?_)
        clear hK K
        (try simp only [Act.put, List.getElem_toArray, List.getElem_cons_succ, List.getElem_cons_zero, List.setIfInBounds_toArray, List.set_cons_zero, List.set_cons_succ])
        refine wpAnyH_ready (rs := [3]) (by kernel_rfl) (by simp) ?_
        refine (AllReadyH.cons rfl (fun K hK => ?_) AllReadyH.nil)
        · rw [if_pos (by kernel_rfl)]
          go_simp
          go_at_call 22
          (with_reducible refine (scalars_w b W _).mono ?_)
          rintro _ u2 ⟨rfl, hb2⟩
          replace hS := Below.step hS hb2
          (repeat (first | go_skip | go_guarded | go_step | go_upon))
          refine hK.out _ _ hS (fun _ => ?_)
          clear hK K
          (try simp only [Act.put, List.getElem_toArray, List.getElem_cons_succ, List.getElem_cons_zero, List.setIfInBounds_toArray, List.set_cons_zero, List.set_cons_succ])
          refine wpAnyH_takeS HNS (i := 4) (v := .bool false) rfl (by kernel_rfl) (by kernel_rfl) (fun _ _ _ h => h) (Or.inl ⟨by kernel_rfl, fun W hW => ?_⟩) hS ?_
          · exact exec_eql (by kernel_rfl) rfl rfl rfl (HES.out W)
          simp only [Act.put, List.getElem_toArray, List.getElem_cons_succ, List.getElem_cons_zero, List.setIfInBounds_toArray, List.set_cons_zero, List.set_cons_succ]
          refine wpAnyH_takeS HNS (i := 5) (v := .bool false) rfl (by kernel_rfl) (by kernel_rfl) (fun _ _ _ h => h) (Or.inl ⟨by kernel_rfl, fun W hW => ?_⟩) hS ?_
          · go_simp
          simp only [Act.put, List.getElem_toArray, List.getElem_cons_succ, List.getElem_cons_zero, List.setIfInBounds_toArray, List.set_cons_zero, List.set_cons_succ]
          refine wpAnyH_takeS HNS (i := 6) (v := undef) rfl (by kernel_rfl) (by kernel_rfl) (fun _ _ _ h => h) (Or.inr ⟨by kernel_rfl, rfl⟩) hS ?_
          simp only [Act.put, List.getElem_toArray, List.getElem_cons_succ, List.getElem_cons_zero, List.setIfInBounds_toArray, List.set_cons_zero, List.set_cons_succ]
          refine wpAnyH_takeS HNS (i := 7) (v := undef) rfl (by kernel_rfl) (by kernel_rfl) (fun _ _ _ h => h) (Or.inr ⟨by kernel_rfl, rfl⟩) hS ?_
          simp only [Act.put, List.getElem_toArray, List.getElem_cons_succ, List.getElem_cons_zero, List.setIfInBounds_toArray, List.set_cons_zero, List.set_cons_succ]
          refine wpAnyH_takeS HNS (i := 8) (v := undef) rfl (by kernel_rfl) (by kernel_rfl) (fun _ _ _ h => h) (Or.inr ⟨by kernel_rfl, rfl⟩) hS ?_
          simp only [Act.put, List.getElem_toArray, List.getElem_cons_succ, List.getElem_cons_zero, List.setIfInBounds_toArray, List.set_cons_zero, List.set_cons_succ]
          refine wpAnyH_takeS HNS (i := 9) (v := undef) rfl (by kernel_rfl) (by kernel_rfl) (fun _ _ _ h => h) (Or.inr ⟨by kernel_rfl, rfl⟩) hS ?_
          simp only [Act.put, List.getElem_toArray, List.getElem_cons_succ, List.getElem_cons_zero, List.setIfInBounds_toArray, List.set_cons_zero, List.set_cons_succ]
          refine wpAnyH_takeS HNS (i := 10) (v := undef) rfl (by kernel_rfl) (by kernel_rfl) (fun _ _ _ h => h) (Or.inr ⟨by kernel_rfl, rfl⟩) hS ?_
          simp only [Act.put, List.getElem_toArray, List.getElem_cons_succ, List.getElem_cons_zero, List.setIfInBounds_toArray, List.set_cons_zero, List.set_cons_succ]
          refine wpAnyH_takeS HNS (i := 11) (v := .bool false) rfl (by kernel_rfl) (by kernel_rfl) (fun _ _ _ h => h) (Or.inl ⟨by kernel_rfl, fun W hW => ?_⟩) hS ?_
          · go_simp
          simp only [Act.put, List.getElem_toArray, List.getElem_cons_succ, List.getElem_cons_zero, List.setIfInBounds_toArray, List.set_cons_zero, List.set_cons_succ]
          refine wpAnyH_takeS HNS (i := 12) (v := .bool false) rfl (by kernel_rfl) (by kernel_rfl) (fun _ _ _ h => h) (Or.inl ⟨by kernel_rfl, fun W hW => ?_⟩) hS ?_
          · go_simp
          simp only [Act.put, List.getElem_toArray, List.getElem_cons_succ, List.getElem_cons_zero, List.setIfInBounds_toArray, List.set_cons_zero, List.set_cons_succ]
          refine wpAnyH_takeS HNS (i := 13) (v := undef) rfl (by kernel_rfl) (by kernel_rfl) (fun _ _ _ h => h) (Or.inr ⟨by kernel_rfl, rfl⟩) hS ?_
          simp only [Act.put, List.getElem_toArray, List.getElem_cons_succ, List.getElem_cons_zero, List.setIfInBounds_toArray, List.set_cons_zero, List.set_cons_succ]
          refine wpAnyH_takeS HNS (i := 14) (v := undef) rfl (by kernel_rfl) (by kernel_rfl) (fun _ _ _ h => h) (Or.inr ⟨by kernel_rfl, rfl⟩) hS ?_
          simp only [Act.put, List.getElem_toArray, List.getElem_cons_succ, List.getElem_cons_zero, List.setIfInBounds_toArray, List.set_cons_zero, List.set_cons_succ]
          refine wpAnyH_takeS HNS (i := 15) (v := undef) rfl (by kernel_rfl) (by kernel_rfl) (fun _ _ _ h => h) (Or.inr ⟨by kernel_rfl, rfl⟩) hS ?_
          simp only [Act.put, List.getElem_toArray, List.getElem_cons_succ, List.getElem_cons_zero, List.setIfInBounds_toArray, List.set_cons_zero, List.set_cons_succ]
          refine wpAnyH_takeS HNS (i := 16) (v := undef) rfl (by kernel_rfl) (by kernel_rfl) (fun _ _ _ h => h) (Or.inr ⟨by kernel_rfl, rfl⟩) hS ?_
          simp only [Act.put, List.getElem_toArray, List.getElem_cons_succ, List.getElem_cons_zero, List.setIfInBounds_toArray, List.set_cons_zero, List.set_cons_succ]
          refine wpAnyH_takeS HNS (i := 17) (v := undef) rfl (by kernel_rfl) (by kernel_rfl) (fun _ _ _ h => h) (Or.inr ⟨by kernel_rfl, rfl⟩) hS ?_
          simp only [Act.put, List.getElem_toArray, List.getElem_cons_succ, List.getElem_cons_zero, List.setIfInBounds_toArray, List.set_cons_zero, List.set_cons_succ]
          refine wpAnyH_takeS HNS (i := 18) (v := .bool false) rfl (by kernel_rfl) (by kernel_rfl) (fun _ _ _ h => h) (Or.inl ⟨by kernel_rfl, fun W hW => ?_⟩) hS ?_
          · go_simp
          simp only [Act.put, List.getElem_toArray, List.getElem_cons_succ, List.getElem_cons_zero, List.setIfInBounds_toArray, List.set_cons_zero, List.set_cons_succ]
          refine wpAnyH_takeS HNS (i := 19) (v := .bool false) rfl (by kernel_rfl) (by kernel_rfl) (fun _ _ _ h => h) (Or.inl ⟨by kernel_rfl, fun W hW => ?_⟩) hS ?_
          · go_simp
          simp only [Act.put, List.getElem_toArray, List.getElem_cons_succ, List.getElem_cons_zero, List.setIfInBounds_toArray, List.set_cons_zero, List.set_cons_succ]
          refine wpAnyH_takeS HNS (i := 20) (v := undef) rfl (by kernel_rfl) (by kernel_rfl) (fun _ _ _ h => h) (Or.inr ⟨by kernel_rfl, rfl⟩) hS ?_
          simp only [Act.put, List.getElem_toArray, List.getElem_cons_succ, List.getElem_cons_zero, List.setIfInBounds_toArray, List.set_cons_zero, List.set_cons_succ]
          refine wpAnyH_takeS HNS (i := 21) (v := undef) rfl (by kernel_rfl) (by kernel_rfl) (fun _ _ _ h => h) (Or.inr ⟨by kernel_rfl, rfl⟩) hS ?_
          simp only [Act.put, List.getElem_toArray, List.getElem_cons_succ, List.getElem_cons_zero, List.setIfInBounds_toArray, List.set_cons_zero, List.set_cons_succ]
          refine wpAnyH_takeS HNS (i := 22) (v := undef) rfl (by kernel_rfl) (by kernel_rfl) (fun _ _ _ h => h) (Or.inr ⟨by kernel_rfl, rfl⟩) hS ?_
          simp only [Act.put, List.getElem_toArray, List.getElem_cons_succ, List.getElem_cons_zero, List.setIfInBounds_toArray, List.set_cons_zero, List.set_cons_succ]
          refine wpAnyH_takeS HNS (i := 23) (v := undef) rfl (by kernel_rfl) (by kernel_rfl) (fun _ _ _ h => h) (Or.inr ⟨by kernel_rfl, rfl⟩) hS ?_
          simp only [Act.put, List.getElem_toArray, List.getElem_cons_succ, List.getElem_cons_zero, List.setIfInBounds_toArray, List.set_cons_zero, List.set_cons_succ]
          refine wpAnyH_takeS HNS (i := 24) (v := undef) rfl (by kernel_rfl) (by kernel_rfl) (fun _ _ _ h => h) (Or.inr ⟨by kernel_rfl, rfl⟩) hS ?_
          simp only [Act.put, List.getElem_toArray, List.getElem_cons_succ, List.getElem_cons_zero, List.setIfInBounds_toArray, List.set_cons_zero, List.set_cons_succ]
          refine wpAnyH_takeS HNS (i := 25) (v := .bool false) rfl (by kernel_rfl) (by kernel_rfl) (fun _ _ _ h => h) (Or.inl ⟨by kernel_rfl, fun W hW => ?_⟩) hS ?_
          · go_simp
          simp only [Act.put, List.getElem_toArray, List.getElem_cons_succ, List.getElem_cons_zero, List.setIfInBounds_toArray, List.set_cons_zero, List.set_cons_succ]
          refine wpAnyH_takeS HNS (i := 26) (v := .bool false) rfl (by kernel_rfl) (by kernel_rfl) (fun _ _ _ h => h) (Or.inl ⟨by kernel_rfl, fun W hW => ?_⟩) hS ?_
          · go_simp
          simp only [Act.put, List.getElem_toArray, List.getElem_cons_succ, List.getElem_cons_zero, List.setIfInBounds_toArray, List.set_cons_zero, List.set_cons_succ]
          refine wpAnyH_takeS HNS (i := 27) (v := undef) rfl (by kernel_rfl) (by kernel_rfl) (fun _ _ _ h => h) (Or.inr ⟨by kernel_rfl, rfl⟩) hS ?_
          simp only [Act.put, List.getElem_toArray, List.getElem_cons_succ, List.getElem_cons_zero, List.setIfInBounds_toArray, List.set_cons_zero, List.set_cons_succ]
          refine wpAnyH_takeS HNS (i := 28) (v := undef) rfl (by kernel_rfl) (by kernel_rfl) (fun _ _ _ h => h) (Or.inr ⟨by kernel_rfl, rfl⟩) hS ?_
          simp only [Act.put, List.getElem_toArray, List.getElem_cons_succ, List.getElem_cons_zero, List.setIfInBounds_toArray, List.set_cons_zero, List.set_cons_succ]
          refine wpAnyH_takeS HNS (i := 29) (v := undef) rfl (by kernel_rfl) (by kernel_rfl) (fun _ _ _ h => h) (Or.inr ⟨by kernel_rfl, rfl⟩) hS ?_
          simp only [Act.put, List.getElem_toArray, List.getElem_cons_succ, List.getElem_cons_zero, List.setIfInBounds_toArray, List.set_cons_zero, List.set_cons_succ]
          refine wpAnyH_takeS HNS (i := 30) (v := undef) rfl (by kernel_rfl) (by kernel_rfl) (fun _ _ _ h => h) (Or.inr ⟨by kernel_rfl, rfl⟩) hS ?_
          simp only [Act.put, List.getElem_toArray, List.getElem_cons_succ, List.getElem_cons_zero, List.setIfInBounds_toArray, List.set_cons_zero, List.set_cons_succ]
          refine wpAnyH_takeS HNS (i := 31) (v := undef) rfl (by kernel_rfl) (by kernel_rfl) (fun _ _ _ h => h) (Or.inr ⟨by kernel_rfl, rfl⟩) hS ?_
          simp only [Act.put, List.getElem_toArray, List.getElem_cons_succ, List.getElem_cons_zero, List.setIfInBounds_toArray, List.set_cons_zero, List.set_cons_succ]
          refine wpAnyH_takeS HNS (i := 32) (v := .bool false) rfl (by kernel_rfl) (by kernel_rfl) (fun _ _ _ h => h) (Or.inl ⟨by kernel_rfl, fun W hW => ?_⟩) hS ?_
          · go_simp
          simp only [Act.put, List.getElem_toArray, List.getElem_cons_succ, List.getElem_cons_zero, List.setIfInBounds_toArray, List.set_cons_zero, List.set_cons_succ]
          refine wpAnyH_takeS HNS (i := 33) (v := .bool false) rfl (by kernel_rfl) (by kernel_rfl) (fun _ _ _ h => h) (Or.inl ⟨by kernel_rfl, fun W hW => ?_⟩) hS ?_
          · go_simp
          simp only [Act.put, List.getElem_toArray, List.getElem_cons_succ, List.getElem_cons_zero, List.setIfInBounds_toArray, List.set_cons_zero, List.set_cons_succ]
          refine wpAnyH_done (by kernel_rfl) ?_ _
          (repeat (first | go_skip | go_guarded | go_step | go_upon))
          go_ret
          exact ⟨by rw [← HR.out]; rfl, Below.step hbw hS⟩
  cases e3
  case false =>
    as_aux_lemma =>
      have hdr := (Below.refl W0.heap.size W0).drew
      replace k2 := Held.below k2 hdr
      replace k3 := Held.below k3 hdr
      replace hbw := Below.step hbw hdr
      clear hdr
      refine wp_region_held_drew (S := fun W => Below W0.drew.heap.size W0.drew W) (by kernel_rfl) (Below.refl _ _) (fun hS => ?_)
      generalize W0.drew = Wq at *
      show wpAnyH _ _ _ _ _ 34 #[false, false, false, false, false, false, false, false, false, false, false, false, false, false, false, false, false, false, false, false, false, false, false, false, false, false, false, false, false, false, false, false, false, false] _ _
      refine wpAnyH_begin (by kernel_rfl) (fun HNS => ?_)
      refine wpAnyH_takeS HNS (i := 0) (v := .agg (wcs a U)) rfl (by kernel_rfl) (by kernel_rfl) (fun _ _ _ h => h) (yieldsIf_load_midA (by kernel_rfl) 40 _ rfl (w.heap.size) 0 (by rfl) (wcs a U) _ (fun W hW => rng_held (Held.below k2 hW)) Tryd.underlying40 rfl (by kernel_rfl)) hS ?_
      simp only [Act.put, List.getElem_toArray, List.getElem_cons_succ, List.getElem_cons_zero, List.setIfInBounds_toArray, List.set_cons_zero, List.set_cons_succ]
      refine wpAnyH_takeS HNS (i := 2) (v := .agg (wcs b W)) rfl (by kernel_rfl) (by kernel_rfl) (fun _ _ _ h => h) (yieldsIf_load_midA (by kernel_rfl) 40 _ rfl (w.heap.size + 1) 0 (by rfl) (wcs b W) _ (fun W hW => rng_held (Held.below k3 hW)) Tryd.underlying40 rfl (by kernel_rfl)) hS ?_
      simp only [Act.put, List.getElem_toArray, List.getElem_cons_succ, List.getElem_cons_zero, List.setIfInBounds_toArray, List.set_cons_zero, List.set_cons_succ]
      refine wpAnyH_ready (rs := [1]) (by kernel_rfl) (by simp) ?_
      refine (AllReadyH.cons rfl (fun K hK => ?_) AllReadyH.nil)
      · rw [if_pos (by kernel_rfl)]
        go_simp
        go_at_call 22
        (with_reducible refine (scalars_w a U _).mono ?_)
        rintro _ u3 ⟨rfl, hb3⟩
        replace hS := Below.step hS hb3
        (repeat (first | go_skip | go_guarded | go_step | go_upon))
        refine hK.out _ _ hS (fun _ => ?_)
        clear hK K
        (try simp only [Act.put, List.getElem_toArray, List.getElem_cons_succ, List.getElem_cons_zero, List.setIfInBounds_toArray, List.set_cons_zero, List.set_cons_succ])
        refine wpAnyH_ready (rs := [3]) (by kernel_rfl) (by simp) ?_
        refine (AllReadyH.cons rfl (fun K hK => ?_) AllReadyH.nil)
        · rw [if_pos (by kernel_rfl)]
          go_simp
          go_at_call 22
          (with_reducible refine (scalars_w b W _).mono ?_)
          rintro _ u4 ⟨rfl, hb4⟩
          replace hS := Below.step hS hb4
          (repeat (first | go_skip | go_guarded | go_step | go_upon))
          refine hK.out _ _ hS (fun _ => ?_)
          clear hK K
          (try simp only [Act.put, List.getElem_toArray, List.getElem_cons_succ, List.getElem_cons_zero, List.setIfInBounds_toArray, List.set_cons_zero, List.set_cons_succ])
          refine wpAnyH_takeS HNS (i := 4) (v := .bool true) rfl (by kernel_rfl) (by kernel_rfl) (fun _ _ _ h => h) (Or.inl ⟨by kernel_rfl, fun W hW => ?_⟩) hS ?_
          · exact exec_eql (by kernel_rfl) rfl rfl rfl (HES.out W)
          simp only [Act.put, List.getElem_toArray, List.getElem_cons_succ, List.getElem_cons_zero, List.setIfInBounds_toArray, List.set_cons_zero, List.set_cons_succ]
          refine wpAnyH_takeS HNS (i := 5) (v := .bool true) rfl (by kernel_rfl) (by kernel_rfl) (fun _ _ _ h => h) (Or.inl ⟨by kernel_rfl, fun W hW => ?_⟩) hS ?_
          · go_simp
          simp only [Act.put, List.getElem_toArray, List.getElem_cons_succ, List.getElem_cons_zero, List.setIfInBounds_toArray, List.set_cons_zero, List.set_cons_succ]
          refine wpAnyH_takeS HNS (i := 6) (v := .pointer (some ⟨w.heap.size, 0, none⟩)) rfl (by kernel_rfl) (by kernel_rfl) (fun _ _ _ h => h) (Or.inl ⟨by kernel_rfl, fun W hW => ?_⟩) hS ?_
          · go_simp
          simp only [Act.put, List.getElem_toArray, List.getElem_cons_succ, List.getElem_cons_zero, List.setIfInBounds_toArray, List.set_cons_zero, List.set_cons_succ]
          refine wpAnyH_takeS HNS (i := 7) (v := .slice a.ap U.prog.length a.cp) rfl (by kernel_rfl) (by kernel_rfl) (fun _ _ _ h => h) (Or.inl ⟨by kernel_rfl, fun W hW => ?_⟩) hS ?_
          · (have hz := Held.below k2 hW; have z0 := hz.cell 0; simp at z0; go_simp)
          simp only [Act.put, List.getElem_toArray, List.getElem_cons_succ, List.getElem_cons_zero, List.setIfInBounds_toArray, List.set_cons_zero, List.set_cons_succ]
          refine wpAnyH_takeS HNS (i := 8) (v := .pointer (some ⟨w.heap.size + 1, 0, none⟩)) rfl (by kernel_rfl) (by kernel_rfl) (fun _ _ _ h => h) (Or.inl ⟨by kernel_rfl, fun W hW => ?_⟩) hS ?_
          · go_simp
          simp only [Act.put, List.getElem_toArray, List.getElem_cons_succ, List.getElem_cons_zero, List.setIfInBounds_toArray, List.set_cons_zero, List.set_cons_succ]
          refine wpAnyH_takeS HNS (i := 9) (v := .slice b.ap W.prog.length b.cp) rfl (by kernel_rfl) (by kernel_rfl) (fun _ _ _ h => h) (Or.inl ⟨by kernel_rfl, fun W hW => ?_⟩) hS ?_
          · (have hz := Held.below k3 hW; have z0 := hz.cell 0; simp at z0; go_simp)
          simp only [Act.put, List.getElem_toArray, List.getElem_cons_succ, List.getElem_cons_zero, List.setIfInBounds_toArray, List.set_cons_zero, List.set_cons_succ]
          refine wpAnyH_ready (rs := [10]) (by kernel_rfl) (by simp) ?_
          refine (AllReadyH.cons rfl (fun K hK => ?_) AllReadyH.nil)
          · rw [if_pos (by kernel_rfl)]
            go_simp
            go_at_call 23
            (with_reducible refine (C3.out _ (Below.step hbw hS)).mono ?_)
            rintro _ u5 ⟨rfl, hb5⟩
            replace hS := Below.step hS hb5
            (repeat (first | go_skip | go_guarded | go_step | go_upon))
            refine hK.out _ _ hS (fun _ => ?_)
            clear hK K
            (try simp only [Act.put, List.getElem_toArray, List.getElem_cons_succ, List.getElem_cons_zero, List.setIfInBounds_toArray, List.set_cons_zero, List.set_cons_succ])
            refine wpAnyH_takeS HNS (i := 11) (v := .bool false) rfl (by kernel_rfl) (by kernel_rfl) (fun _ _ _ h => h) (Or.inl ⟨by kernel_rfl, fun W hW => ?_⟩) hS ?_
            · go_simp
            simp only [Act.put, List.getElem_toArray, List.getElem_cons_succ, List.getElem_cons_zero, List.setIfInBounds_toArray, List.set_cons_zero, List.set_cons_succ]
            refine wpAnyH_takeS HNS (i := 12) (v := .bool false) rfl (by kernel_rfl) (by kernel_rfl) (fun _ _ _ h => h) (Or.inl ⟨by kernel_rfl, fun W hW => ?_⟩) hS ?_
            · go_simp
            simp only [Act.put, List.getElem_toArray, List.getElem_cons_succ, List.getElem_cons_zero, List.setIfInBounds_toArray, List.set_cons_zero, List.set_cons_succ]
            refine wpAnyH_takeS HNS (i := 13) (v := undef) rfl (by kernel_rfl) (by kernel_rfl) (fun _ _ _ h => h) (Or.inr ⟨by kernel_rfl, rfl⟩) hS ?_
            simp only [Act.put, List.getElem_toArray, List.getElem_cons_succ, List.getElem_cons_zero, List.setIfInBounds_toArray, List.set_cons_zero, List.set_cons_succ]
            refine wpAnyH_takeS HNS (i := 14) (v := undef) rfl (by kernel_rfl) (by kernel_rfl) (fun _ _ _ h => h) (Or.inr ⟨by kernel_rfl, rfl⟩) hS ?_
            simp only [Act.put, List.getElem_toArray, List.getElem_cons_succ, List.getElem_cons_zero, List.setIfInBounds_toArray, List.set_cons_zero, List.set_cons_succ]
            refine wpAnyH_takeS HNS (i := 15) (v := undef) rfl (by kernel_rfl) (by kernel_rfl) (fun _ _ _ h => h) (Or.inr ⟨by kernel_rfl, rfl⟩) hS ?_
            simp only [Act.put, List.getElem_toArray, List.getElem_cons_succ, List.getElem_cons_zero, List.setIfInBounds_toArray, List.set_cons_zero, List.set_cons_succ]
            refine wpAnyH_takeS HNS (i := 16) (v := undef) rfl (by kernel_rfl) (by kernel_rfl) (fun _ _ _ h => h) (Or.inr ⟨by kernel_rfl, rfl⟩) hS ?_
            simp only [Act.put, List.getElem_toArray, List.getElem_cons_succ, List.getElem_cons_zero, List.setIfInBounds_toArray, List.set_cons_zero, List.set_cons_succ]
            refine wpAnyH_takeS HNS (i := 17) (v := undef) rfl (by kernel_rfl) (by kernel_rfl) (fun _ _ _ h => h) (Or.inr ⟨by kernel_rfl, rfl⟩) hS ?_
            simp only [Act.put, List.getElem_toArray, List.getElem_cons_succ, List.getElem_cons_zero, List.setIfInBounds_toArray, List.set_cons_zero, List.set_cons_succ]
            refine wpAnyH_takeS HNS (i := 18) (v := .bool false) rfl (by kernel_rfl) (by kernel_rfl) (fun _ _ _ h => h) (Or.inl ⟨by kernel_rfl, fun W hW => ?_⟩) hS ?_
            · go_simp
            simp only [Act.put, List.getElem_toArray, List.getElem_cons_succ, List.getElem_cons_zero, List.setIfInBounds_toArray, List.set_cons_zero, List.set_cons_succ]
            refine wpAnyH_takeS HNS (i := 19) (v := .bool false) rfl (by kernel_rfl) (by kernel_rfl) (fun _ _ _ h => h) (Or.inl ⟨by kernel_rfl, fun W hW => ?_⟩) hS ?_
            · go_simp
            simp only [Act.put, List.getElem_toArray, List.getElem_cons_succ, List.getElem_cons_zero, List.setIfInBounds_toArray, List.set_cons_zero, List.set_cons_succ]
            refine wpAnyH_takeS HNS (i := 20) (v := undef) rfl (by kernel_rfl) (by kernel_rfl) (fun _ _ _ h => h) (Or.inr ⟨by kernel_rfl, rfl⟩) hS ?_
            simp only [Act.put, List.getElem_toArray, List.getElem_cons_succ, List.getElem_cons_zero, List.setIfInBounds_toArray, List.set_cons_zero, List.set_cons_succ]
            refine wpAnyH_takeS HNS (i := 21) (v := undef) rfl (by kernel_rfl) (by kernel_rfl) (fun _ _ _ h => h) (Or.inr ⟨by kernel_rfl, rfl⟩) hS ?_
            simp only [Act.put, List.getElem_toArray, List.getElem_cons_succ, List.getElem_cons_zero, List.setIfInBounds_toArray, List.set_cons_zero, List.set_cons_succ]
            refine wpAnyH_takeS HNS (i := 22) (v := undef) rfl (by kernel_rfl) (by kernel_rfl) (fun _ _ _ h => h) (Or.inr ⟨by kernel_rfl, rfl⟩) hS ?_
            simp only [Act.put, List.getElem_toArray, List.getElem_cons_succ, List.getElem_cons_zero, List.setIfInBounds_toArray, List.set_cons_zero, List.set_cons_succ]
            refine wpAnyH_takeS HNS (i := 23) (v := undef) rfl (by kernel_rfl) (by kernel_rfl) (fun _ _ _ h => h) (Or.inr ⟨by kernel_rfl, rfl⟩) hS ?_
            simp only [Act.put, List.getElem_toArray, List.getElem_cons_succ, List.getElem_cons_zero, List.setIfInBounds_toArray, List.set_cons_zero, List.set_cons_succ]
            refine wpAnyH_takeS HNS (i := 24) (v := undef) rfl (by kernel_rfl) (by kernel_rfl) (fun _ _ _ h => h) (Or.inr ⟨by kernel_rfl, rfl⟩) hS ?_
            simp only [Act.put, List.getElem_toArray, List.getElem_cons_succ, List.getElem_cons_zero, List.setIfInBounds_toArray, List.set_cons_zero, List.set_cons_succ]
            refine wpAnyH_takeS HNS (i := 25) (v := .bool false) rfl (by kernel_rfl) (by kernel_rfl) (fun _ _ _ h => h) (Or.inl ⟨by kernel_rfl, fun W hW => ?_⟩) hS ?_
            · go_simp
            simp only [Act.put, List.getElem_toArray, List.getElem_cons_succ, List.getElem_cons_zero, List.setIfInBounds_toArray, List.set_cons_zero, List.set_cons_succ]
            refine wpAnyH_takeS HNS (i := 26) (v := .bool false) rfl (by kernel_rfl) (by kernel_rfl) (fun _ _ _ h => h) (Or.inl ⟨by kernel_rfl, fun W hW => ?_⟩) hS ?_
            · go_simp
            simp only [Act.put, List.getElem_toArray, List.getElem_cons_succ, List.getElem_cons_zero, List.setIfInBounds_toArray, List.set_cons_zero, List.set_cons_succ]
            refine wpAnyH_takeS HNS (i := 27) (v := undef) rfl (by kernel_rfl) (by kernel_rfl) (fun _ _ _ h => h) (Or.inr ⟨by kernel_rfl, rfl⟩) hS ?_
            simp only [Act.put, List.getElem_toArray, List.getElem_cons_succ, List.getElem_cons_zero, List.setIfInBounds_toArray, List.set_cons_zero, List.set_cons_succ]
            refine wpAnyH_takeS HNS (i := 28) (v := undef) rfl (by kernel_rfl) (by kernel_rfl) (fun _ _ _ h => h) (Or.inr ⟨by kernel_rfl, rfl⟩) hS ?_
            simp only [Act.put, List.getElem_toArray, List.getElem_cons_succ, List.getElem_cons_zero, List.setIfInBounds_toArray, List.set_cons_zero, List.set_cons_succ]
            refine wpAnyH_takeS HNS (i := 29) (v := undef) rfl (by kernel_rfl) (by kernel_rfl) (fun _ _ _ h => h) (Or.inr ⟨by kernel_rfl, rfl⟩) hS ?_
            simp only [Act.put, List.getElem_toArray, List.getElem_cons_succ, List.getElem_cons_zero, List.setIfInBounds_toArray, List.set_cons_zero, List.set_cons_succ]
            refine wpAnyH_takeS HNS (i := 30) (v := undef) rfl (by kernel_rfl) (by kernel_rfl) (fun _ _ _ h => h) (Or.inr ⟨by kernel_rfl, rfl⟩) hS ?_
            simp only [Act.put, List.getElem_toArray, List.getElem_cons_succ, List.getElem_cons_zero, List.setIfInBounds_toArray, List.set_cons_zero, List.set_cons_succ]
            refine wpAnyH_takeS HNS (i := 31) (v := undef) rfl (by kernel_rfl) (by kernel_rfl) (fun _ _ _ h => h) (Or.inr ⟨by kernel_rfl, rfl⟩) hS ?_
            simp only [Act.put, List.getElem_toArray, List.getElem_cons_succ, List.getElem_cons_zero, List.setIfInBounds_toArray, List.set_cons_zero, List.set_cons_succ]
            refine wpAnyH_takeS HNS (i := 32) (v := .bool false) rfl (by kernel_rfl) (by kernel_rfl) (fun _ _ _ h => h) (Or.inl ⟨by kernel_rfl, fun W hW => ?_⟩) hS ?_
            · go_simp
            simp only [Act.put, List.getElem_toArray, List.getElem_cons_succ, List.getElem_cons_zero, List.setIfInBounds_toArray, List.set_cons_zero, List.set_cons_succ]
            refine wpAnyH_takeS HNS (i := 33) (v := .bool false) rfl (by kernel_rfl) (by kernel_rfl) (fun _ _ _ h => h) (Or.inl ⟨by kernel_rfl, fun W hW => ?_⟩) hS ?_
            · go_simp
            simp only [Act.put, List.getElem_toArray, List.getElem_cons_succ, List.getElem_cons_zero, List.setIfInBounds_toArray, List.set_cons_zero, List.set_cons_succ]
            refine wpAnyH_done (by kernel_rfl) ?_ _
            (repeat (first | go_skip | go_guarded | go_step | go_upon))
            go_ret
            exact ⟨by rw [← HR.out]; rfl, Below.step hbw hS⟩
  cases e4
  case false =>
    as_aux_lemma =>
      have hdr := (Below.refl W0.heap.size W0).drew
      replace k2 := Held.below k2 hdr
      replace k3 := Held.below k3 hdr
      replace hbw := Below.step hbw hdr
      clear hdr
      refine wp_region_held_drew (S := fun W => Below W0.drew.heap.size W0.drew W) (by kernel_rfl) (Below.refl _ _) (fun hS => ?_)
      generalize W0.drew = Wq at *
      show wpAnyH _ _ _ _ _ 34 #[false, false, false, false, false, false, false, false, false, false, false, false, false, false, false, false, false, false, false, false, false, false, false, false, false, false, false, false, false, false, false, false, false, false] _ _
      refine wpAnyH_begin (by kernel_rfl) (fun HNS => ?_)
      refine wpAnyH_takeS HNS (i := 0) (v := .agg (wcs a U)) rfl (by kernel_rfl) (by kernel_rfl) (fun _ _ _ h => h) (yieldsIf_load_midA (by kernel_rfl) 40 _ rfl (w.heap.size) 0 (by rfl) (wcs a U) _ (fun W hW => rng_held (Held.below k2 hW)) Tryd.underlying40 rfl (by kernel_rfl)) hS ?_
      simp only [Act.put, List.getElem_toArray, List.getElem_cons_succ, List.getElem_cons_zero, List.setIfInBounds_toArray, List.set_cons_zero, List.set_cons_succ]
      refine wpAnyH_takeS HNS (i := 2) (v := .agg (wcs b W)) rfl (by kernel_rfl) (by kernel_rfl) (fun _ _ _ h => h) (yieldsIf_load_midA (by kernel_rfl) 40 _ rfl (w.heap.size + 1) 0 (by rfl) (wcs b W) _ (fun W hW => rng_held (Held.below k3 hW)) Tryd.underlying40 rfl (by kernel_rfl)) hS ?_
      simp only [Act.put, List.getElem_toArray, List.getElem_cons_succ, List.getElem_cons_zero, List.setIfInBounds_toArray, List.set_cons_zero, List.set_cons_succ]
      refine wpAnyH_ready (rs := [1]) (by kernel_rfl) (by simp) ?_
      refine (AllReadyH.cons rfl (fun K hK => ?_) AllReadyH.nil)
      · rw [if_pos (by kernel_rfl)]
        go_simp
        go_at_call 22
        (with_reducible refine (scalars_w a U _).mono ?_)
        rintro _ u6 ⟨rfl, hb6⟩
        replace hS := Below.step hS hb6
        (repeat (first | go_skip | go_guarded | go_step | go_upon))
        refine hK.out _ _ hS (fun _ => ?_)
        clear hK K
        (try simp only [Act.put, List.getElem_toArray, List.getElem_cons_succ, List.getElem_cons_zero, List.setIfInBounds_toArray, List.set_cons_zero, List.set_cons_succ])
        refine wpAnyH_ready (rs := [3]) (by kernel_rfl) (by simp) ?_
        refine (AllReadyH.cons rfl (fun K hK => ?_) AllReadyH.nil)
        · rw [if_pos (by kernel_rfl)]
          go_simp
          go_at_call 22
          (with_reducible refine (scalars_w b W _).mono ?_)
          rintro _ u7 ⟨rfl, hb7⟩
          replace hS := Below.step hS hb7
          (repeat (first | go_skip | go_guarded | go_step | go_upon))
          refine hK.out _ _ hS (fun _ => ?_)
          clear hK K
          (try simp only [Act.put, List.getElem_toArray, List.getElem_cons_succ, List.getElem_cons_zero, List.setIfInBounds_toArray, List.set_cons_zero, List.set_cons_succ])
          refine wpAnyH_takeS HNS (i := 4) (v := .bool true) rfl (by kernel_rfl) (by kernel_rfl) (fun _ _ _ h => h) (Or.inl ⟨by kernel_rfl, fun W hW => ?_⟩) hS ?_
          · exact exec_eql (by kernel_rfl) rfl rfl rfl (HES.out W)
          simp only [Act.put, List.getElem_toArray, List.getElem_cons_succ, List.getElem_cons_zero, List.setIfInBounds_toArray, List.set_cons_zero, List.set_cons_succ]
          refine wpAnyH_takeS HNS (i := 5) (v := .bool true) rfl (by kernel_rfl) (by kernel_rfl) (fun _ _ _ h => h) (Or.inl ⟨by kernel_rfl, fun W hW => ?_⟩) hS ?_
          · go_simp
          simp only [Act.put, List.getElem_toArray, List.getElem_cons_succ, List.getElem_cons_zero, List.setIfInBounds_toArray, List.set_cons_zero, List.set_cons_succ]
          refine wpAnyH_takeS HNS (i := 6) (v := .pointer (some ⟨w.heap.size, 0, none⟩)) rfl (by kernel_rfl) (by kernel_rfl) (fun _ _ _ h => h) (Or.inl ⟨by kernel_rfl, fun W hW => ?_⟩) hS ?_
          · go_simp
          simp only [Act.put, List.getElem_toArray, List.getElem_cons_succ, List.getElem_cons_zero, List.setIfInBounds_toArray, List.set_cons_zero, List.set_cons_succ]
          refine wpAnyH_takeS HNS (i := 7) (v := .slice a.ap U.prog.length a.cp) rfl (by kernel_rfl) (by kernel_rfl) (fun _ _ _ h => h) (Or.inl ⟨by kernel_rfl, fun W hW => ?_⟩) hS ?_
          · (have hz := Held.below k2 hW; have z0 := hz.cell 0; simp at z0; go_simp)
          simp only [Act.put, List.getElem_toArray, List.getElem_cons_succ, List.getElem_cons_zero, List.setIfInBounds_toArray, List.set_cons_zero, List.set_cons_succ]
          refine wpAnyH_takeS HNS (i := 8) (v := .pointer (some ⟨w.heap.size + 1, 0, none⟩)) rfl (by kernel_rfl) (by kernel_rfl) (fun _ _ _ h => h) (Or.inl ⟨by kernel_rfl, fun W hW => ?_⟩) hS ?_
          · go_simp
          simp only [Act.put, List.getElem_toArray, List.getElem_cons_succ, List.getElem_cons_zero, List.setIfInBounds_toArray, List.set_cons_zero, List.set_cons_succ]
          refine wpAnyH_takeS HNS (i := 9) (v := .slice b.ap W.prog.length b.cp) rfl (by kernel_rfl) (by kernel_rfl) (fun _ _ _ h => h) (Or.inl ⟨by kernel_rfl, fun W hW => ?_⟩) hS ?_
          · (have hz := Held.below k3 hW; have z0 := hz.cell 0; simp at z0; go_simp)
          simp only [Act.put, List.getElem_toArray, List.getElem_cons_succ, List.getElem_cons_zero, List.setIfInBounds_toArray, List.set_cons_zero, List.set_cons_succ]
          refine wpAnyH_ready (rs := [10]) (by kernel_rfl) (by simp) ?_
          refine (AllReadyH.cons rfl (fun K hK => ?_) AllReadyH.nil)
          · rw [if_pos (by kernel_rfl)]
            go_simp
            go_at_call 23
            (with_reducible refine (C3.out _ (Below.step hbw hS)).mono ?_)
            rintro _ u8 ⟨rfl, hb8⟩
            replace hS := Below.step hS hb8
            (repeat (first | go_skip | go_guarded | go_step | go_upon))
            refine hK.out _ _ hS (fun _ => ?_)
            clear hK K
            (try simp only [Act.put, List.getElem_toArray, List.getElem_cons_succ, List.getElem_cons_zero, List.setIfInBounds_toArray, List.set_cons_zero, List.set_cons_succ])
            refine wpAnyH_takeS HNS (i := 11) (v := .bool true) rfl (by kernel_rfl) (by kernel_rfl) (fun _ _ _ h => h) (Or.inl ⟨by kernel_rfl, fun W hW => ?_⟩) hS ?_
            · go_simp
            simp only [Act.put, List.getElem_toArray, List.getElem_cons_succ, List.getElem_cons_zero, List.setIfInBounds_toArray, List.set_cons_zero, List.set_cons_succ]
            refine wpAnyH_takeS HNS (i := 12) (v := .bool true) rfl (by kernel_rfl) (by kernel_rfl) (fun _ _ _ h => h) (Or.inl ⟨by kernel_rfl, fun W hW => ?_⟩) hS ?_
            · go_simp
            simp only [Act.put, List.getElem_toArray, List.getElem_cons_succ, List.getElem_cons_zero, List.setIfInBounds_toArray, List.set_cons_zero, List.set_cons_succ]
            refine wpAnyH_takeS HNS (i := 13) (v := .pointer (some ⟨w.heap.size, 4, none⟩)) rfl (by kernel_rfl) (by kernel_rfl) (fun _ _ _ h => h) (Or.inl ⟨by kernel_rfl, fun W hW => ?_⟩) hS ?_
            · go_simp
            simp only [Act.put, List.getElem_toArray, List.getElem_cons_succ, List.getElem_cons_zero, List.setIfInBounds_toArray, List.set_cons_zero, List.set_cons_succ]
            refine wpAnyH_takeS HNS (i := 14) (v := .agg (pc a.ac U.pen.cells.length a.cc a.af U.pen.free.length a.cf U.pen.most)) rfl (by kernel_rfl) (by kernel_rfl) (fun _ _ _ h => h) (Or.inl ⟨by kernel_rfl, fun W hW => ?_⟩) hS ?_
            · (have hz := Held.below k2 hW; have z4 := hz.cell 4; have z5 := hz.cell 5; have z6 := hz.cell 6; simp at z4 z5 z6; go_simp)
            simp only [Act.put, List.getElem_toArray, List.getElem_cons_succ, List.getElem_cons_zero, List.setIfInBounds_toArray, List.set_cons_zero, List.set_cons_succ]
            refine wpAnyH_takeS HNS (i := 15) (v := .pointer (some ⟨w.heap.size + 1, 4, none⟩)) rfl (by kernel_rfl) (by kernel_rfl) (fun _ _ _ h => h) (Or.inl ⟨by kernel_rfl, fun W hW => ?_⟩) hS ?_
            · go_simp
            simp only [Act.put, List.getElem_toArray, List.getElem_cons_succ, List.getElem_cons_zero, List.setIfInBounds_toArray, List.set_cons_zero, List.set_cons_succ]
            refine wpAnyH_takeS HNS (i := 16) (v := .agg (pc b.ac W.pen.cells.length b.cc b.af W.pen.free.length b.cf W.pen.most)) rfl (by kernel_rfl) (by kernel_rfl) (fun _ _ _ h => h) (Or.inl ⟨by kernel_rfl, fun W hW => ?_⟩) hS ?_
            · (have hz := Held.below k3 hW; have z4 := hz.cell 4; have z5 := hz.cell 5; have z6 := hz.cell 6; simp at z4 z5 z6; go_simp)
            simp only [Act.put, List.getElem_toArray, List.getElem_cons_succ, List.getElem_cons_zero, List.setIfInBounds_toArray, List.set_cons_zero, List.set_cons_succ]
            refine wpAnyH_ready (rs := [17]) (by kernel_rfl) (by simp) ?_
            refine (AllReadyH.cons rfl (fun K hK => ?_) AllReadyH.nil)
            · rw [if_pos (by kernel_rfl)]
              go_simp
              go_at_call 24
              (with_reducible refine (C4.out _ (Below.step hbw hS)).mono ?_)
              rintro _ u9 ⟨rfl, hb9⟩
              replace hS := Below.step hS hb9
              (repeat (first | go_skip | go_guarded | go_step | go_upon))
              refine hK.out _ _ hS (fun _ => ?_)
              clear hK K
              (try simp only [Act.put, List.getElem_toArray, List.getElem_cons_succ, List.getElem_cons_zero, List.setIfInBounds_toArray, List.set_cons_zero, List.set_cons_succ])
              refine wpAnyH_takeS HNS (i := 18) (v := .bool false) rfl (by kernel_rfl) (by kernel_rfl) (fun _ _ _ h => h) (Or.inl ⟨by kernel_rfl, fun W hW => ?_⟩) hS ?_
              · go_simp
              simp only [Act.put, List.getElem_toArray, List.getElem_cons_succ, List.getElem_cons_zero, List.setIfInBounds_toArray, List.set_cons_zero, List.set_cons_succ]
              refine wpAnyH_takeS HNS (i := 19) (v := .bool false) rfl (by kernel_rfl) (by kernel_rfl) (fun _ _ _ h => h) (Or.inl ⟨by kernel_rfl, fun W hW => ?_⟩) hS ?_
              · go_simp
              simp only [Act.put, List.getElem_toArray, List.getElem_cons_succ, List.getElem_cons_zero, List.setIfInBounds_toArray, List.set_cons_zero, List.set_cons_succ]
              refine wpAnyH_takeS HNS (i := 20) (v := undef) rfl (by kernel_rfl) (by kernel_rfl) (fun _ _ _ h => h) (Or.inr ⟨by kernel_rfl, rfl⟩) hS ?_
              simp only [Act.put, List.getElem_toArray, List.getElem_cons_succ, List.getElem_cons_zero, List.setIfInBounds_toArray, List.set_cons_zero, List.set_cons_succ]
              refine wpAnyH_takeS HNS (i := 21) (v := undef) rfl (by kernel_rfl) (by kernel_rfl) (fun _ _ _ h => h) (Or.inr ⟨by kernel_rfl, rfl⟩) hS ?_
              simp only [Act.put, List.getElem_toArray, List.getElem_cons_succ, List.getElem_cons_zero, List.setIfInBounds_toArray, List.set_cons_zero, List.set_cons_succ]
              refine wpAnyH_takeS HNS (i := 22) (v := undef) rfl (by kernel_rfl) (by kernel_rfl) (fun _ _ _ h => h) (Or.inr ⟨by kernel_rfl, rfl⟩) hS ?_
              simp only [Act.put, List.getElem_toArray, List.getElem_cons_succ, List.getElem_cons_zero, List.setIfInBounds_toArray, List.set_cons_zero, List.set_cons_succ]
              refine wpAnyH_takeS HNS (i := 23) (v := undef) rfl (by kernel_rfl) (by kernel_rfl) (fun _ _ _ h => h) (Or.inr ⟨by kernel_rfl, rfl⟩) hS ?_
              simp only [Act.put, List.getElem_toArray, List.getElem_cons_succ, List.getElem_cons_zero, List.setIfInBounds_toArray, List.set_cons_zero, List.set_cons_succ]
              refine wpAnyH_takeS HNS (i := 24) (v := undef) rfl (by kernel_rfl) (by kernel_rfl) (fun _ _ _ h => h) (Or.inr ⟨by kernel_rfl, rfl⟩) hS ?_
              simp only [Act.put, List.getElem_toArray, List.getElem_cons_succ, List.getElem_cons_zero, List.setIfInBounds_toArray, List.set_cons_zero, List.set_cons_succ]
              refine wpAnyH_takeS HNS (i := 25) (v := .bool false) rfl (by kernel_rfl) (by kernel_rfl) (fun _ _ _ h => h) (Or.inl ⟨by kernel_rfl, fun W hW => ?_⟩) hS ?_
              · go_simp
              simp only [Act.put, List.getElem_toArray, List.getElem_cons_succ, List.getElem_cons_zero, List.setIfInBounds_toArray, List.set_cons_zero, List.set_cons_succ]
              refine wpAnyH_takeS HNS (i := 26) (v := .bool false) rfl (by kernel_rfl) (by kernel_rfl) (fun _ _ _ h => h) (Or.inl ⟨by kernel_rfl, fun W hW => ?_⟩) hS ?_
              · go_simp
              simp only [Act.put, List.getElem_toArray, List.getElem_cons_succ, List.getElem_cons_zero, List.setIfInBounds_toArray, List.set_cons_zero, List.set_cons_succ]
              refine wpAnyH_takeS HNS (i := 27) (v := undef) rfl (by kernel_rfl) (by kernel_rfl) (fun _ _ _ h => h) (Or.inr ⟨by kernel_rfl, rfl⟩) hS ?_
              simp only [Act.put, List.getElem_toArray, List.getElem_cons_succ, List.getElem_cons_zero, List.setIfInBounds_toArray, List.set_cons_zero, List.set_cons_succ]
              refine wpAnyH_takeS HNS (i := 28) (v := undef) rfl (by kernel_rfl) (by kernel_rfl) (fun _ _ _ h => h) (Or.inr ⟨by kernel_rfl, rfl⟩) hS ?_
              simp only [Act.put, List.getElem_toArray, List.getElem_cons_succ, List.getElem_cons_zero, List.setIfInBounds_toArray, List.set_cons_zero, List.set_cons_succ]
              refine wpAnyH_takeS HNS (i := 29) (v := undef) rfl (by kernel_rfl) (by kernel_rfl) (fun _ _ _ h => h) (Or.inr ⟨by kernel_rfl, rfl⟩) hS ?_
              simp only [Act.put, List.getElem_toArray, List.getElem_cons_succ, List.getElem_cons_zero, List.setIfInBounds_toArray, List.set_cons_zero, List.set_cons_succ]
              refine wpAnyH_takeS HNS (i := 30) (v := undef) rfl (by kernel_rfl) (by kernel_rfl) (fun _ _ _ h => h) (Or.inr ⟨by kernel_rfl, rfl⟩) hS ?_
              simp only [Act.put, List.getElem_toArray, List.getElem_cons_succ, List.getElem_cons_zero, List.setIfInBounds_toArray, List.set_cons_zero, List.set_cons_succ]
              refine wpAnyH_takeS HNS (i := 31) (v := undef) rfl (by kernel_rfl) (by kernel_rfl) (fun _ _ _ h => h) (Or.inr ⟨by kernel_rfl, rfl⟩) hS ?_
              simp only [Act.put, List.getElem_toArray, List.getElem_cons_succ, List.getElem_cons_zero, List.setIfInBounds_toArray, List.set_cons_zero, List.set_cons_succ]
              refine wpAnyH_takeS HNS (i := 32) (v := .bool false) rfl (by kernel_rfl) (by kernel_rfl) (fun _ _ _ h => h) (Or.inl ⟨by kernel_rfl, fun W hW => ?_⟩) hS ?_
              · go_simp
              simp only [Act.put, List.getElem_toArray, List.getElem_cons_succ, List.getElem_cons_zero, List.setIfInBounds_toArray, List.set_cons_zero, List.set_cons_succ]
              refine wpAnyH_takeS HNS (i := 33) (v := .bool false) rfl (by kernel_rfl) (by kernel_rfl) (fun _ _ _ h => h) (Or.inl ⟨by kernel_rfl, fun W hW => ?_⟩) hS ?_
              · go_simp
              simp only [Act.put, List.getElem_toArray, List.getElem_cons_succ, List.getElem_cons_zero, List.setIfInBounds_toArray, List.set_cons_zero, List.set_cons_succ]
              refine wpAnyH_done (by kernel_rfl) ?_ _
              (repeat (first | go_skip | go_guarded | go_step | go_upon))
              go_ret
              exact ⟨by rw [← HR.out]; rfl, Below.step hbw hS⟩
  cases e5
  case false =>
    as_aux_lemma =>
      have hdr := (Below.refl W0.heap.size W0).drew
      replace k2 := Held.below k2 hdr
      replace k3 := Held.below k3 hdr
      replace hbw := Below.step hbw hdr
      clear hdr
      refine wp_region_held_drew (S := fun W => Below W0.drew.heap.size W0.drew W) (by kernel_rfl) (Below.refl _ _) (fun hS => ?_)
      generalize W0.drew = Wq at *
      show wpAnyH _ _ _ _ _ 34 #[false, false, false, false, false, false, false, false, false, false, false, false, false, false, false, false, false, false, false, false, false, false, false, false, false, false, false, false, false, false, false, false, false, false] _ _
      refine wpAnyH_begin (by kernel_rfl) (fun HNS => ?_)
      refine wpAnyH_takeS HNS (i := 0) (v := .agg (wcs a U)) rfl (by kernel_rfl) (by kernel_rfl) (fun _ _ _ h => h) (yieldsIf_load_midA (by kernel_rfl) 40 _ rfl (w.heap.size) 0 (by rfl) (wcs a U) _ (fun W hW => rng_held (Held.below k2 hW)) Tryd.underlying40 rfl (by kernel_rfl)) hS ?_
      simp only [Act.put, List.getElem_toArray, List.getElem_cons_succ, List.getElem_cons_zero, List.setIfInBounds_toArray, List.set_cons_zero, List.set_cons_succ]
      refine wpAnyH_takeS HNS (i := 2) (v := .agg (wcs b W)) rfl (by kernel_rfl) (by kernel_rfl) (fun _ _ _ h => h) (yieldsIf_load_midA (by kernel_rfl) 40 _ rfl (w.heap.size + 1) 0 (by rfl) (wcs b W) _ (fun W hW => rng_held (Held.below k3 hW)) Tryd.underlying40 rfl (by kernel_rfl)) hS ?_
      simp only [Act.put, List.getElem_toArray, List.getElem_cons_succ, List.getElem_cons_zero, List.setIfInBounds_toArray, List.set_cons_zero, List.set_cons_succ]
      refine wpAnyH_ready (rs := [1]) (by kernel_rfl) (by simp) ?_
      refine (AllReadyH.cons rfl (fun K hK => ?_) AllReadyH.nil)
      · rw [if_pos (by kernel_rfl)]
        go_simp
        go_at_call 22
        (with_reducible refine (scalars_w a U _).mono ?_)
        rintro _ u10 ⟨rfl, hb10⟩
        replace hS := Below.step hS hb10
        (repeat (first | go_skip | go_guarded | go_step | go_upon))
        refine hK.out _ _ hS (fun _ => ?_)
        clear hK K
        (try simp only [Act.put, List.getElem_toArray, List.getElem_cons_succ, List.getElem_cons_zero, List.setIfInBounds_toArray, List.set_cons_zero, List.set_cons_succ])
        refine wpAnyH_ready (rs := [3]) (by kernel_rfl) (by simp) ?_
        refine (AllReadyH.cons rfl (fun K hK => ?_) AllReadyH.nil)
        · rw [if_pos (by kernel_rfl)]
          go_simp
          go_at_call 22
          (with_reducible refine (scalars_w b W _).mono ?_)
          rintro _ u11 ⟨rfl, hb11⟩
          replace hS := Below.step hS hb11
          (repeat (first | go_skip | go_guarded | go_step | go_upon))
          refine hK.out _ _ hS (fun _ => ?_)
          clear hK K
          (try simp only [Act.put, List.getElem_toArray, List.getElem_cons_succ, List.getElem_cons_zero, List.setIfInBounds_toArray, List.set_cons_zero, List.set_cons_succ])
          refine wpAnyH_takeS HNS (i := 4) (v := .bool true) rfl (by kernel_rfl) (by kernel_rfl) (fun _ _ _ h => h) (Or.inl ⟨by kernel_rfl, fun W hW => ?_⟩) hS ?_
          · exact exec_eql (by kernel_rfl) rfl rfl rfl (HES.out W)
          simp only [Act.put, List.getElem_toArray, List.getElem_cons_succ, List.getElem_cons_zero, List.setIfInBounds_toArray, List.set_cons_zero, List.set_cons_succ]
          refine wpAnyH_takeS HNS (i := 5) (v := .bool true) rfl (by kernel_rfl) (by kernel_rfl) (fun _ _ _ h => h) (Or.inl ⟨by kernel_rfl, fun W hW => ?_⟩) hS ?_
          · go_simp
          simp only [Act.put, List.getElem_toArray, List.getElem_cons_succ, List.getElem_cons_zero, List.setIfInBounds_toArray, List.set_cons_zero, List.set_cons_succ]
          refine wpAnyH_takeS HNS (i := 6) (v := .pointer (some ⟨w.heap.size, 0, none⟩)) rfl (by kernel_rfl) (by kernel_rfl) (fun _ _ _ h => h) (Or.inl ⟨by kernel_rfl, fun W hW => ?_⟩) hS ?_
          · go_simp
          simp only [Act.put, List.getElem_toArray, List.getElem_cons_succ, List.getElem_cons_zero, List.setIfInBounds_toArray, List.set_cons_zero, List.set_cons_succ]
          refine wpAnyH_takeS HNS (i := 7) (v := .slice a.ap U.prog.length a.cp) rfl (by kernel_rfl) (by kernel_rfl) (fun _ _ _ h => h) (Or.inl ⟨by kernel_rfl, fun W hW => ?_⟩) hS ?_
          · (have hz := Held.below k2 hW; have z0 := hz.cell 0; simp at z0; go_simp)
          simp only [Act.put, List.getElem_toArray, List.getElem_cons_succ, List.getElem_cons_zero, List.setIfInBounds_toArray, List.set_cons_zero, List.set_cons_succ]
          refine wpAnyH_takeS HNS (i := 8) (v := .pointer (some ⟨w.heap.size + 1, 0, none⟩)) rfl (by kernel_rfl) (by kernel_rfl) (fun _ _ _ h => h) (Or.inl ⟨by kernel_rfl, fun W hW => ?_⟩) hS ?_
          · go_simp
          simp only [Act.put, List.getElem_toArray, List.getElem_cons_succ, List.getElem_cons_zero, List.setIfInBounds_toArray, List.set_cons_zero, List.set_cons_succ]
          refine wpAnyH_takeS HNS (i := 9) (v := .slice b.ap W.prog.length b.cp) rfl (by kernel_rfl) (by kernel_rfl) (fun _ _ _ h => h) (Or.inl ⟨by kernel_rfl, fun W hW => ?_⟩) hS ?_
          · (have hz := Held.below k3 hW; have z0 := hz.cell 0; simp at z0; go_simp)
          simp only [Act.put, List.getElem_toArray, List.getElem_cons_succ, List.getElem_cons_zero, List.setIfInBounds_toArray, List.set_cons_zero, List.set_cons_succ]
          refine wpAnyH_ready (rs := [10]) (by kernel_rfl) (by simp) ?_
          refine (AllReadyH.cons rfl (fun K hK => ?_) AllReadyH.nil)
          · rw [if_pos (by kernel_rfl)]
            go_simp
            go_at_call 23
            (with_reducible refine (C3.out _ (Below.step hbw hS)).mono ?_)
            rintro _ u12 ⟨rfl, hb12⟩
            replace hS := Below.step hS hb12
            (repeat (first | go_skip | go_guarded | go_step | go_upon))
            refine hK.out _ _ hS (fun _ => ?_)
            clear hK K
            (try simp only [Act.put, List.getElem_toArray, List.getElem_cons_succ, List.getElem_cons_zero, List.setIfInBounds_toArray, List.set_cons_zero, List.set_cons_succ])
            refine wpAnyH_takeS HNS (i := 11) (v := .bool true) rfl (by kernel_rfl) (by kernel_rfl) (fun _ _ _ h => h) (Or.inl ⟨by kernel_rfl, fun W hW => ?_⟩) hS ?_
            · go_simp
            simp only [Act.put, List.getElem_toArray, List.getElem_cons_succ, List.getElem_cons_zero, List.setIfInBounds_toArray, List.set_cons_zero, List.set_cons_succ]
            refine wpAnyH_takeS HNS (i := 12) (v := .bool true) rfl (by kernel_rfl) (by kernel_rfl) (fun _ _ _ h => h) (Or.inl ⟨by kernel_rfl, fun W hW => ?_⟩) hS ?_
            · go_simp
            simp only [Act.put, List.getElem_toArray, List.getElem_cons_succ, List.getElem_cons_zero, List.setIfInBounds_toArray, List.set_cons_zero, List.set_cons_succ]
            refine wpAnyH_takeS HNS (i := 13) (v := .pointer (some ⟨w.heap.size, 4, none⟩)) rfl (by kernel_rfl) (by kernel_rfl) (fun _ _ _ h => h) (Or.inl ⟨by kernel_rfl, fun W hW => ?_⟩) hS ?_
            · go_simp
            simp only [Act.put, List.getElem_toArray, List.getElem_cons_succ, List.getElem_cons_zero, List.setIfInBounds_toArray, List.set_cons_zero, List.set_cons_succ]
            refine wpAnyH_takeS HNS (i := 14) (v := .agg (pc a.ac U.pen.cells.length a.cc a.af U.pen.free.length a.cf U.pen.most)) rfl (by kernel_rfl) (by kernel_rfl) (fun _ _ _ h => h) (Or.inl ⟨by kernel_rfl, fun W hW => ?_⟩) hS ?_
            · (have hz := Held.below k2 hW; have z4 := hz.cell 4; have z5 := hz.cell 5; have z6 := hz.cell 6; simp at z4 z5 z6; go_simp)
            simp only [Act.put, List.getElem_toArray, List.getElem_cons_succ, List.getElem_cons_zero, List.setIfInBounds_toArray, List.set_cons_zero, List.set_cons_succ]
            refine wpAnyH_takeS HNS (i := 15) (v := .pointer (some ⟨w.heap.size + 1, 4, none⟩)) rfl (by kernel_rfl) (by kernel_rfl) (fun _ _ _ h => h) (Or.inl ⟨by kernel_rfl, fun W hW => ?_⟩) hS ?_
            · go_simp
            simp only [Act.put, List.getElem_toArray, List.getElem_cons_succ, List.getElem_cons_zero, List.setIfInBounds_toArray, List.set_cons_zero, List.set_cons_succ]
            refine wpAnyH_takeS HNS (i := 16) (v := .agg (pc b.ac W.pen.cells.length b.cc b.af W.pen.free.length b.cf W.pen.most)) rfl (by kernel_rfl) (by kernel_rfl) (fun _ _ _ h => h) (Or.inl ⟨by kernel_rfl, fun W hW => ?_⟩) hS ?_
            · (have hz := Held.below k3 hW; have z4 := hz.cell 4; have z5 := hz.cell 5; have z6 := hz.cell 6; simp at z4 z5 z6; go_simp)
            simp only [Act.put, List.getElem_toArray, List.getElem_cons_succ, List.getElem_cons_zero, List.setIfInBounds_toArray, List.set_cons_zero, List.set_cons_succ]
            refine wpAnyH_ready (rs := [17]) (by kernel_rfl) (by simp) ?_
            refine (AllReadyH.cons rfl (fun K hK => ?_) AllReadyH.nil)
            · rw [if_pos (by kernel_rfl)]
              go_simp
              go_at_call 24
              (with_reducible refine (C4.out _ (Below.step hbw hS)).mono ?_)
              rintro _ u13 ⟨rfl, hb13⟩
              replace hS := Below.step hS hb13
              (repeat (first | go_skip | go_guarded | go_step | go_upon))
              refine hK.out _ _ hS (fun _ => ?_)
              clear hK K
              (try simp only [Act.put, List.getElem_toArray, List.getElem_cons_succ, List.getElem_cons_zero, List.setIfInBounds_toArray, List.set_cons_zero, List.set_cons_succ])
              refine wpAnyH_takeS HNS (i := 18) (v := .bool true) rfl (by kernel_rfl) (by kernel_rfl) (fun _ _ _ h => h) (Or.inl ⟨by kernel_rfl, fun W hW => ?_⟩) hS ?_
              · go_simp
              simp only [Act.put, List.getElem_toArray, List.getElem_cons_succ, List.getElem_cons_zero, List.setIfInBounds_toArray, List.set_cons_zero, List.set_cons_succ]
              refine wpAnyH_takeS HNS (i := 19) (v := .bool true) rfl (by kernel_rfl) (by kernel_rfl) (fun _ _ _ h => h) (Or.inl ⟨by kernel_rfl, fun W hW => ?_⟩) hS ?_
              · go_simp
              simp only [Act.put, List.getElem_toArray, List.getElem_cons_succ, List.getElem_cons_zero, List.setIfInBounds_toArray, List.set_cons_zero, List.set_cons_succ]
              refine wpAnyH_takeS HNS (i := 20) (v := .pointer (some ⟨w.heap.size, 7, none⟩)) rfl (by kernel_rfl) (by kernel_rfl) (fun _ _ _ h => h) (Or.inl ⟨by kernel_rfl, fun W hW => ?_⟩) hS ?_
              · go_simp
              simp only [Act.put, List.getElem_toArray, List.getElem_cons_succ, List.getElem_cons_zero, List.setIfInBounds_toArray, List.set_cons_zero, List.set_cons_succ]
              refine wpAnyH_takeS HNS (i := 21) (v := .slice a.ar U.rings.length a.cr) rfl (by kernel_rfl) (by kernel_rfl) (fun _ _ _ h => h) (Or.inl ⟨by kernel_rfl, fun W hW => ?_⟩) hS ?_
              · (have hz := Held.below k2 hW; have z7 := hz.cell 7; simp at z7; go_simp)
              simp only [Act.put, List.getElem_toArray, List.getElem_cons_succ, List.getElem_cons_zero, List.setIfInBounds_toArray, List.set_cons_zero, List.set_cons_succ]
              refine wpAnyH_takeS HNS (i := 22) (v := .pointer (some ⟨w.heap.size + 1, 7, none⟩)) rfl (by kernel_rfl) (by kernel_rfl) (fun _ _ _ h => h) (Or.inl ⟨by kernel_rfl, fun W hW => ?_⟩) hS ?_
              · go_simp
              simp only [Act.put, List.getElem_toArray, List.getElem_cons_succ, List.getElem_cons_zero, List.setIfInBounds_toArray, List.set_cons_zero, List.set_cons_succ]
              refine wpAnyH_takeS HNS (i := 23) (v := .slice b.ar W.rings.length b.cr) rfl (by kernel_rfl) (by kernel_rfl) (fun _ _ _ h => h) (Or.inl ⟨by kernel_rfl, fun W hW => ?_⟩) hS ?_
              · (have hz := Held.below k3 hW; have z7 := hz.cell 7; simp at z7; go_simp)
              simp only [Act.put, List.getElem_toArray, List.getElem_cons_succ, List.getElem_cons_zero, List.setIfInBounds_toArray, List.set_cons_zero, List.set_cons_succ]
              refine wpAnyH_ready (rs := [24]) (by kernel_rfl) (by simp) ?_
              refine (AllReadyH.cons rfl (fun K hK => ?_) AllReadyH.nil)
              · rw [if_pos (by kernel_rfl)]
                go_simp
                go_at_call 25
                (with_reducible refine (C5.out _ (Below.step hbw hS)).mono ?_)
                rintro _ u14 ⟨rfl, hb14⟩
                replace hS := Below.step hS hb14
                (repeat (first | go_skip | go_guarded | go_step | go_upon))
                refine hK.out _ _ hS (fun _ => ?_)
                clear hK K
                (try simp only [Act.put, List.getElem_toArray, List.getElem_cons_succ, List.getElem_cons_zero, List.setIfInBounds_toArray, List.set_cons_zero, List.set_cons_succ])
                refine wpAnyH_takeS HNS (i := 25) (v := .bool false) rfl (by kernel_rfl) (by kernel_rfl) (fun _ _ _ h => h) (Or.inl ⟨by kernel_rfl, fun W hW => ?_⟩) hS ?_
                · go_simp
                simp only [Act.put, List.getElem_toArray, List.getElem_cons_succ, List.getElem_cons_zero, List.setIfInBounds_toArray, List.set_cons_zero, List.set_cons_succ]
                refine wpAnyH_takeS HNS (i := 26) (v := .bool false) rfl (by kernel_rfl) (by kernel_rfl) (fun _ _ _ h => h) (Or.inl ⟨by kernel_rfl, fun W hW => ?_⟩) hS ?_
                · go_simp
                simp only [Act.put, List.getElem_toArray, List.getElem_cons_succ, List.getElem_cons_zero, List.setIfInBounds_toArray, List.set_cons_zero, List.set_cons_succ]
                refine wpAnyH_takeS HNS (i := 27) (v := undef) rfl (by kernel_rfl) (by kernel_rfl) (fun _ _ _ h => h) (Or.inr ⟨by kernel_rfl, rfl⟩) hS ?_
                simp only [Act.put, List.getElem_toArray, List.getElem_cons_succ, List.getElem_cons_zero, List.setIfInBounds_toArray, List.set_cons_zero, List.set_cons_succ]
                refine wpAnyH_takeS HNS (i := 28) (v := undef) rfl (by kernel_rfl) (by kernel_rfl) (fun _ _ _ h => h) (Or.inr ⟨by kernel_rfl, rfl⟩) hS ?_
                simp only [Act.put, List.getElem_toArray, List.getElem_cons_succ, List.getElem_cons_zero, List.setIfInBounds_toArray, List.set_cons_zero, List.set_cons_succ]
                refine wpAnyH_takeS HNS (i := 29) (v := undef) rfl (by kernel_rfl) (by kernel_rfl) (fun _ _ _ h => h) (Or.inr ⟨by kernel_rfl, rfl⟩) hS ?_
                simp only [Act.put, List.getElem_toArray, List.getElem_cons_succ, List.getElem_cons_zero, List.setIfInBounds_toArray, List.set_cons_zero, List.set_cons_succ]
                refine wpAnyH_takeS HNS (i := 30) (v := undef) rfl (by kernel_rfl) (by kernel_rfl) (fun _ _ _ h => h) (Or.inr ⟨by kernel_rfl, rfl⟩) hS ?_
                simp only [Act.put, List.getElem_toArray, List.getElem_cons_succ, List.getElem_cons_zero, List.setIfInBounds_toArray, List.set_cons_zero, List.set_cons_succ]
                refine wpAnyH_takeS HNS (i := 31) (v := undef) rfl (by kernel_rfl) (by kernel_rfl) (fun _ _ _ h => h) (Or.inr ⟨by kernel_rfl, rfl⟩) hS ?_
                simp only [Act.put, List.getElem_toArray, List.getElem_cons_succ, List.getElem_cons_zero, List.setIfInBounds_toArray, List.set_cons_zero, List.set_cons_succ]
                refine wpAnyH_takeS HNS (i := 32) (v := .bool false) rfl (by kernel_rfl) (by kernel_rfl) (fun _ _ _ h => h) (Or.inl ⟨by kernel_rfl, fun W hW => ?_⟩) hS ?_
                · go_simp
                simp only [Act.put, List.getElem_toArray, List.getElem_cons_succ, List.getElem_cons_zero, List.setIfInBounds_toArray, List.set_cons_zero, List.set_cons_succ]
                refine wpAnyH_takeS HNS (i := 33) (v := .bool false) rfl (by kernel_rfl) (by kernel_rfl) (fun _ _ _ h => h) (Or.inl ⟨by kernel_rfl, fun W hW => ?_⟩) hS ?_
                · go_simp
                simp only [Act.put, List.getElem_toArray, List.getElem_cons_succ, List.getElem_cons_zero, List.setIfInBounds_toArray, List.set_cons_zero, List.set_cons_succ]
                refine wpAnyH_done (by kernel_rfl) ?_ _
                (repeat (first | go_skip | go_guarded | go_step | go_upon))
                go_ret
                exact ⟨by rw [← HR.out]; rfl, Below.step hbw hS⟩
  cases e6
  case false =>
    as_aux_lemma =>
      have hdr := (Below.refl W0.heap.size W0).drew
      replace k2 := Held.below k2 hdr
      replace k3 := Held.below k3 hdr
      replace hbw := Below.step hbw hdr
      clear hdr
      refine wp_region_held_drew (S := fun W => Below W0.drew.heap.size W0.drew W) (by kernel_rfl) (Below.refl _ _) (fun hS => ?_)
      generalize W0.drew = Wq at *
      show wpAnyH _ _ _ _ _ 34 #[false, false, false, false, false, false, false, false, false, false, false, false, false, false, false, false, false, false, false, false, false, false, false, false, false, false, false, false, false, false, false, false, false, false] _ _
      refine wpAnyH_begin (by kernel_rfl) (fun HNS => ?_)
      refine wpAnyH_takeS HNS (i := 0) (v := .agg (wcs a U)) rfl (by kernel_rfl) (by kernel_rfl) (fun _ _ _ h => h) (yieldsIf_load_midA (by kernel_rfl) 40 _ rfl (w.heap.size) 0 (by rfl) (wcs a U) _ (fun W hW => rng_held (Held.below k2 hW)) Tryd.underlying40 rfl (by kernel_rfl)) hS ?_
      simp only [Act.put, List.getElem_toArray, List.getElem_cons_succ, List.getElem_cons_zero, List.setIfInBounds_toArray, List.set_cons_zero, List.set_cons_succ]
      refine wpAnyH_takeS HNS (i := 2) (v := .agg (wcs b W)) rfl (by kernel_rfl) (by kernel_rfl) (fun _ _ _ h => h) (yieldsIf_load_midA (by kernel_rfl) 40 _ rfl (w.heap.size + 1) 0 (by rfl) (wcs b W) _ (fun W hW => rng_held (Held.below k3 hW)) Tryd.underlying40 rfl (by kernel_rfl)) hS ?_
      simp only [Act.put, List.getElem_toArray, List.getElem_cons_succ, List.getElem_cons_zero, List.setIfInBounds_toArray, List.set_cons_zero, List.set_cons_succ]
      refine wpAnyH_ready (rs := [1]) (by kernel_rfl) (by simp) ?_
      refine (AllReadyH.cons rfl (fun K hK => ?_) AllReadyH.nil)
      · rw [if_pos (by kernel_rfl)]
        go_simp
        go_at_call 22
        (with_reducible refine (scalars_w a U _).mono ?_)
        rintro _ u15 ⟨rfl, hb15⟩
        replace hS := Below.step hS hb15
        (repeat (first | go_skip | go_guarded | go_step | go_upon))
        refine hK.out _ _ hS (fun _ => ?_)
        clear hK K
        (try simp only [Act.put, List.getElem_toArray, List.getElem_cons_succ, List.getElem_cons_zero, List.setIfInBounds_toArray, List.set_cons_zero, List.set_cons_succ])
        refine wpAnyH_ready (rs := [3]) (by kernel_rfl) (by simp) ?_
        refine (AllReadyH.cons rfl (fun K hK => ?_) AllReadyH.nil)
        · rw [if_pos (by kernel_rfl)]
          go_simp
          go_at_call 22
          (with_reducible refine (scalars_w b W _).mono ?_)
          rintro _ u16 ⟨rfl, hb16⟩
          replace hS := Below.step hS hb16
          (repeat (first | go_skip | go_guarded | go_step | go_upon))
          refine hK.out _ _ hS (fun _ => ?_)
          clear hK K
          (try simp only [Act.put, List.getElem_toArray, List.getElem_cons_succ, List.getElem_cons_zero, List.setIfInBounds_toArray, List.set_cons_zero, List.set_cons_succ])
          refine wpAnyH_takeS HNS (i := 4) (v := .bool true) rfl (by kernel_rfl) (by kernel_rfl) (fun _ _ _ h => h) (Or.inl ⟨by kernel_rfl, fun W hW => ?_⟩) hS ?_
          · exact exec_eql (by kernel_rfl) rfl rfl rfl (HES.out W)
          simp only [Act.put, List.getElem_toArray, List.getElem_cons_succ, List.getElem_cons_zero, List.setIfInBounds_toArray, List.set_cons_zero, List.set_cons_succ]
          refine wpAnyH_takeS HNS (i := 5) (v := .bool true) rfl (by kernel_rfl) (by kernel_rfl) (fun _ _ _ h => h) (Or.inl ⟨by kernel_rfl, fun W hW => ?_⟩) hS ?_
          · go_simp
          simp only [Act.put, List.getElem_toArray, List.getElem_cons_succ, List.getElem_cons_zero, List.setIfInBounds_toArray, List.set_cons_zero, List.set_cons_succ]
          refine wpAnyH_takeS HNS (i := 6) (v := .pointer (some ⟨w.heap.size, 0, none⟩)) rfl (by kernel_rfl) (by kernel_rfl) (fun _ _ _ h => h) (Or.inl ⟨by kernel_rfl, fun W hW => ?_⟩) hS ?_
          · go_simp
          simp only [Act.put, List.getElem_toArray, List.getElem_cons_succ, List.getElem_cons_zero, List.setIfInBounds_toArray, List.set_cons_zero, List.set_cons_succ]
          refine wpAnyH_takeS HNS (i := 7) (v := .slice a.ap U.prog.length a.cp) rfl (by kernel_rfl) (by kernel_rfl) (fun _ _ _ h => h) (Or.inl ⟨by kernel_rfl, fun W hW => ?_⟩) hS ?_
          · (have hz := Held.below k2 hW; have z0 := hz.cell 0; simp at z0; go_simp)
          simp only [Act.put, List.getElem_toArray, List.getElem_cons_succ, List.getElem_cons_zero, List.setIfInBounds_toArray, List.set_cons_zero, List.set_cons_succ]
          refine wpAnyH_takeS HNS (i := 8) (v := .pointer (some ⟨w.heap.size + 1, 0, none⟩)) rfl (by kernel_rfl) (by kernel_rfl) (fun _ _ _ h => h) (Or.inl ⟨by kernel_rfl, fun W hW => ?_⟩) hS ?_
          · go_simp
          simp only [Act.put, List.getElem_toArray, List.getElem_cons_succ, List.getElem_cons_zero, List.setIfInBounds_toArray, List.set_cons_zero, List.set_cons_succ]
          refine wpAnyH_takeS HNS (i := 9) (v := .slice b.ap W.prog.length b.cp) rfl (by kernel_rfl) (by kernel_rfl) (fun _ _ _ h => h) (Or.inl ⟨by kernel_rfl, fun W hW => ?_⟩) hS ?_
          · (have hz := Held.below k3 hW; have z0 := hz.cell 0; simp at z0; go_simp)
          simp only [Act.put, List.getElem_toArray, List.getElem_cons_succ, List.getElem_cons_zero, List.setIfInBounds_toArray, List.set_cons_zero, List.set_cons_succ]
          refine wpAnyH_ready (rs := [10]) (by kernel_rfl) (by simp) ?_
          refine (AllReadyH.cons rfl (fun K hK => ?_) AllReadyH.nil)
          · rw [if_pos (by kernel_rfl)]
            go_simp
            go_at_call 23
            (with_reducible refine (C3.out _ (Below.step hbw hS)).mono ?_)
            rintro _ u17 ⟨rfl, hb17⟩
            replace hS := Below.step hS hb17
            (repeat (first | go_skip | go_guarded | go_step | go_upon))
            refine hK.out _ _ hS (fun _ => ?_)
            clear hK K
            (try simp only [Act.put, List.getElem_toArray, List.getElem_cons_succ, List.getElem_cons_zero, List.setIfInBounds_toArray, List.set_cons_zero, List.set_cons_succ])
            refine wpAnyH_takeS HNS (i := 11) (v := .bool true) rfl (by kernel_rfl) (by kernel_rfl) (fun _ _ _ h => h) (Or.inl ⟨by kernel_rfl, fun W hW => ?_⟩) hS ?_
            · go_simp
            simp only [Act.put, List.getElem_toArray, List.getElem_cons_succ, List.getElem_cons_zero, List.setIfInBounds_toArray, List.set_cons_zero, List.set_cons_succ]
            refine wpAnyH_takeS HNS (i := 12) (v := .bool true) rfl (by kernel_rfl) (by kernel_rfl) (fun _ _ _ h => h) (Or.inl ⟨by kernel_rfl, fun W hW => ?_⟩) hS ?_
            · go_simp
            simp only [Act.put, List.getElem_toArray, List.getElem_cons_succ, List.getElem_cons_zero, List.setIfInBounds_toArray, List.set_cons_zero, List.set_cons_succ]
            refine wpAnyH_takeS HNS (i := 13) (v := .pointer (some ⟨w.heap.size, 4, none⟩)) rfl (by kernel_rfl) (by kernel_rfl) (fun _ _ _ h => h) (Or.inl ⟨by kernel_rfl, fun W hW => ?_⟩) hS ?_
            · go_simp
            simp only [Act.put, List.getElem_toArray, List.getElem_cons_succ, List.getElem_cons_zero, List.setIfInBounds_toArray, List.set_cons_zero, List.set_cons_succ]
            refine wpAnyH_takeS HNS (i := 14) (v := .agg (pc a.ac U.pen.cells.length a.cc a.af U.pen.free.length a.cf U.pen.most)) rfl (by kernel_rfl) (by kernel_rfl) (fun _ _ _ h => h) (Or.inl ⟨by kernel_rfl, fun W hW => ?_⟩) hS ?_
            · (have hz := Held.below k2 hW; have z4 := hz.cell 4; have z5 := hz.cell 5; have z6 := hz.cell 6; simp at z4 z5 z6; go_simp)
            simp only [Act.put, List.getElem_toArray, List.getElem_cons_succ, List.getElem_cons_zero, List.setIfInBounds_toArray, List.set_cons_zero, List.set_cons_succ]
            refine wpAnyH_takeS HNS (i := 15) (v := .pointer (some ⟨w.heap.size + 1, 4, none⟩)) rfl (by kernel_rfl) (by kernel_rfl) (fun _ _ _ h => h) (Or.inl ⟨by kernel_rfl, fun W hW => ?_⟩) hS ?_
            · go_simp
            simp only [Act.put, List.getElem_toArray, List.getElem_cons_succ, List.getElem_cons_zero, List.setIfInBounds_toArray, List.set_cons_zero, List.set_cons_succ]
            refine wpAnyH_takeS HNS (i := 16) (v := .agg (pc b.ac W.pen.cells.length b.cc b.af W.pen.free.length b.cf W.pen.most)) rfl (by kernel_rfl) (by kernel_rfl) (fun _ _ _ h => h) (Or.inl ⟨by kernel_rfl, fun W hW => ?_⟩) hS ?_
            · (have hz := Held.below k3 hW; have z4 := hz.cell 4; have z5 := hz.cell 5; have z6 := hz.cell 6; simp at z4 z5 z6; go_simp)
            simp only [Act.put, List.getElem_toArray, List.getElem_cons_succ, List.getElem_cons_zero, List.setIfInBounds_toArray, List.set_cons_zero, List.set_cons_succ]
            refine wpAnyH_ready (rs := [17]) (by kernel_rfl) (by simp) ?_
            refine (AllReadyH.cons rfl (fun K hK => ?_) AllReadyH.nil)
            · rw [if_pos (by kernel_rfl)]
              go_simp
              go_at_call 24
              (with_reducible refine (C4.out _ (Below.step hbw hS)).mono ?_)
              rintro _ u18 ⟨rfl, hb18⟩
              replace hS := Below.step hS hb18
              (repeat (first | go_skip | go_guarded | go_step | go_upon))
              refine hK.out _ _ hS (fun _ => ?_)
              clear hK K
              (try simp only [Act.put, List.getElem_toArray, List.getElem_cons_succ, List.getElem_cons_zero, List.setIfInBounds_toArray, List.set_cons_zero, List.set_cons_succ])
              refine wpAnyH_takeS HNS (i := 18) (v := .bool true) rfl (by kernel_rfl) (by kernel_rfl) (fun _ _ _ h => h) (Or.inl ⟨by kernel_rfl, fun W hW => ?_⟩) hS ?_
              · go_simp
              simp only [Act.put, List.getElem_toArray, List.getElem_cons_succ, List.getElem_cons_zero, List.setIfInBounds_toArray, List.set_cons_zero, List.set_cons_succ]
              refine wpAnyH_takeS HNS (i := 19) (v := .bool true) rfl (by kernel_rfl) (by kernel_rfl) (fun _ _ _ h => h) (Or.inl ⟨by kernel_rfl, fun W hW => ?_⟩) hS ?_
              · go_simp
              simp only [Act.put, List.getElem_toArray, List.getElem_cons_succ, List.getElem_cons_zero, List.setIfInBounds_toArray, List.set_cons_zero, List.set_cons_succ]
              refine wpAnyH_takeS HNS (i := 20) (v := .pointer (some ⟨w.heap.size, 7, none⟩)) rfl (by kernel_rfl) (by kernel_rfl) (fun _ _ _ h => h) (Or.inl ⟨by kernel_rfl, fun W hW => ?_⟩) hS ?_
              · go_simp
              simp only [Act.put, List.getElem_toArray, List.getElem_cons_succ, List.getElem_cons_zero, List.setIfInBounds_toArray, List.set_cons_zero, List.set_cons_succ]
              refine wpAnyH_takeS HNS (i := 21) (v := .slice a.ar U.rings.length a.cr) rfl (by kernel_rfl) (by kernel_rfl) (fun _ _ _ h => h) (Or.inl ⟨by kernel_rfl, fun W hW => ?_⟩) hS ?_
              · (have hz := Held.below k2 hW; have z7 := hz.cell 7; simp at z7; go_simp)
              simp only [Act.put, List.getElem_toArray, List.getElem_cons_succ, List.getElem_cons_zero, List.setIfInBounds_toArray, List.set_cons_zero, List.set_cons_succ]
              refine wpAnyH_takeS HNS (i := 22) (v := .pointer (some ⟨w.heap.size + 1, 7, none⟩)) rfl (by kernel_rfl) (by kernel_rfl) (fun _ _ _ h => h) (Or.inl ⟨by kernel_rfl, fun W hW => ?_⟩) hS ?_
              · go_simp
              simp only [Act.put, List.getElem_toArray, List.getElem_cons_succ, List.getElem_cons_zero, List.setIfInBounds_toArray, List.set_cons_zero, List.set_cons_succ]
              refine wpAnyH_takeS HNS (i := 23) (v := .slice b.ar W.rings.length b.cr) rfl (by kernel_rfl) (by kernel_rfl) (fun _ _ _ h => h) (Or.inl ⟨by kernel_rfl, fun W hW => ?_⟩) hS ?_
              · (have hz := Held.below k3 hW; have z7 := hz.cell 7; simp at z7; go_simp)
              simp only [Act.put, List.getElem_toArray, List.getElem_cons_succ, List.getElem_cons_zero, List.setIfInBounds_toArray, List.set_cons_zero, List.set_cons_succ]
              refine wpAnyH_ready (rs := [24]) (by kernel_rfl) (by simp) ?_
              refine (AllReadyH.cons rfl (fun K hK => ?_) AllReadyH.nil)
              · rw [if_pos (by kernel_rfl)]
                go_simp
                go_at_call 25
                (with_reducible refine (C5.out _ (Below.step hbw hS)).mono ?_)
                rintro _ u19 ⟨rfl, hb19⟩
                replace hS := Below.step hS hb19
                (repeat (first | go_skip | go_guarded | go_step | go_upon))
                refine hK.out _ _ hS (fun _ => ?_)
                clear hK K
                (try simp only [Act.put, List.getElem_toArray, List.getElem_cons_succ, List.getElem_cons_zero, List.setIfInBounds_toArray, List.set_cons_zero, List.set_cons_succ])
                refine wpAnyH_takeS HNS (i := 25) (v := .bool true) rfl (by kernel_rfl) (by kernel_rfl) (fun _ _ _ h => h) (Or.inl ⟨by kernel_rfl, fun W hW => ?_⟩) hS ?_
                · go_simp
                simp only [Act.put, List.getElem_toArray, List.getElem_cons_succ, List.getElem_cons_zero, List.setIfInBounds_toArray, List.set_cons_zero, List.set_cons_succ]
                refine wpAnyH_takeS HNS (i := 26) (v := .bool true) rfl (by kernel_rfl) (by kernel_rfl) (fun _ _ _ h => h) (Or.inl ⟨by kernel_rfl, fun W hW => ?_⟩) hS ?_
                · go_simp
                simp only [Act.put, List.getElem_toArray, List.getElem_cons_succ, List.getElem_cons_zero, List.setIfInBounds_toArray, List.set_cons_zero, List.set_cons_succ]
                refine wpAnyH_takeS HNS (i := 27) (v := .pointer (some ⟨w.heap.size, 8, none⟩)) rfl (by kernel_rfl) (by kernel_rfl) (fun _ _ _ h => h) (Or.inl ⟨by kernel_rfl, fun W hW => ?_⟩) hS ?_
                · go_simp
                simp only [Act.put, List.getElem_toArray, List.getElem_cons_succ, List.getElem_cons_zero, List.setIfInBounds_toArray, List.set_cons_zero, List.set_cons_succ]
                refine wpAnyH_takeS HNS (i := 28) (v := .slice a.aq U.cur.length a.cq) rfl (by kernel_rfl) (by kernel_rfl) (fun _ _ _ h => h) (Or.inl ⟨by kernel_rfl, fun W hW => ?_⟩) hS ?_
                · (have hz := Held.below k2 hW; have z8 := hz.cell 8; simp at z8; go_simp)
                simp only [Act.put, List.getElem_toArray, List.getElem_cons_succ, List.getElem_cons_zero, List.setIfInBounds_toArray, List.set_cons_zero, List.set_cons_succ]
                refine wpAnyH_takeS HNS (i := 29) (v := .pointer (some ⟨w.heap.size + 1, 8, none⟩)) rfl (by kernel_rfl) (by kernel_rfl) (fun _ _ _ h => h) (Or.inl ⟨by kernel_rfl, fun W hW => ?_⟩) hS ?_
                · go_simp
                simp only [Act.put, List.getElem_toArray, List.getElem_cons_succ, List.getElem_cons_zero, List.setIfInBounds_toArray, List.set_cons_zero, List.set_cons_succ]
                refine wpAnyH_takeS HNS (i := 30) (v := .slice b.aq W.cur.length b.cq) rfl (by kernel_rfl) (by kernel_rfl) (fun _ _ _ h => h) (Or.inl ⟨by kernel_rfl, fun W hW => ?_⟩) hS ?_
                · (have hz := Held.below k3 hW; have z8 := hz.cell 8; simp at z8; go_simp)
                simp only [Act.put, List.getElem_toArray, List.getElem_cons_succ, List.getElem_cons_zero, List.setIfInBounds_toArray, List.set_cons_zero, List.set_cons_succ]
                refine wpAnyH_ready (rs := [31]) (by kernel_rfl) (by simp) ?_
                refine (AllReadyH.cons rfl (fun K hK => ?_) AllReadyH.nil)
                · rw [if_pos (by kernel_rfl)]
                  go_simp
                  go_at_call 27
                  (with_reducible refine (C6.out _ (Below.step hbw hS)).mono ?_)
                  rintro _ u20 ⟨rfl, hb20⟩
                  replace hS := Below.step hS hb20
                  (repeat (first | go_skip | go_guarded | go_step | go_upon))
                  refine hK.out _ _ hS (fun _ => ?_)
                  clear hK K
                  (try simp only [Act.put, List.getElem_toArray, List.getElem_cons_succ, List.getElem_cons_zero, List.setIfInBounds_toArray, List.set_cons_zero, List.set_cons_succ])
                  refine wpAnyH_takeS HNS (i := 32) (v := .bool false) rfl (by kernel_rfl) (by kernel_rfl) (fun _ _ _ h => h) (Or.inl ⟨by kernel_rfl, fun W hW => ?_⟩) hS ?_
                  · go_simp
                  simp only [Act.put, List.getElem_toArray, List.getElem_cons_succ, List.getElem_cons_zero, List.setIfInBounds_toArray, List.set_cons_zero, List.set_cons_succ]
                  refine wpAnyH_takeS HNS (i := 33) (v := .bool false) rfl (by kernel_rfl) (by kernel_rfl) (fun _ _ _ h => h) (Or.inl ⟨by kernel_rfl, fun W hW => ?_⟩) hS ?_
                  · go_simp
                  simp only [Act.put, List.getElem_toArray, List.getElem_cons_succ, List.getElem_cons_zero, List.setIfInBounds_toArray, List.set_cons_zero, List.set_cons_succ]
                  refine wpAnyH_done (by kernel_rfl) ?_ _
                  (repeat (first | go_skip | go_guarded | go_step | go_upon))
                  go_ret
                  exact ⟨by rw [← HR.out]; rfl, Below.step hbw hS⟩
  case true =>
    as_aux_lemma =>
      have hdr := (Below.refl W0.heap.size W0).drew
      replace k2 := Held.below k2 hdr
      replace k3 := Held.below k3 hdr
      replace hbw := Below.step hbw hdr
      clear hdr
      refine wp_region_held_drew (S := fun W => Below W0.drew.heap.size W0.drew W) (by kernel_rfl) (Below.refl _ _) (fun hS => ?_)
      generalize W0.drew = Wq at *
      show wpAnyH _ _ _ _ _ 34 #[false, false, false, false, false, false, false, false, false, false, false, false, false, false, false, false, false, false, false, false, false, false, false, false, false, false, false, false, false, false, false, false, false, false] _ _
      refine wpAnyH_begin (by kernel_rfl) (fun HNS => ?_)
      refine wpAnyH_takeS HNS (i := 0) (v := .agg (wcs a U)) rfl (by kernel_rfl) (by kernel_rfl) (fun _ _ _ h => h) (yieldsIf_load_midA (by kernel_rfl) 40 _ rfl (w.heap.size) 0 (by rfl) (wcs a U) _ (fun W hW => rng_held (Held.below k2 hW)) Tryd.underlying40 rfl (by kernel_rfl)) hS ?_
      simp only [Act.put, List.getElem_toArray, List.getElem_cons_succ, List.getElem_cons_zero, List.setIfInBounds_toArray, List.set_cons_zero, List.set_cons_succ]
      refine wpAnyH_takeS HNS (i := 2) (v := .agg (wcs b W)) rfl (by kernel_rfl) (by kernel_rfl) (fun _ _ _ h => h) (yieldsIf_load_midA (by kernel_rfl) 40 _ rfl (w.heap.size + 1) 0 (by rfl) (wcs b W) _ (fun W hW => rng_held (Held.below k3 hW)) Tryd.underlying40 rfl (by kernel_rfl)) hS ?_
      simp only [Act.put, List.getElem_toArray, List.getElem_cons_succ, List.getElem_cons_zero, List.setIfInBounds_toArray, List.set_cons_zero, List.set_cons_succ]
      refine wpAnyH_ready (rs := [1]) (by kernel_rfl) (by simp) ?_
      refine (AllReadyH.cons rfl (fun K hK => ?_) AllReadyH.nil)
      · rw [if_pos (by kernel_rfl)]
        go_simp
        go_at_call 22
        (with_reducible refine (scalars_w a U _).mono ?_)
        rintro _ u21 ⟨rfl, hb21⟩
        replace hS := Below.step hS hb21
        (repeat (first | go_skip | go_guarded | go_step | go_upon))
        refine hK.out _ _ hS (fun _ => ?_)
        clear hK K
        (try simp only [Act.put, List.getElem_toArray, List.getElem_cons_succ, List.getElem_cons_zero, List.setIfInBounds_toArray, List.set_cons_zero, List.set_cons_succ])
        refine wpAnyH_ready (rs := [3]) (by kernel_rfl) (by simp) ?_
        refine (AllReadyH.cons rfl (fun K hK => ?_) AllReadyH.nil)
        · rw [if_pos (by kernel_rfl)]
          go_simp
          go_at_call 22
          (with_reducible refine (scalars_w b W _).mono ?_)
          rintro _ u22 ⟨rfl, hb22⟩
          replace hS := Below.step hS hb22
          (repeat (first | go_skip | go_guarded | go_step | go_upon))
          refine hK.out _ _ hS (fun _ => ?_)
          clear hK K
          (try simp only [Act.put, List.getElem_toArray, List.getElem_cons_succ, List.getElem_cons_zero, List.setIfInBounds_toArray, List.set_cons_zero, List.set_cons_succ])
          refine wpAnyH_takeS HNS (i := 4) (v := .bool true) rfl (by kernel_rfl) (by kernel_rfl) (fun _ _ _ h => h) (Or.inl ⟨by kernel_rfl, fun W hW => ?_⟩) hS ?_
          · exact exec_eql (by kernel_rfl) rfl rfl rfl (HES.out W)
          simp only [Act.put, List.getElem_toArray, List.getElem_cons_succ, List.getElem_cons_zero, List.setIfInBounds_toArray, List.set_cons_zero, List.set_cons_succ]
          refine wpAnyH_takeS HNS (i := 5) (v := .bool true) rfl (by kernel_rfl) (by kernel_rfl) (fun _ _ _ h => h) (Or.inl ⟨by kernel_rfl, fun W hW => ?_⟩) hS ?_
          · go_simp
          simp only [Act.put, List.getElem_toArray, List.getElem_cons_succ, List.getElem_cons_zero, List.setIfInBounds_toArray, List.set_cons_zero, List.set_cons_succ]
          refine wpAnyH_takeS HNS (i := 6) (v := .pointer (some ⟨w.heap.size, 0, none⟩)) rfl (by kernel_rfl) (by kernel_rfl) (fun _ _ _ h => h) (Or.inl ⟨by kernel_rfl, fun W hW => ?_⟩) hS ?_
          · go_simp
          simp only [Act.put, List.getElem_toArray, List.getElem_cons_succ, List.getElem_cons_zero, List.setIfInBounds_toArray, List.set_cons_zero, List.set_cons_succ]
          refine wpAnyH_takeS HNS (i := 7) (v := .slice a.ap U.prog.length a.cp) rfl (by kernel_rfl) (by kernel_rfl) (fun _ _ _ h => h) (Or.inl ⟨by kernel_rfl, fun W hW => ?_⟩) hS ?_
          · (have hz := Held.below k2 hW; have z0 := hz.cell 0; simp at z0; go_simp)
          simp only [Act.put, List.getElem_toArray, List.getElem_cons_succ, List.getElem_cons_zero, List.setIfInBounds_toArray, List.set_cons_zero, List.set_cons_succ]
          refine wpAnyH_takeS HNS (i := 8) (v := .pointer (some ⟨w.heap.size + 1, 0, none⟩)) rfl (by kernel_rfl) (by kernel_rfl) (fun _ _ _ h => h) (Or.inl ⟨by kernel_rfl, fun W hW => ?_⟩) hS ?_
          · go_simp
          simp only [Act.put, List.getElem_toArray, List.getElem_cons_succ, List.getElem_cons_zero, List.setIfInBounds_toArray, List.set_cons_zero, List.set_cons_succ]
          refine wpAnyH_takeS HNS (i := 9) (v := .slice b.ap W.prog.length b.cp) rfl (by kernel_rfl) (by kernel_rfl) (fun _ _ _ h => h) (Or.inl ⟨by kernel_rfl, fun W hW => ?_⟩) hS ?_
          · (have hz := Held.below k3 hW; have z0 := hz.cell 0; simp at z0; go_simp)
          simp only [Act.put, List.getElem_toArray, List.getElem_cons_succ, List.getElem_cons_zero, List.setIfInBounds_toArray, List.set_cons_zero, List.set_cons_succ]
          refine wpAnyH_ready (rs := [10]) (by kernel_rfl) (by simp) ?_
          refine (AllReadyH.cons rfl (fun K hK => ?_) AllReadyH.nil)
          · rw [if_pos (by kernel_rfl)]
            go_simp
            go_at_call 23
            (with_reducible refine (C3.out _ (Below.step hbw hS)).mono ?_)
            rintro _ u23 ⟨rfl, hb23⟩
            replace hS := Below.step hS hb23
            (repeat (first | go_skip | go_guarded | go_step | go_upon))
            refine hK.out _ _ hS (fun _ => ?_)
            clear hK K
            (try simp only [Act.put, List.getElem_toArray, List.getElem_cons_succ, List.getElem_cons_zero, List.setIfInBounds_toArray, List.set_cons_zero, List.set_cons_succ])
            refine wpAnyH_takeS HNS (i := 11) (v := .bool true) rfl (by kernel_rfl) (by kernel_rfl) (fun _ _ _ h => h) (Or.inl ⟨by kernel_rfl, fun W hW => ?_⟩) hS ?_
            · go_simp
            simp only [Act.put, List.getElem_toArray, List.getElem_cons_succ, List.getElem_cons_zero, List.setIfInBounds_toArray, List.set_cons_zero, List.set_cons_succ]
            refine wpAnyH_takeS HNS (i := 12) (v := .bool true) rfl (by kernel_rfl) (by kernel_rfl) (fun _ _ _ h => h) (Or.inl ⟨by kernel_rfl, fun W hW => ?_⟩) hS ?_
            · go_simp
            simp only [Act.put, List.getElem_toArray, List.getElem_cons_succ, List.getElem_cons_zero, List.setIfInBounds_toArray, List.set_cons_zero, List.set_cons_succ]
            refine wpAnyH_takeS HNS (i := 13) (v := .pointer (some ⟨w.heap.size, 4, none⟩)) rfl (by kernel_rfl) (by kernel_rfl) (fun _ _ _ h => h) (Or.inl ⟨by kernel_rfl, fun W hW => ?_⟩) hS ?_
            · go_simp
            simp only [Act.put, List.getElem_toArray, List.getElem_cons_succ, List.getElem_cons_zero, List.setIfInBounds_toArray, List.set_cons_zero, List.set_cons_succ]
            refine wpAnyH_takeS HNS (i := 14) (v := .agg (pc a.ac U.pen.cells.length a.cc a.af U.pen.free.length a.cf U.pen.most)) rfl (by kernel_rfl) (by kernel_rfl) (fun _ _ _ h => h) (Or.inl ⟨by kernel_rfl, fun W hW => ?_⟩) hS ?_
            · (have hz := Held.below k2 hW; have z4 := hz.cell 4; have z5 := hz.cell 5; have z6 := hz.cell 6; simp at z4 z5 z6; go_simp)
            simp only [Act.put, List.getElem_toArray, List.getElem_cons_succ, List.getElem_cons_zero, List.setIfInBounds_toArray, List.set_cons_zero, List.set_cons_succ]
            refine wpAnyH_takeS HNS (i := 15) (v := .pointer (some ⟨w.heap.size + 1, 4, none⟩)) rfl (by kernel_rfl) (by kernel_rfl) (fun _ _ _ h => h) (Or.inl ⟨by kernel_rfl, fun W hW => ?_⟩) hS ?_
            · go_simp
            simp only [Act.put, List.getElem_toArray, List.getElem_cons_succ, List.getElem_cons_zero, List.setIfInBounds_toArray, List.set_cons_zero, List.set_cons_succ]
            refine wpAnyH_takeS HNS (i := 16) (v := .agg (pc b.ac W.pen.cells.length b.cc b.af W.pen.free.length b.cf W.pen.most)) rfl (by kernel_rfl) (by kernel_rfl) (fun _ _ _ h => h) (Or.inl ⟨by kernel_rfl, fun W hW => ?_⟩) hS ?_
            · (have hz := Held.below k3 hW; have z4 := hz.cell 4; have z5 := hz.cell 5; have z6 := hz.cell 6; simp at z4 z5 z6; go_simp)
            simp only [Act.put, List.getElem_toArray, List.getElem_cons_succ, List.getElem_cons_zero, List.setIfInBounds_toArray, List.set_cons_zero, List.set_cons_succ]
            refine wpAnyH_ready (rs := [17]) (by kernel_rfl) (by simp) ?_
            refine (AllReadyH.cons rfl (fun K hK => ?_) AllReadyH.nil)
            · rw [if_pos (by kernel_rfl)]
              go_simp
              go_at_call 24
              (with_reducible refine (C4.out _ (Below.step hbw hS)).mono ?_)
              rintro _ u24 ⟨rfl, hb24⟩
              replace hS := Below.step hS hb24
              (repeat (first | go_skip | go_guarded | go_step | go_upon))
              refine hK.out _ _ hS (fun _ => ?_)
              clear hK K
              (try simp only [Act.put, List.getElem_toArray, List.getElem_cons_succ, List.getElem_cons_zero, List.setIfInBounds_toArray, List.set_cons_zero, List.set_cons_succ])
              refine wpAnyH_takeS HNS (i := 18) (v := .bool true) rfl (by kernel_rfl) (by kernel_rfl) (fun _ _ _ h => h) (Or.inl ⟨by kernel_rfl, fun W hW => ?_⟩) hS ?_
              · go_simp
              simp only [Act.put, List.getElem_toArray, List.getElem_cons_succ, List.getElem_cons_zero, List.setIfInBounds_toArray, List.set_cons_zero, List.set_cons_succ]
              refine wpAnyH_takeS HNS (i := 19) (v := .bool true) rfl (by kernel_rfl) (by kernel_rfl) (fun _ _ _ h => h) (Or.inl ⟨by kernel_rfl, fun W hW => ?_⟩) hS ?_
              · go_simp
              simp only [Act.put, List.getElem_toArray, List.getElem_cons_succ, List.getElem_cons_zero, List.setIfInBounds_toArray, List.set_cons_zero, List.set_cons_succ]
              refine wpAnyH_takeS HNS (i := 20) (v := .pointer (some ⟨w.heap.size, 7, none⟩)) rfl (by kernel_rfl) (by kernel_rfl) (fun _ _ _ h => h) (Or.inl ⟨by kernel_rfl, fun W hW => ?_⟩) hS ?_
              · go_simp
              simp only [Act.put, List.getElem_toArray, List.getElem_cons_succ, List.getElem_cons_zero, List.setIfInBounds_toArray, List.set_cons_zero, List.set_cons_succ]
              refine wpAnyH_takeS HNS (i := 21) (v := .slice a.ar U.rings.length a.cr) rfl (by kernel_rfl) (by kernel_rfl) (fun _ _ _ h => h) (Or.inl ⟨by kernel_rfl, fun W hW => ?_⟩) hS ?_
              · (have hz := Held.below k2 hW; have z7 := hz.cell 7; simp at z7; go_simp)
              simp only [Act.put, List.getElem_toArray, List.getElem_cons_succ, List.getElem_cons_zero, List.setIfInBounds_toArray, List.set_cons_zero, List.set_cons_succ]
              refine wpAnyH_takeS HNS (i := 22) (v := .pointer (some ⟨w.heap.size + 1, 7, none⟩)) rfl (by kernel_rfl) (by kernel_rfl) (fun _ _ _ h => h) (Or.inl ⟨by kernel_rfl, fun W hW => ?_⟩) hS ?_
              · go_simp
              simp only [Act.put, List.getElem_toArray, List.getElem_cons_succ, List.getElem_cons_zero, List.setIfInBounds_toArray, List.set_cons_zero, List.set_cons_succ]
              refine wpAnyH_takeS HNS (i := 23) (v := .slice b.ar W.rings.length b.cr) rfl (by kernel_rfl) (by kernel_rfl) (fun _ _ _ h => h) (Or.inl ⟨by kernel_rfl, fun W hW => ?_⟩) hS ?_
              · (have hz := Held.below k3 hW; have z7 := hz.cell 7; simp at z7; go_simp)
              simp only [Act.put, List.getElem_toArray, List.getElem_cons_succ, List.getElem_cons_zero, List.setIfInBounds_toArray, List.set_cons_zero, List.set_cons_succ]
              refine wpAnyH_ready (rs := [24]) (by kernel_rfl) (by simp) ?_
              refine (AllReadyH.cons rfl (fun K hK => ?_) AllReadyH.nil)
              · rw [if_pos (by kernel_rfl)]
                go_simp
                go_at_call 25
                (with_reducible refine (C5.out _ (Below.step hbw hS)).mono ?_)
                rintro _ u25 ⟨rfl, hb25⟩
                replace hS := Below.step hS hb25
                (repeat (first | go_skip | go_guarded | go_step | go_upon))
                refine hK.out _ _ hS (fun _ => ?_)
                clear hK K
                (try simp only [Act.put, List.getElem_toArray, List.getElem_cons_succ, List.getElem_cons_zero, List.setIfInBounds_toArray, List.set_cons_zero, List.set_cons_succ])
                refine wpAnyH_takeS HNS (i := 25) (v := .bool true) rfl (by kernel_rfl) (by kernel_rfl) (fun _ _ _ h => h) (Or.inl ⟨by kernel_rfl, fun W hW => ?_⟩) hS ?_
                · go_simp
                simp only [Act.put, List.getElem_toArray, List.getElem_cons_succ, List.getElem_cons_zero, List.setIfInBounds_toArray, List.set_cons_zero, List.set_cons_succ]
                refine wpAnyH_takeS HNS (i := 26) (v := .bool true) rfl (by kernel_rfl) (by kernel_rfl) (fun _ _ _ h => h) (Or.inl ⟨by kernel_rfl, fun W hW => ?_⟩) hS ?_
                · go_simp
                simp only [Act.put, List.getElem_toArray, List.getElem_cons_succ, List.getElem_cons_zero, List.setIfInBounds_toArray, List.set_cons_zero, List.set_cons_succ]
                refine wpAnyH_takeS HNS (i := 27) (v := .pointer (some ⟨w.heap.size, 8, none⟩)) rfl (by kernel_rfl) (by kernel_rfl) (fun _ _ _ h => h) (Or.inl ⟨by kernel_rfl, fun W hW => ?_⟩) hS ?_
                · go_simp
                simp only [Act.put, List.getElem_toArray, List.getElem_cons_succ, List.getElem_cons_zero, List.setIfInBounds_toArray, List.set_cons_zero, List.set_cons_succ]
                refine wpAnyH_takeS HNS (i := 28) (v := .slice a.aq U.cur.length a.cq) rfl (by kernel_rfl) (by kernel_rfl) (fun _ _ _ h => h) (Or.inl ⟨by kernel_rfl, fun W hW => ?_⟩) hS ?_
                · (have hz := Held.below k2 hW; have z8 := hz.cell 8; simp at z8; go_simp)
                simp only [Act.put, List.getElem_toArray, List.getElem_cons_succ, List.getElem_cons_zero, List.setIfInBounds_toArray, List.set_cons_zero, List.set_cons_succ]
                refine wpAnyH_takeS HNS (i := 29) (v := .pointer (some ⟨w.heap.size + 1, 8, none⟩)) rfl (by kernel_rfl) (by kernel_rfl) (fun _ _ _ h => h) (Or.inl ⟨by kernel_rfl, fun W hW => ?_⟩) hS ?_
                · go_simp
                simp only [Act.put, List.getElem_toArray, List.getElem_cons_succ, List.getElem_cons_zero, List.setIfInBounds_toArray, List.set_cons_zero, List.set_cons_succ]
                refine wpAnyH_takeS HNS (i := 30) (v := .slice b.aq W.cur.length b.cq) rfl (by kernel_rfl) (by kernel_rfl) (fun _ _ _ h => h) (Or.inl ⟨by kernel_rfl, fun W hW => ?_⟩) hS ?_
                · (have hz := Held.below k3 hW; have z8 := hz.cell 8; simp at z8; go_simp)
                simp only [Act.put, List.getElem_toArray, List.getElem_cons_succ, List.getElem_cons_zero, List.setIfInBounds_toArray, List.set_cons_zero, List.set_cons_succ]
                refine wpAnyH_ready (rs := [31]) (by kernel_rfl) (by simp) ?_
                refine (AllReadyH.cons rfl (fun K hK => ?_) AllReadyH.nil)
                · rw [if_pos (by kernel_rfl)]
                  go_simp
                  go_at_call 27
                  (with_reducible refine (C6.out _ (Below.step hbw hS)).mono ?_)
                  rintro _ u26 ⟨rfl, hb26⟩
                  replace hS := Below.step hS hb26
                  (repeat (first | go_skip | go_guarded | go_step | go_upon))
                  refine hK.out _ _ hS (fun _ => ?_)
                  clear hK K
                  (try simp only [Act.put, List.getElem_toArray, List.getElem_cons_succ, List.getElem_cons_zero, List.setIfInBounds_toArray, List.set_cons_zero, List.set_cons_succ])
                  refine wpAnyH_takeS HNS (i := 32) (v := .bool true) rfl (by kernel_rfl) (by kernel_rfl) (fun _ _ _ h => h) (Or.inl ⟨by kernel_rfl, fun W hW => ?_⟩) hS ?_
                  · go_simp
                  simp only [Act.put, List.getElem_toArray, List.getElem_cons_succ, List.getElem_cons_zero, List.setIfInBounds_toArray, List.set_cons_zero, List.set_cons_succ]
                  refine wpAnyH_takeS HNS (i := 33) (v := .bool true) rfl (by kernel_rfl) (by kernel_rfl) (fun _ _ _ h => h) (Or.inl ⟨by kernel_rfl, fun W hW => ?_⟩) hS ?_
                  · go_simp
                  simp only [Act.put, List.getElem_toArray, List.getElem_cons_succ, List.getElem_cons_zero, List.setIfInBounds_toArray, List.set_cons_zero, List.set_cons_succ]
                  refine wpAnyH_done (by kernel_rfl) ?_ _
                  (repeat (first | go_skip | go_guarded | go_step | go_upon))
                  go_ret
                  exact ⟨by rw [← HR.out]; rfl, Below.step hbw hS⟩
end Go.Proofs.YtjibkgildfjjoaaDoor

