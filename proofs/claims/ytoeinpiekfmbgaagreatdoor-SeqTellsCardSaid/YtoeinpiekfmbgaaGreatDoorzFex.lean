/- Layer 9's code: an instruction executed. -/
import Derived.Test.YtoeinpiekfmbgaaGreatDoorzHl
import Derived.Test.YtoeinpiekfmbgaaGreatDoorzFsp
import Derived.Test.YtoeinpiekfmbgaaGreatDoorzFjo
namespace Go.Proofs.YtoeinpiekfmbgaaGreatDoor
set_option linter.unusedVariables false
set_option linter.unusedSimpArgs false
open Gm Go.RowKit Go.ChangeShapes Go.WideShapes Go.ChangeAt Go.Sort

section
variable {B r : Nat} {pv l o s : Value} {f : Frm}
/-- What an instruction's execution leaves. -/
def ExeR (B r : Nat) (pv l o s : Value) (w : World) (R : Frm × ActP × Int) (e : Ending) (w' : World) : Prop := ∃ av s', e = .returned (.tuple #[av, .int .i64 R.2.2]) ∧ ActO w' w.heap.size av R.2.1 ∧ Aft B r pv l o s w R.1 s' w'
/-- The kind is stored into the result's block. -/
theorem Aft.res {w w1 : World} {f1 : Frm} {s1 : Value} (h : Aft B r pv l o s w f1 s1 w1) {g : Nat} (hg : Off4 r s1 l o g) (hge : w.heap.size ≤ g) {a0 a1 a2 a3 a4 : Value} (hr : Held w1 g 77 #[a0, a1, a2, a3, a4]) (x0 x1 x2 x3 x4 : Value) :
    Aft B r pv l o s w f1 s1 (((((w1.setCell ⟨g, 0, none⟩ x0).setCell ⟨g, 1, none⟩ x1).setCell ⟨g, 2, none⟩ x2).setCell ⟨g, 3, none⟩ x3).setCell ⟨g, 4, none⟩ x4) ∧
    Held (((((w1.setCell ⟨g, 0, none⟩ x0).setCell ⟨g, 1, none⟩ x1).setCell ⟨g, 2, none⟩ x2).setCell ⟨g, 3, none⟩ x3).setCell ⟨g, 4, none⟩ x4) g 77 #[x0, x1, x2, x3, x4] :=
  ⟨h.far5 hg hge _ _ _ _ _, set5 hr _ _ _ _ _⟩
set_option maxHeartbeats 1000000 in
set_option maxRecDepth 100000 in
theorem exec_trap (a b : Int) (w : World) (h : RunAt w B r pv l o f s) :
    Calls Tryz.prog 106 #[.pointer (some ⟨r, 0, none⟩), iv 16 a b] w fun e w' => e = .returned (aks 0 a) ∧ Aft B r pv l o s w f s w' := by
  have H := Lib.hid h
  clear h
  go_enter Tryz.func106, Tryz.ntmps106
  go_upto_region 4 with (fail)
  go_region
  all_goals go_wp2_with fail
  all_goals go_returns
  all_goals exact ⟨rfl, (((Aft.refl H.out).alloc _).alloc _).drew⟩
set_option maxHeartbeats 1000000 in
set_option maxRecDepth 100000 in
theorem exec_goto (a b : Int) (w : World) (h : RunAt w B r pv l o f s) :
    Calls Tryz.prog 106 #[.pointer (some ⟨r, 0, none⟩), iv 10 a b] w fun e w' => e = .returned (aks 1 0) ∧ Aft B r pv l o s w (goF f a) s w' := by
  have GT := fun W (hb : Below w.heap.size w W) => Lib.hid (rgoto_any a W (h.below hb))
  have OFF := Lib.hid (h.off (Nat.le_succ w.heap.size))
  clear h
  go_enter Tryz.func106, Tryz.ntmps106
  go_wp2_with (go_at_call 116; go_loud (((with_reducible refine (GT _ ?_).out.mono ?_); (focus (go_grown))); rintro _ u ⟨rfl, ha⟩; have hr := ha.held (Held.new1 w _ 77 az0) OFF.out; have hof := ha.off OFF.out (by simp); have ha2 := Aft.pre (w0 := w) (by go_grown) ha; obtain ⟨q0, q1, q2, q3, q4, z0, z1, z2, z3, z4⟩ := five hr))
  obtain ⟨A5, h5⟩ := ha2.res hof (Nat.le_succ _) hr (.int .i64 1) (.int .i64 0) (.int .i64 0) (.int .i64 0) (.slice none 0 0)
  obtain ⟨d0, d1, d2, d3, d4, _⟩ := five h5
  exact bodyPost_ret (v := aks 1 0) (by simp [results, Tryz.results106, go_sem, d0, d1, d2, d3, d4]) rfl ⟨rfl, A5⟩
set_option maxHeartbeats 1000000 in
set_option maxRecDepth 100000 in
theorem exec_ret (a b : Int) (w : World) (h : RunAt w B r pv l o f s) (h1 : 1 ≤ f.stk.length) (hlen : f.stk.length ≤ 1000) (hB : B ≤ w.heap.size) :
    Calls Tryz.prog 106 #[.pointer (some ⟨r, 0, none⟩), iv 15 a b] w fun e w' => e = .returned (aks 4 0) ∧ ∃ s', Aft B r pv l o s w (endF (popF f 1) 0 (topF f)) s' w' := by
  have PO := fun W (hb : Below w.heap.size w W) => Lib.hid (rpop_any W (h.below hb) h1 hlen (Nat.le_trans hB hb.size))
  have EN := fun s1 W (hr : RunAt W B r pv l o (popF f 1) s1) => Lib.hid (rend_any 0 (topF f).1 (topF f).2 W hr)
  have OFF := Lib.hid (h.off (Nat.le_succ w.heap.size))
  generalize topF f = tv at *
  obtain ⟨t1, t2⟩ := tv
  simp only at PO EN
  clear h h1 hlen hB
  go_enter Tryz.func106, Tryz.ntmps106
  go_wp2_with (first
    | (go_at_call 112; go_loud (((with_reducible refine (PO _ ?_).out.mono ?_); (focus (go_grown))); rintro _ u ⟨rfl, s2, ha⟩; have hr := ha.held (Held.new1 w _ 77 az0) OFF.out; have hof := ha.off OFF.out (by simp); have ha2 := Aft.pre (w0 := w) (by go_grown) ha))
    | (go_at_call 107; go_loud ((with_reducible refine (EN _ _ ha2.run).out.mono ?_); rintro _ u3 ⟨rfl, ha3⟩; have hr3 := ha3.held hr hof; have hof3 := ha3.off hof hr.lt; have ha4 := ha2.trans ha3; obtain ⟨q0, q1, q2, q3, q4, z0, z1, z2, z3, z4⟩ := five hr3)))
  obtain ⟨A5, h5⟩ := ha4.res hof3 (Nat.le_succ _) hr3 (.int .i64 4) (.int .i64 0) (.int .i64 0) (.int .i64 0) (.slice none 0 0)
  obtain ⟨d0, d1, d2, d3, d4, _⟩ := five h5
  exact bodyPost_ret (v := aks 4 0) (by simp [results, Tryz.results106, go_sem, d0, d1, d2, d3, d4]) rfl ⟨rfl, _, A5⟩
set_option maxHeartbeats 1000000 in
set_option maxRecDepth 100000 in
theorem exec_spawn {A : Option Addr} {p : List Fun} {cp C : Nat} (k m : Nat) (w : World) (h : RunAt w B r (.slice A p.length cp) l o f s) (hp : ProgAt w C A p) (hC : C ≤ B) (hT : TabB w B) (hk : k < p.length) (hm : m < f.slt.length) (n : Nat) (hn : p[k].ar = n) (hns : n ≤ f.stk.length)
    (hlen : f.stk.length ≤ 1000) (hpc : 0 ≤ f.pc ∧ f.pc < 9223372036854775807) (hB : B ≤ w.heap.size) :
    Calls Tryz.prog 106 #[.pointer (some ⟨r, 0, none⟩), iv 13 k m] w fun e w' => ExeR B r (.slice A p.length cp) l o s w (spawnF p f k m) e w' := by
  have SP := fun W (hb : Below w.heap.size w W) => Lib.hid (rspawn_any k m W (h.below hb) (hp.below hb (by omega)) hC (hT.below hb hB) hk hm n hn hns hlen hpc (Nat.le_trans hB hb.size))
  have OFF := Lib.hid (h.off (Nat.le_succ w.heap.size))
  generalize spawnF p f k m = R at *
  obtain ⟨R1, ⟨k1, k2, k3, k4, ar⟩, R3⟩ := R
  unfold ExeR
  simp only at SP ⊢
  clear h hp hC hT hk hm hn hns hlen hpc hB
  go_enter Tryz.func106, Tryz.ntmps106
  go_wp2_with (go_at_call 113; go_loud (((with_reducible refine (SP _ ?_).out.mono ?_); (focus (go_grown))); rintro _ u ⟨av, s2, rfl, ⟨A2, c2, rfl, ho⟩, ha⟩; have hr := ha.held (Held.new1 w _ 77 az0) OFF.out; have hof := ha.off OFF.out (by simp); have ha2 := Aft.pre (w0 := w) (by go_grown) ha; obtain ⟨q0, q1, q2, q3, q4, z0, z1, z2, z3, z4⟩ := five hr; simp at ho))
  obtain ⟨A5, h5⟩ := ha2.res hof (Nat.le_succ _) hr (.int .i64 k1) (.int .i64 k2) (.int .i64 k3) (.int .i64 k4) (.slice A2 ar.length c2)
  obtain ⟨d0, d1, d2, d3, d4, _⟩ := five h5
  refine bodyPost_ret (v := .tuple #[.agg #[.int .i64 k1, .int .i64 k2, .int .i64 k3, .int .i64 k4, .slice A2 ar.length c2], .int .i64 R3]) (by simp [results, Tryz.results106, go_sem, d0, d1, d2, d3, d4]) rfl ⟨_, s2, rfl, ⟨A2, c2, rfl, ?_⟩, A5⟩
  refine row_mono (row_same ho fun g e => ?_) (show w.heap.size ≤ w.heap.size + 1 + 1 by omega)
  have hq := (ho.lt g e).1
  have h1 : g ≠ w.heap.size + 1 := by omega
  exact (Below.heap_setCell _ ⟨w.heap.size + 1, _, none⟩ _ g h1).trans ((Below.heap_setCell _ ⟨w.heap.size + 1, _, none⟩ _ g h1).trans ((Below.heap_setCell _ ⟨w.heap.size + 1, _, none⟩ _ g h1).trans ((Below.heap_setCell _ ⟨w.heap.size + 1, _, none⟩ _ g h1).trans (Below.heap_setCell _ ⟨w.heap.size + 1, _, none⟩ _ g h1))))
set_option maxHeartbeats 1000000 in
set_option maxRecDepth 100000 in
theorem exec_join (m : Nat) (b : Int) (w : World) (h : RunAt w B r pv l o f s) (hm : m < f.slt.length) (hlen : f.stk.length ≤ 1000) (hpc : 0 ≤ f.pc ∧ f.pc < 9223372036854775807) (hB : B ≤ w.heap.size) :
    Calls Tryz.prog 106 #[.pointer (some ⟨r, 0, none⟩), iv 14 m b] w fun e w' => e = .returned (aks (joinF f m).2.1.kd (joinF f m).2.2) ∧ ∃ s', Aft B r pv l o s w (joinF f m).1 s' w' := by
  have SP := fun W (hb : Below w.heap.size w W) => Lib.hid (rjoin_any m W (h.below hb) hm hlen hpc (Nat.le_trans hB hb.size))
  have OFF := Lib.hid (h.off (Nat.le_succ w.heap.size))
  generalize joinF f m = R at *
  obtain ⟨R1, ⟨k1, k2, k3, k4, ar⟩, R3⟩ := R
  simp only at SP ⊢
  clear h hm hlen hpc hB
  go_enter Tryz.func106, Tryz.ntmps106
  go_wp2_with (go_at_call 114; go_loud (((with_reducible refine (SP _ ?_).out.mono ?_); (focus (go_grown))); rintro _ u ⟨rfl, s2, ha⟩; have hr := ha.held (Held.new1 w _ 77 az0) OFF.out; have hof := ha.off OFF.out (by simp); have ha2 := Aft.pre (w0 := w) (by go_grown) ha; obtain ⟨q0, q1, q2, q3, q4, z0, z1, z2, z3, z4⟩ := five hr))
  obtain ⟨A5, h5⟩ := ha2.res hof (Nat.le_succ _) hr (.int .i64 k1) (.int .i64 0) (.int .i64 0) (.int .i64 0) (.slice none 0 0)
  obtain ⟨d0, d1, d2, d3, d4, _⟩ := five h5
  exact bodyPost_ret (v := aks k1 R3) (by simp [results, Tryz.results106, go_sem, d0, d1, d2, d3, d4]) rfl ⟨rfl, s2, A5⟩
set_option maxHeartbeats 2000000 in
set_option maxRecDepth 100000 in
theorem exec_comp (n a b : Int) (w : World) (hn : n = 3 ∨ n = 4 ∨ n = 5 ∨ n = 6) (h : RunAt w B r pv l o f s) (h2 : 2 ≤ f.stk.length) (hlen : f.stk.length ≤ 1000) (hpc : 0 ≤ f.pc ∧ f.pc < 9223372036854775807) (hB : B ≤ w.heap.size) :
    Calls Tryz.prog 106 #[.pointer (some ⟨r, 0, none⟩), iv n a b] w fun e w' => e = .returned (aks (compF f n).2.1.kd (compF f n).2.2) ∧ ∃ s', Aft B r pv l o s w (compF f n).1 s' w' := by
  have SP := fun W (hb : Below w.heap.size w W) => Lib.hid (rcompute_any n W (h.below hb) h2 hlen hpc (Nat.le_trans hB hb.size))
  have OFF := Lib.hid (h.off (Nat.le_succ w.heap.size))
  generalize compF f n = R at *
  obtain ⟨R1, ⟨k1, k2, k3, k4, ar⟩, R3⟩ := R
  simp only at SP ⊢
  clear h h2 hlen hpc hB
  rcases hn with rfl | rfl | rfl | rfl
  all_goals
    go_enter Tryz.func106, Tryz.ntmps106
    go_wp2_with (go_at_call 115; go_loud (((with_reducible refine (SP _ ?_).out.mono ?_); (focus (go_grown))); rintro _ u ⟨rfl, s2, ha⟩; have hr := ha.held (Held.new1 w _ 77 az0) OFF.out; have hof := ha.off OFF.out (by simp); have ha2 := Aft.pre (w0 := w) (by go_grown) ha; obtain ⟨q0, q1, q2, q3, q4, z0, z1, z2, z3, z4⟩ := five hr))
    obtain ⟨A5, h5⟩ := ha2.res hof (Nat.le_succ _) hr (.int .i64 k1) (.int .i64 0) (.int .i64 0) (.int .i64 0) (.slice none 0 0)
    obtain ⟨d0, d1, d2, d3, d4, _⟩ := five h5
    exact bodyPost_ret (v := aks k1 R3) (by simp [results, Tryz.results106, go_sem, d0, d1, d2, d3, d4]) rfl ⟨rfl, s2, A5⟩
set_option maxHeartbeats 2000000 in
set_option maxRecDepth 100000 in
theorem exec_zero (a b : Int) (w : World) (h : RunAt w B r pv l o f s) (h1 : 1 ≤ f.stk.length) (hlen : f.stk.length ≤ 1000) (hpc : 0 ≤ f.pc ∧ f.pc < 9223372036854775807) (hB : B ≤ w.heap.size) :
    Calls Tryz.prog 106 #[.pointer (some ⟨r, 0, none⟩), iv 11 a b] w fun e w' => e = .returned (aks 1 0) ∧ ∃ s', Aft B r pv l o s w (goF (popF f 1) (if gOf (topF f) = (0, 0) then a else f.pc + 1)) s' w' := by
  have PO := fun W (hb : Below w.heap.size w W) => Lib.hid (rpop_any W (h.below hb) h1 hlen (Nat.le_trans hB hb.size))
  have GO := fun W => Lib.hid (gof_any (topF f).1 (topF f).2 W)
  have G1 := fun s1 W (hr : RunAt W B r pv l o (popF f 1) s1) => Lib.hid (rgoto_any a W hr)
  have G2 := fun s1 W (hr : RunAt W B r pv l o (popF f 1) s1) => Lib.hid (rgoto_any (f.pc + 1) W hr)
  have OFF := Lib.hid (h.off (Nat.le_succ w.heap.size))
  have OFX := Lib.hid (h.off (Nat.le_refl w.heap.size))
  have hgo : gOf (topF f) = (rs (topF f).1, rs (topF f).2) := rfl
  rw [hgo]
  clear hgo
  generalize topF f = tv at *
  obtain ⟨t1, t2⟩ := tv
  simp only at PO GO ⊢
  generalize rs t1 = x1 at *
  generalize rs t2 = x2 at *
  have EQ := fun W => eqv_run x1 x2 0 0 W
  clear h h1 hlen hB
  by_cases hz : (x1, x2) = ((0 : Int), (0 : Int))
  · rw [if_pos hz]
    have EQ2 : ∀ W, (binOp .eql 30 (gv x1 x2) (gv 0 0)).run Tryz.prog W = .ok (.bool true) W := fun W => by rw [EQ, decide_eq_true hz]
    clear EQ hz
    go_enter Tryz.func106, Tryz.ntmps106
    go_wp2_with (first
      | (go_at_call 112; go_loud (((with_reducible refine (PO _ ?_).out.mono ?_); (focus (go_grown))); rintro _ u ⟨rfl, s2, ha⟩; have hr := ha.held (Held.new1 w _ 77 az0) OFF.out; have hx := ha.held ((Held.new w 92 #[.int .i64 11, .int .i64 a, .int .i64 b]).alloc _) OFX.out; have hof := ha.off OFF.out (by simp); have ha2 := Aft.pre (w0 := w) (by go_grown) ha; clear ha))
      | (go_at_call 117; go_loud ((with_reducible refine (GO _).out.mono ?_); rintro _ u2 ⟨rfl, hb2⟩; have hr2 := (hr.alloc _).below hb2; have hx2 := (hx.alloc _).below hb2; have ha3 := (ha2.alloc _).below hb2; have x1c := hx2.cell 1; simp at x1c; have r1 := ha3.run.cells 1; simp [popF] at r1))
      | (go_at_call 116; go_loud ((with_reducible refine (G1 _ _ ha3.run).out.mono ?_); rintro _ u4 ⟨rfl, ha5⟩; have hr4 := ha5.held hr2 hof; have hof4 := ha5.off hof hr2.lt; have ha6 := ha3.trans ha5; obtain ⟨q0, q1, q2, q3, q4, z0, z1, z2, z3, z4⟩ := five hr4)))
    obtain ⟨A5, h5⟩ := ha6.res hof4 (Nat.le_succ _) hr4 (.int .i64 1) (.int .i64 0) (.int .i64 0) (.int .i64 0) (.slice none 0 0)
    obtain ⟨d0, d1, d2, d3, d4, _⟩ := five h5
    exact bodyPost_ret (v := aks 1 0) (by simp [results, Tryz.results106, go_sem, d0, d1, d2, d3, d4]) rfl ⟨rfl, _, A5⟩
  · rw [if_neg hz]
    have EQ2 : ∀ W, (binOp .eql 30 (gv x1 x2) (gv 0 0)).run Tryz.prog W = .ok (.bool false) W := fun W => by rw [EQ, decide_eq_false hz]
    clear EQ hz
    go_enter Tryz.func106, Tryz.ntmps106
    go_wp2_with (first
      | (go_at_call 112; go_loud (((with_reducible refine (PO _ ?_).out.mono ?_); (focus (go_grown))); rintro _ u ⟨rfl, s2, ha⟩; have hr := ha.held (Held.new1 w _ 77 az0) OFF.out; have hx := ha.held ((Held.new w 92 #[.int .i64 11, .int .i64 a, .int .i64 b]).alloc _) OFX.out; have hof := ha.off OFF.out (by simp); have ha2 := Aft.pre (w0 := w) (by go_grown) ha; clear ha))
      | (go_at_call 117; go_loud ((with_reducible refine (GO _).out.mono ?_); rintro _ u2 ⟨rfl, hb2⟩; have hr2 := (hr.alloc _).below hb2; have hx2 := (hx.alloc _).below hb2; have ha3 := (ha2.alloc _).below hb2; have x1c := hx2.cell 1; simp at x1c; have r1 := ha3.run.cells 1; simp [popF] at r1))
      | (go_at_call 116; go_loud ((with_reducible refine (G2 _ _ ha3.run).out.mono ?_); rintro _ u4 ⟨rfl, ha5⟩; have hr4 := ha5.held hr2 hof; have hof4 := ha5.off hof hr2.lt; have ha6 := ha3.trans ha5; obtain ⟨q0, q1, q2, q3, q4, z0, z1, z2, z3, z4⟩ := five hr4)))
    obtain ⟨A5, h5⟩ := ha6.res hof4 (Nat.le_succ _) hr4 (.int .i64 1) (.int .i64 0) (.int .i64 0) (.int .i64 0) (.slice none 0 0)
    obtain ⟨d0, d1, d2, d3, d4, _⟩ := five h5
    exact bodyPost_ret (v := aks 1 0) (by simp [results, Tryz.results106, go_sem, d0, d1, d2, d3, d4]) rfl ⟨rfl, _, A5⟩
set_option maxHeartbeats 2000000 in
set_option maxRecDepth 100000 in
theorem exec_move (x : Int × Int × Int) (w : World) (h : RunAt w B r pv l o f s) (hk : x.1 = 0 ∨ x.1 = 1 ∨ x.1 = 2 ∨ x.1 = 7 ∨ x.1 = 8 ∨ x.1 = 9 ∨ x.1 = 12) (hx : (x.1 = 1 ∨ x.1 = 2) → hasI f.loc.length x.2.1 = true)
    (h1 : (x.1 = 2 ∨ x.1 = 7 ∨ x.1 = 8 ∨ x.1 = 9) → 1 ≤ f.stk.length) (hlen : f.stk.length ≤ 1000) (hpc : 0 ≤ f.pc ∧ f.pc < 9223372036854775807) (hpm : (moveF f x).pc = f.pc) (hB : B ≤ w.heap.size) :
    Calls Tryz.prog 106 #[.pointer (some ⟨r, 0, none⟩), iv x.1 x.2.1 x.2.2] w fun e w' => e = .returned (aks 1 0) ∧ ∃ s', Aft B r pv l o s w (goF (moveF f x) (f.pc + 1)) s' w' := by
  have MV := fun W (hb : Below w.heap.size w W) => Lib.hid (rmove_any W x (h.below hb) hk hx h1 hlen (Nat.le_trans hB hb.size))
  generalize moveF f x = f2 at *
  have G2 := fun s1 W (hr : RunAt W B r pv l o f2 s1) => Lib.hid (rgoto_any (f.pc + 1) W hr)
  have OFF := Lib.hid (h.off (Nat.le_succ w.heap.size))
  obtain ⟨n, a, b⟩ := x
  simp only at hk MV ⊢
  clear h h1 hlen hB hx
  have es : (n == 16) = false ∧ (n == 15) = false ∧ (n == 13) = false ∧ (n == 14) = false ∧ (n == 3) = false ∧ (n == 4) = false ∧ (n == 5) = false ∧ (n == 6) = false ∧ (n == 10) = false ∧ (n == 11) = false := by
    simp
    omega
  obtain ⟨e1, e2, e3, e4, e5, e6, e7, e8, e9, e10⟩ := es
  clear hk
  go_enter Tryz.func106, Tryz.ntmps106
  go_wp2_with (first
    | (go_at_call 118; go_loud (((with_reducible refine (MV _ ?_).out.mono ?_); (focus (go_grown))); rintro _ u ⟨rfl, s2, ha⟩; have hr := ha.held (Held.new1 w _ 77 az0) OFF.out; have hof := ha.off OFF.out (by simp); have ha2 := Aft.pre (w0 := w) (by go_grown) ha; clear ha; have r1 := ha2.run.cells 1; simp [hpm] at r1))
    | (go_at_call 116; go_loud ((with_reducible refine (G2 _ _ ha2.run).out.mono ?_); rintro _ u4 ⟨rfl, ha5⟩; have hr4 := ha5.held hr hof; have hof4 := ha5.off hof hr.lt; have ha6 := ha2.trans ha5; obtain ⟨q0, q1, q2, q3, q4, z0, z1, z2, z3, z4⟩ := five hr4)))
  obtain ⟨A5, h5⟩ := ha6.res hof4 (Nat.le_succ _) hr4 (.int .i64 1) (.int .i64 0) (.int .i64 0) (.int .i64 0) (.slice none 0 0)
  obtain ⟨d0, d1, d2, d3, d4, _⟩ := five h5
  exact bodyPost_ret (v := aks 1 0) (by simp [results, Tryz.results106, go_sem, d0, d1, d2, d3, d4]) rfl ⟨rfl, _, A5⟩

theorem move_pc (f : Frm) (x : Int × Int × Int) : (moveF f x).pc = f.pc := by
  unfold moveF
  repeat' split
  all_goals rfl
/-- An instruction that names only what there is, and for which the stack is deep enough. -/
theorem rexec_any {A : Option Addr} {p : List Fun} {cp C : Nat} (x : Int × Int × Int) (w : World) (h : RunAt w B r (.slice A p.length cp) l o f s) (hp : ProgAt w C A p) (hC : C ≤ B) (hT : TabB w B) (hm : mayZ x.1 x.2.1 x.2.2 = true) (hk : knowsF p f x = true) (ho : 0 ≤ offI p x ∧ offI p x ≤ f.stk.length)
    (hlen : f.stk.length ≤ 1000) (hpc : 0 ≤ f.pc ∧ f.pc < 9223372036854775807) (hB : B ≤ w.heap.size) :
    Calls Tryz.prog 106 #[.pointer (some ⟨r, 0, none⟩), iv x.1 x.2.1 x.2.2] w fun e w' => ExeR B r (.slice A p.length cp) l o s w (execF p f x) e w' := by
  obtain ⟨k, hk17, hx⟩ := may_in hm
  have hr := rz_in hk17
  have hp' := p_of k hk17
  rw [← hx] at hr
  unfold offI at ho
  rw [hr, hp'] at ho
  obtain ⟨n, a, b⟩ := x
  simp only at hx ho hk ⊢
  subst hx
  unfold execF
  simp only
  by_cases h16 : (k : Int) = 16
  · rw [if_pos h16, h16]
    exact (exec_trap a b w h).mono fun e w' ⟨he, ha⟩ => ⟨akv 0, s, he, ActO.z _ _, ha⟩
  rw [if_neg h16]
  by_cases h15 : (k : Int) = 15
  · rw [if_pos h15, h15]
    rw [if_neg (by omega), if_neg (by omega), if_pos (by omega)] at ho
    exact (exec_ret a b w h (by omega) hlen hB).mono fun e w' ⟨he, s', ha⟩ => ⟨akv 4, s', he, ActO.k _ _ _, ha⟩
  rw [if_neg h15]
  by_cases h13 : (k : Int) = 13
  · rw [if_pos h13, h13]
    unfold knowsF at hk
    simp only at hk
    rw [if_neg (by omega), if_pos h13, Bool.and_eq_true] at hk
    obtain ⟨i, rfl, hi⟩ := has_nat hk.1
    obtain ⟨j, rfl, hj⟩ := has_nat hk.2
    rw [if_pos h13] at ho
    have har : arP p i = p[i].ar := by unfold arP; rw [Int.toNat_natCast, List.getElem?_eq_getElem hi]
    rw [har] at ho
    exact exec_spawn i j w h hp hC hT hi hj p[i].ar.toNat (by omega) (by omega) hlen hpc hB
  rw [if_neg h13]
  rw [if_neg h13] at ho
  by_cases h14 : (k : Int) = 14
  · rw [if_pos h14, h14]
    unfold knowsF at hk
    simp only at hk
    rw [if_neg (by omega), if_neg h13, if_pos h14] at hk
    obtain ⟨i, rfl, hi⟩ := has_nat hk
    refine (exec_join i b w h hi hlen hpc hB).mono fun e w' ⟨he, s', ha⟩ => ?_
    refine ⟨_, s', he, ?_, ha⟩
    unfold joinF
    split
    · exact ActO.k _ _ _
    · split
      · split
        · exact ActO.z _ _
        · exact ActO.k _ _ _
      · exact ActO.z _ _
  rw [if_neg h14]
  by_cases hc : (k : Int) = 3 ∨ (k : Int) = 4 ∨ (k : Int) = 5 ∨ (k : Int) = 6
  · rw [if_pos hc]
    rw [if_pos (by omega)] at ho
    refine (exec_comp k a b w hc h (by omega) hlen hpc hB).mono fun e w' ⟨he, s', ha⟩ => ?_
    refine ⟨_, s', he, ?_, ha⟩
    unfold compF
    split
    · exact ActO.k _ _ _
    · exact ActO.z _ _
  rw [if_neg hc]
  by_cases h10 : (k : Int) = 10
  · rw [if_pos h10, h10]
    exact (exec_goto a b w h).mono fun e w' ⟨he, ha⟩ => ⟨akv 1, s, he, ActO.k _ _ _, ha⟩
  rw [if_neg h10]
  by_cases h11 : (k : Int) = 11
  · rw [if_pos h11, h11]
    rw [if_neg (by omega), if_pos (by omega)] at ho
    refine (exec_zero a b w h (by omega) hlen hpc hB).mono fun e w' ⟨he, s', ha⟩ => ?_
    by_cases hz : gOf (topF f) = (0, 0)
    · rw [if_pos hz] at ha ⊢
      exact ⟨akv 1, s', he, ActO.k _ _ _, ha⟩
    · rw [if_neg hz] at ha ⊢
      exact ⟨akv 1, s', he, ActO.k _ _ _, ha⟩
  rw [if_neg h11]
  refine (exec_move ((k : Int), a, b) w h (by show (k : Int) = 0 ∨ _; omega) (fun e => ?_) (fun e => ?_) hlen hpc (move_pc _ _) hB).mono fun e w' ⟨he, s', ha⟩ => ⟨akv 1, s', he, ActO.k _ _ _, ha⟩
  · unfold knowsF at hk
    simp only at hk e
    rw [if_pos e] at hk
    exact hk
  · simp only at e
    rw [if_neg (by omega), if_pos (by omega)] at ho
    omega
end
end Go.Proofs.YtoeinpiekfmbgaaGreatDoor

