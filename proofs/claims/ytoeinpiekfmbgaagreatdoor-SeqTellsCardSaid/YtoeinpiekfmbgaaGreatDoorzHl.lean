/- Layer 9's code: more instructions that only move values. -/
import Derived.Test.YtoeinpiekfmbgaaGreatDoorzHd
namespace Go.Proofs.YtoeinpiekfmbgaaGreatDoor
set_option linter.unusedVariables false
set_option linter.unusedSimpArgs false
open Gm Go.RowKit Go.ChangeShapes Go.WideShapes Go.ChangeAt Go.Sort

section
variable {B r : Nat} {pv l o s : Value} {f : Frm}

set_option maxHeartbeats 1000000 in
set_option maxRecDepth 100000 in
theorem move_drop (w : World) (x : Int × Int × Int) (h : RunAt w B r pv l o f s) (h0 : x.1 = 9) (h1 : 1 ≤ f.stk.length) (hlen : f.stk.length ≤ 1000) (hB : B ≤ w.heap.size) :
    Calls Tryz.prog 118 #[.pointer (some ⟨r, 0, none⟩), iv x.1 x.2.1 x.2.2] w fun e w' => e = .returned (.tuple #[]) ∧ ∃ s', Aft B r pv l o s w (moveF f x) s' w' := by
  have hm : moveF f x = popF f 1 := by
    unfold moveF
    rw [if_neg (by omega), if_neg (by omega), if_neg (by omega), if_neg (by omega), if_neg (by omega), if_pos h0]
  rw [hm, h0]
  have PO := fun W (hb : Below w.heap.size w W) => Lib.hid (rpop_any W (h.below hb) h1 hlen (Nat.le_trans hB hb.size))
  clear h hB hlen h0 hm h1
  go_enter Tryz.func118, Tryz.ntmps118
  go_wp2_with (go_at_call 112; ((with_reducible refine (PO _ ?_).out.mono ?_); (focus (go_grown))); rintro _ u ⟨rfl, s', ha⟩; have ha2 := Aft.pre (w0 := w) (by go_grown) ha)
  go_end0
  exact ⟨rfl, s', ha2⟩

set_option maxHeartbeats 1000000 in
set_option maxRecDepth 100000 in
theorem move_conj (w : World) (x : Int × Int × Int) (h : RunAt w B r pv l o f s) (h0 : x.1 = 7) (h1 : 1 ≤ f.stk.length) (hlen : f.stk.length ≤ 1000) (hB : B ≤ w.heap.size) :
    Calls Tryz.prog 118 #[.pointer (some ⟨r, 0, none⟩), iv x.1 x.2.1 x.2.2] w fun e w' => e = .returned (.tuple #[]) ∧ ∃ s', Aft B r pv l o s w (moveF f x) s' w' := by
  have hm : moveF f x = pushF (popF f 1) [gConj (topF f)] := by
    unfold moveF
    rw [if_neg (by omega), if_neg (by omega), if_neg (by omega), if_pos h0]
  rw [hm, h0]
  have PO := fun W (hb : Below w.heap.size w W) => Lib.hid (rpop_any W (h.below hb) h1 hlen (Nat.le_trans hB hb.size))
  have CJ := fun W => Lib.hid (conj_any (topF f).1 (topF f).2 W)
  change ∀ W, Hid (Calls Tryz.prog 125 #[gv (topF f).1 (topF f).2] W fun e w' => e = .returned (gv (gConj (topF f)).1 (gConj (topF f)).2) ∧ Below W.heap.size W w') at CJ
  have hpl : (popF f 1).stk.length ≤ 1000 := by unfold popF; simp only [List.length_take]; omega
  have PU := fun s1 W (hr : RunAt W B r pv l o (popF f 1) s1) (hB : B ≤ W.heap.size) W' (hb : Below W.heap.size W W') (y z : Int) (A : Option Addr) (C : Nat) (hv : VAt W' C A [(y, z)]) => Lib.hid (rpush_any 1 1 W' (hr.below hb) hv rfl (by omega) (by omega) (Nat.le_trans hB hb.size))
  generalize gConj (topF f) = cv at *
  have HB := Lib.hid hB
  clear h hB hlen h0 hm h1 hpl
  go_enter Tryz.func118, Tryz.ntmps118
  go_wp2_with (first
    | (go_at_call 112; ((with_reducible refine (PO _ ?_).out.mono ?_); (focus (go_grown))); rintro _ u ⟨rfl, s', ha⟩; have ha2 := Aft.pre (w0 := w) (by go_grown) ha; have hBu := Nat.le_trans HB.out ha2.kp.size; clear ha)
    | (go_at_call 125; (with_reducible refine (CJ _).out.mono ?_); rintro _ u2 ⟨rfl, hb2⟩)
    | (go_at_call 122; ((with_reducible refine (PU _ _ ha2.run hBu _ (hb2.alloc hb2.size _) _ _ _ _ (vat_one_e _ _ _ _ ?_)).out.mono ?_); (focus (simp))); rintro _ u3 ⟨rfl, s3, ha3⟩))
  go_end0
  exact ⟨rfl, s3, (ha2.below (hb2.alloc hb2.size _)).trans ha3⟩

set_option maxHeartbeats 1000000 in
set_option maxRecDepth 100000 in
theorem move_dup (w : World) (x : Int × Int × Int) (h : RunAt w B r pv l o f s) (h0 : x.1 = 8) (h1 : 1 ≤ f.stk.length) (hlen : f.stk.length ≤ 1000) (hB : B ≤ w.heap.size) :
    Calls Tryz.prog 118 #[.pointer (some ⟨r, 0, none⟩), iv x.1 x.2.1 x.2.2] w fun e w' => e = .returned (.tuple #[]) ∧ ∃ s', Aft B r pv l o s w (moveF f x) s' w' := by
  have hm : moveF f x = pushF (popF f 1) [topF f, topF f] := by
    unfold moveF
    rw [if_neg (by omega), if_neg (by omega), if_neg (by omega), if_neg (by omega), if_pos h0]
  rw [hm, h0]
  have PO := fun W (hb : Below w.heap.size w W) => Lib.hid (rpop_any W (h.below hb) h1 hlen (Nat.le_trans hB hb.size))
  have hpl : (popF f 1).stk.length ≤ 1000 := by unfold popF; simp only [List.length_take]; omega
  have PU := fun s1 W (hr : RunAt W B r pv l o (popF f 1) s1) (hB : B ≤ W.heap.size) W' (hb : Below W.heap.size W W') (y z y2 z2 : Int) (A : Option Addr) (C : Nat) (hv : VAt W' C A [(y, z), (y2, z2)]) => Lib.hid (rpush_any 2 2 W' (hr.below hb) hv rfl (by omega) (by omega) (Nat.le_trans hB hb.size))
  generalize topF f = cv at *
  have HB := Lib.hid hB
  clear h hB hlen h0 hm h1 hpl
  go_enter Tryz.func118, Tryz.ntmps118
  go_wp2_with (first
    | (go_at_call 112; ((with_reducible refine (PO _ ?_).out.mono ?_); (focus (go_grown))); rintro _ u ⟨rfl, s', ha⟩; have ha2 := Aft.pre (w0 := w) (by go_grown) ha; have hBu := Nat.le_trans HB.out ha2.kp.size; clear ha)
    | (go_at_call 122; go_loud (((with_reducible refine (PU _ _ ha2.run hBu _ (((Below.refl _ _).alloc (Nat.le_refl _) _).alloc ?_ _) _ _ _ _ _ _ (vat_two_e _ _ _ _ _ _ ?_)).out.mono ?_); (focus (simp)); (focus (simp))); rintro _ u3 ⟨rfl, s3, ha3⟩)))
  go_end0
  exact ⟨rfl, s3, (ha2.below (((Below.refl _ _).alloc (Nat.le_refl _) _).alloc (by simp) _)).trans ha3⟩

set_option maxHeartbeats 1000000 in
set_option maxRecDepth 100000 in
theorem move_rand (w : World) (x : Int × Int × Int) (h : RunAt w B r pv l o f s) (h0 : x.1 = 12) (hlen : f.stk.length ≤ 1000) (hB : B ≤ w.heap.size) :
    Calls Tryz.prog 118 #[.pointer (some ⟨r, 0, none⟩), iv x.1 x.2.1 x.2.2] w fun e w' => e = .returned (.tuple #[]) ∧ ∃ s', Aft B r pv l o s w (moveF f x) s' w' := by
  have hm : moveF f x = { pushF f [drawZ f.seed f.drw] with drw := wrap64 (f.drw + 1) } := by
    unfold moveF
    rw [if_neg (by omega), if_neg (by omega), if_neg (by omega), if_neg (by omega), if_neg (by omega), if_neg (by omega), if_pos h0]
  rw [hm, h0]
  have DR := draw_any f.seed f.drw
  have PU := fun W (y z : Int) (A : Option Addr) (C : Nat) (hv : VAt W C A [(y, z)]) (hb : Below w.heap.size w W) => Lib.hid (rpush_any 1 1 W (h.below hb) hv rfl (by omega) (by omega) (Nat.le_trans hB hb.size))
  generalize drawZ f.seed f.drw = cv at *
  have H := Lib.hid h
  have r5 := h.cells 5
  have r7 := h.cells 7
  have hrl := h.rlt
  have n0 := Nat.ne_of_lt hrl
  simp at r5 r7
  clear h hB hlen h0 hm
  go_enter Tryz.func118, Tryz.ntmps118
  go_upto_region 16 with (fail)
  go_region_with (first
    | (go_at_call 126; go_loud ((with_reducible refine (DR.go _).mono ?_); rintro _ u ⟨rfl, hb⟩; have hbw : Below w.heap.size w u := Below.step (by go_grown) hb))
    | (go_at_call 122; go_loud (((with_reducible refine (PU _ _ _ _ _ (vat_one_e _ _ _ _ ?_) (hbw.alloc hbw.size _)).out.mono ?_); (focus (simp))); rintro _ u2 ⟨rfl, s', ha⟩; have ha2 := Aft.pre (w0 := w) (hbw.alloc hbw.size _) ha; have e7 := ha2.run.cells 7; have z7 := ha2.run.blk.fz 7; simp [pushF] at e7)))
  all_goals go_wp2_with fail
  all_goals go_end0
  all_goals exact ⟨rfl, s', ha2.sto 7 _ _ rfl rfl rfl rfl⟩
end
end Go.Proofs.YtoeinpiekfmbgaaGreatDoor

/- Layer 9's code: a value is stored into a local; all instructions that only move values. -/
namespace Go.Proofs.YtoeinpiekfmbgaaGreatDoor
set_option linter.unusedVariables false
set_option linter.unusedSimpArgs false
open Gm Go.RowKit Go.ChangeShapes Go.WideShapes Go.ChangeAt Go.Sort

section
variable {B r : Nat} {pv l o s : Value} {f : Frm}

set_option maxHeartbeats 1000000 in
set_option maxRecDepth 100000 in
theorem move_store (w : World) (x : Int × Int × Int) (h : RunAt w B r pv l o f s) (h0 : x.1 = 2) (h1 : 1 ≤ f.stk.length) (hx : hasI f.loc.length x.2.1 = true) (hlen : f.stk.length ≤ 1000) (hB : B ≤ w.heap.size) :
    Calls Tryz.prog 118 #[.pointer (some ⟨r, 0, none⟩), iv x.1 x.2.1 x.2.2] w fun e w' => e = .returned (.tuple #[]) ∧ ∃ s', Aft B r pv l o s w (moveF f x) s' w' := by
  obtain ⟨k, hk, hkl⟩ := has_nat hx
  have hm : moveF f x = { popF f 1 with loc := (popF f 1).loc.set k (topF f) } := by
    unfold moveF
    rw [if_neg (by omega), if_neg (by omega), if_pos h0, hk, Int.toNat_natCast]
    rfl
  rw [hm, h0, hk]
  obtain ⟨g, c, rfl⟩ := own_form h.ol (by omega)
  have PO := fun W (hb : Below w.heap.size w W) => Lib.hid (rpop_any W (h.below hb) h1 hlen (Nat.le_trans hB hb.size))
  have hkp : k < (popF f 1).loc.length := hkl
  generalize topF f = tv at *
  have HK := Lib.hid hkp
  have hkl2 : (k : Int) < f.loc.length := by omega
  have r3 := h.cells 3
  have hrl := h.rlt
  have n0 := Nat.ne_of_lt hrl
  have H := Lib.hid h
  simp at r3
  clear h hB hlen h0 hm h1 hx hk hkp
  go_enter Tryz.func118, Tryz.ntmps118
  go_upto_region 7 with (fail)
  have hbx := Held.new w 92 #[.int .i64 2, .int .i64 k, .int .i64 x.2.2]
  go_region_with (go_at_call 112; go_loud (((with_reducible refine (PO _ ?_).out.mono ?_); (focus (go_grown))); rintro _ u ⟨rfl, s', ha⟩; have ha2 := Aft.pre (w0 := w) (by go_grown) ha; have r3 := ha.run.cells 3; have hbu := ha.held (held_drew hbx) (H.out.off (Nat.le_refl _)); have x1 := hbu.cell 1; obtain ⟨l0, l1, z0, z1⟩ := own_vs ha.run.ol HK.out; simp at r3 x1))
  all_goals go_wp2_with fail
  all_goals go_end0
  all_goals exact ⟨rfl, s', ha2.loc k tv HK.out⟩

/-- Each instruction that only moves values. -/
theorem rmove_any (w : World) (x : Int × Int × Int) (h : RunAt w B r pv l o f s) (hk : x.1 = 0 ∨ x.1 = 1 ∨ x.1 = 2 ∨ x.1 = 7 ∨ x.1 = 8 ∨ x.1 = 9 ∨ x.1 = 12) (hx : (x.1 = 1 ∨ x.1 = 2) → hasI f.loc.length x.2.1 = true)
    (h1 : (x.1 = 2 ∨ x.1 = 7 ∨ x.1 = 8 ∨ x.1 = 9) → 1 ≤ f.stk.length) (hlen : f.stk.length ≤ 1000) (hB : B ≤ w.heap.size) :
    Calls Tryz.prog 118 #[.pointer (some ⟨r, 0, none⟩), iv x.1 x.2.1 x.2.2] w fun e w' => e = .returned (.tuple #[]) ∧ ∃ s', Aft B r pv l o s w (moveF f x) s' w' := by
  rcases hk with e | e | e | e | e | e | e
  · exact move_push w x h e hlen hB
  · exact move_load w x h e (hx (.inl e)) hlen hB
  · exact move_store w x h e (h1 (.inl e)) (hx (.inr e)) hlen hB
  · exact move_conj w x h e (h1 (.inr (.inl e))) hlen hB
  · exact move_dup w x h e (h1 (.inr (.inr (.inl e)))) hlen hB
  · exact move_drop w x h e (h1 (.inr (.inr (.inr e)))) hlen hB
  · exact move_rand w x h e hlen hB
end
end Go.Proofs.YtoeinpiekfmbgaaGreatDoor

