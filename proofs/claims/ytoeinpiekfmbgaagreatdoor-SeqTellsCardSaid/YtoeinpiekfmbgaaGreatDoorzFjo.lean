/- Layer 9's code: the runner joins. -/
import Derived.Test.YtoeinpiekfmbgaaGreatDoorzFcp
namespace Go.Proofs.YtoeinpiekfmbgaaGreatDoor
set_option linter.unusedVariables false
set_option linter.unusedSimpArgs false
open Gm Go.RowKit Go.ChangeShapes Go.WideShapes Go.ChangeAt Go.Sort

section
variable {B r : Nat} {pv l o s : Value} {f : Frm}
theorem new_at {Y : World} {g : Nat} (hg : Y.heap.size = g) (t : TypeId) (cs : Array Value) : Held (Y.alloc (.cells cs t)) g t cs := by
  subst hg
  exact Held.new Y t cs
set_option maxHeartbeats 2000000 in
set_option maxRecDepth 100000 in
theorem rjoin_any (m : Nat) (w : World) (h : RunAt w B r pv l o f s) (hm : m < f.slt.length) (hlen : f.stk.length ≤ 1000) (hpc : 0 ≤ f.pc ∧ f.pc < 9223372036854775807) (hB : B ≤ w.heap.size) :
    Calls Tryz.prog 114 #[.pointer (some ⟨r, 0, none⟩), .int .i64 m] w fun e w' => e = .returned (aks (joinF f m).2.1.kd (joinF f m).2.2) ∧ ∃ s', Aft B r pv l o s w (joinF f m).1 s' w' := by
  obtain ⟨g, c, rfl⟩ := own_form h.oo (by omega)
  obtain ⟨⟨y0, y1, y2, y3, y4, y5⟩, yz⟩ := own_ss h.oo hm
  have hsl : sltAt f m = f.slt[m] := by unfold sltAt; rw [Int.toNat_natCast, List.getD_eq_getElem?_getD, List.getElem?_eq_getElem hm]; rfl
  have hm2 : (m : Int) < f.slt.length := by omega
  have hgl := (h.lts (.inr (.inr (.inr rfl)))).2
  have hgw := Nat.ne_of_lt hgl
  have hrl := h.rlt
  have hrw := Nat.ne_of_lt hrl
  have hor : g ≠ r := fun e => h.or (by rw [← e]; rfl)
  have r4 := h.cells 4
  have r8 := h.cells 8
  have r9 := h.cells 9
  have z8 := h.blk.fz 8
  have z9 := h.blk.fz 9
  simp at r4 r8 r9
  have H := Lib.hid h
  have HB := Lib.hid hB
  have HM := Lib.hid hm
  have hF : joinF f m = if f.slt[m].st = 1 then ({ f with st := 1, wt := m }, actK 3, 0) else if f.slt[m].st = 2 then (if f.slt[m].tr ≠ 0 then ({ f with slt := f.slt.set m slt0 }, act0, f.slt[m].tr)
      else (goF (pushF { f with slt := f.slt.set m slt0 } [(f.slt[m].re, f.slt[m].im)]) (f.pc + 1), actK 1, 0)) else (f, act0, 2) := by unfold joinF; rw [hsl, Int.toNat_natCast]; rfl
  rw [hF]
  have y0z := yz (m * 6)
  have y1z := yz (m * 6 + 1)
  have y2z := yz (m * 6 + 2)
  have y3z := yz (m * 6 + 3)
  have y4z := yz (m * 6 + 4)
  have y5z := yz (m * 6 + 5)
  generalize f.slt[m] = sm at *
  obtain ⟨st, kat, kgn, tr, re, im⟩ := sm
  simp only at y0 y1 y2 y3 y4 y5 ⊢
  clear hF hsl h hB hm yz
  by_cases h1 : st = 1
  · rw [if_pos h1]
    subst h1
    have A0 := Lib.hid (((Aft.refl H.out).sto 8 (.int .i64 1) { f with st := 1 } rfl rfl rfl rfl).sto 9 (.int .i64 m) { f with st := 1, wt := m } rfl rfl rfl rfl)
    go_enter Tryz.func114, Tryz.ntmps114
    go_wp2_with fail
    go_returns
    exact ⟨rfl, _, (A0.out.alloc _).alloc _⟩
  rw [if_neg h1]
  have e1 : (st == 1) = false := by simpa using h1
  by_cases h2 : st = 2
  · rw [if_pos h2]
    subst h2
    have A0 := Lib.hid ((Aft.refl H.out).slot m ⟨0, 0, 0, 0, 0, 0⟩ HM.out)
    have OFF := Lib.hid (H.out.off (Nat.le_refl w.heap.size))
    by_cases ht : tr = 0
    · rw [if_neg (by simpa using ht)]
      subst ht
      have PU := fun W (hr : RunAt W B r pv l (.slice (some ⟨g, 0, none⟩) f.slt.length c) { f with slt := f.slt.set m ⟨0, 0, 0, 0, 0, 0⟩ } s) (hb : w.heap.size ≤ W.heap.size) (y z : Int) (A : Option Addr) (C : Nat) (hv : VAt W C A [(y, z)]) => Lib.hid (rpush_any 1 1 W hr hv rfl (by omega) (by show f.stk.length + 1 ≤ _; omega) (Nat.le_trans HB.out hb))
      have GT := fun s1 W (hr : RunAt W B r pv l (.slice (some ⟨g, 0, none⟩) f.slt.length c) (pushF { f with slt := f.slt.set m ⟨0, 0, 0, 0, 0, 0⟩ } [(re, im)]) s1) => Lib.hid (rgoto_any (f.pc + 1) W hr)
      have hY : ((((((w.setCell ⟨g, m * 6, none⟩ (.int .i64 0)).setCell ⟨g, m * 6 + 1, none⟩ (.int .i64 0)).setCell ⟨g, m * 6 + 2, none⟩ (.int .i64 0)).setCell ⟨g, m * 6 + 3, none⟩ (.int .i64 0)).setCell ⟨g, m * 6 + 4, none⟩ (.int .i64 0)).setCell ⟨g, m * 6 + 5, none⟩ (.int .i64 0)).heap.size = w.heap.size := by simp
      have HY := Lib.hid hY
      clear hY
      go_enter Tryz.func114, Tryz.ntmps114
      go_wp2_with (first
        | (go_at_call 122; go_loud (((with_reducible refine (PU _ (((A0.out.alloc _).alloc _).alloc _).run ?_ _ _ _ _ (vat_one_e _ _ _ _ ?_)).out.mono ?_); (focus (simp; omega)); (focus (simp))); rintro _ u3 ⟨rfl, s3, ha3⟩; have A3 := (((A0.out.alloc _).alloc _).alloc _).trans ha3; have r1 := A3.run.cells 1; have h3r := ha3.held (((new_at HY.out 77 az0).alloc _).alloc _) OFF.out; have o3 := ha3.off OFF.out (((new_at HY.out 77 az0).alloc _).alloc _).lt; simp [pushF] at r1))
        | (go_at_call 116; go_loud ((with_reducible refine (GT _ _ A3.run).out.mono ?_); rintro _ u4 ⟨rfl, ha4⟩; have A4 := A3.trans ha4; have hof := ha4.off o3 h3r.lt; have hr4 := ha4.held h3r o3; obtain ⟨q0, q1, q2, q3, q4, z0, z1, z2, z3, z4⟩ := five hr4)))
      have hr5 := set5 hr4 (.int .i64 1) (.int .i64 0) (.int .i64 0) (.int .i64 0) (.slice none 0 0)
      have A5 := A4.far5 hof (Nat.le_refl _) (.int .i64 1) (.int .i64 0) (.int .i64 0) (.int .i64 0) (.slice none 0 0)
      generalize (World.setCell _ ⟨w.heap.size, 4, none⟩ _) = W5 at *
      obtain ⟨d0, d1, d2, d3, d4, _⟩ := five hr5
      exact bodyPost_ret (v := aks 1 0) (by simp [results, Tryz.results114, go_sem, d0, d1, d2, d3, d4]) rfl ⟨rfl, _, A5⟩
    · rw [if_pos ht]
      have e3 : (tr != 0) = true := by simpa using ht
      go_enter Tryz.func114, Tryz.ntmps114
      go_upto_region 10 with (fail)
      go_region
      all_goals go_wp2_with fail
      all_goals go_returns
      all_goals exact ⟨rfl, _, ((A0.out.alloc _).alloc _).drew⟩
  · rw [if_neg h2]
    have e2 : (st == 2) = false := by simpa using h2
    go_enter Tryz.func114, Tryz.ntmps114
    go_wp2_with fail
    go_returns
    exact ⟨rfl, _, ((Aft.refl H.out).alloc _).alloc _⟩
end
end Go.Proofs.YtoeinpiekfmbgaaGreatDoor

