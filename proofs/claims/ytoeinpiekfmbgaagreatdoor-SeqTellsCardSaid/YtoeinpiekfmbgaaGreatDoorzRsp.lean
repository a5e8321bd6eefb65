/- Layer 9: the document's spawn, into an empty slot. -/
import Derived.Test.YtoeinpiekfmbgaaGreatDoorzRsz
import Derived.Test.YtoeinpiekfmbgaaGreatDoorzSb
namespace Go.Proofs.YtoeinpiekfmbgaaGreatDoor
set_option linter.unusedVariables false
set_option linter.unusedSimpArgs false
open Gm Go.RowKit Go.ChangeShapes Go.WideShapes Go.ChangeAt Go.Sort

set_option maxHeartbeats 4000000 in
set_option maxRecDepth 100000 in
theorem spawn_free {B : Nat} {f : Frm} {As Al Av : Option Addr} {cs nl cl co cv m g d n : Nat} (a : Int) (w : World) (hs : OwnVs w B (.slice As (d + n) cs) f.stk) (hl : OwnVs w B (.slice Al nl cl) f.loc) (ho : OwnSs w B (.slice (some ⟨g, 0, none⟩) f.slt.length co) f.slt)
    (hv : OwnVs w B (.slice Av n cv) (f.stk.drop d)) (hm : m < f.slt.length) (hst : f.slt[m].st = 0) (hL : d + n ≤ 1000) (hpc : 0 ≤ f.pc ∧ f.pc < 1000000) (hB : B ≤ w.heap.size) :
    Calls Tryz.prog 53 #[fv f (.slice As (d + n) cs) (.slice Al nl cl) (.slice (some ⟨g, 0, none⟩) f.slt.length co), .agg #[.int .i64 13, .int .i64 a, .int .i64 m], .slice Av n cv] w
      (TwoR w B { f with slt := f.slt.set m ⟨1, -1, 0, 0, 0, 0⟩, stk := f.stk.take d, spn := wrap64 (f.spn + 1), pc := f.pc + 1 } ⟨2, a, m, useZ f.seed 1 f.spn, f.stk.drop d⟩) := by
  have hgB := ho.lt g rfl
  obtain ⟨⟨y0, y1, y2, y3, y4, y5⟩, yz⟩ := own_ss ho hm
  have hm2 : (m : Int) < f.slt.length := by omega
  have S := st4 w B f (13, a, m) (.slice As (d + n) cs) (.slice Al nl cl) (.slice (some ⟨g, 0, none⟩) f.slt.length co)
  have HN := Lib.hid (show f.stk.length = d + n from hs.len)
  have hcap := own_cap hs
  have hsg : ∀ b, (Value.slice As (d + n) cs).ownBlock = some b → b ≠ g := fun b e e2 => rows_ne hs ho tyVS b e (by rw [e2]; rfl)
  have hlg : ∀ b, (Value.slice Al nl cl).ownBlock = some b → b ≠ g := fun b e e2 => rows_ne hl ho tyVS b e (by rw [e2]; rfl)
  have hvg : ∀ b, (Value.slice Av n cv).ownBlock = some b → b ≠ g := fun b e e2 => rows_ne hv ho tyVS b e (by rw [e2]; rfl)
  have hst2 : (f.slt[m].st != 0) = false := by simpa using hst
  have key : ∀ W0, Below w.heap.size w W0 → OwnVs (six W0 g m ⟨1, -1, 0, 0, 0, 0⟩) B (.slice As d cs) (f.stk.take d) ∧ OwnVs (six W0 g m ⟨1, -1, 0, 0, 0, 0⟩) B (.slice Al nl cl) f.loc ∧ OwnSs (six W0 g m ⟨1, -1, 0, 0, 0, 0⟩) B (.slice (some ⟨g, 0, none⟩) f.slt.length co) (f.slt.set m ⟨1, -1, 0, 0, 0, 0⟩) ∧ OwnVs (six W0 g m ⟨1, -1, 0, 0, 0, 0⟩) B (.slice Av n cv) (f.stk.drop d) := fun W0 hb =>
    ⟨cut_own (row_same (row_later hs hb) fun b e => six_far W0 g m _ b (hsg b e)) (by have := HN.out; omega), row_same (row_later hl hb) fun b e => six_far W0 g m _ b (hlg b e), OwnSs.set (row_later ho hb) m ⟨1, -1, 0, 0, 0, 0⟩ hm, row_same (row_later hv hb) fun b e => six_far W0 g m _ b (hvg b e)⟩
  have KY := Lib.hid key
  generalize f.slt[m] = st at *
  have HLL := Lib.hid hL
  have HPC := Lib.hid hpc
  clear hst hs hl ho hv hsg hlg hvg key hL hpc
  go_enter Tryz.func53, Tryz.ntmps53
  go_upto_region 1 with (fail)
  generalize ((((w.alloc (.cells (fcA f (.slice As (d + n) cs) (.slice Al nl cl) (.slice (some ⟨g, 0, none⟩) f.slt.length co)) 45)).alloc (.cells #[.int .i64 13, .int .i64 a, .int .i64 m] 92)).alloc (.cells fz0 45)).alloc (.cells ac0 77)) = W0 at *
  have x4 := S.fr.cell 4
  have i2 := S.is.cell 2
  simp at x4 i2
  replace y0 := (S.b.cell (p := ⟨g, _, none⟩) hgB.2).trans y0
  replace y1 := (S.b.cell (p := ⟨g, _, none⟩) hgB.2).trans y1
  replace y2 := (S.b.cell (p := ⟨g, _, none⟩) hgB.2).trans y2
  replace y3 := (S.b.cell (p := ⟨g, _, none⟩) hgB.2).trans y3
  replace y4 := (S.b.cell (p := ⟨g, _, none⟩) hgB.2).trans y4
  replace y5 := (S.b.cell (p := ⟨g, _, none⟩) hgB.2).trans y5
  have z0 := (S.b.frozen (p := ⟨g, m * 6, none⟩) hgB.2).trans (yz _)
  have z1 := (S.b.frozen (p := ⟨g, m * 6 + 1, none⟩) hgB.2).trans (yz _)
  have z2 := (S.b.frozen (p := ⟨g, m * 6 + 2, none⟩) hgB.2).trans (yz _)
  have z3 := (S.b.frozen (p := ⟨g, m * 6 + 3, none⟩) hgB.2).trans (yz _)
  have z4 := (S.b.frozen (p := ⟨g, m * 6 + 4, none⟩) hgB.2).trans (yz _)
  have z5 := (S.b.frozen (p := ⟨g, m * 6 + 5, none⟩) hgB.2).trans (yz _)
  have SS := Lib.hid S
  have hgl : g < W0.heap.size := by have := S.z; omega
  clear S yz
  go_upto_region 4 with (fail)
  have fr1 : Held ((((((W0.setCell ⟨g, m * 6, none⟩ (.int .i64 1)).setCell ⟨g, m * 6 + 1, none⟩ (.int .i64 (-1))).setCell ⟨g, m * 6 + 2, none⟩ (.int .i64 0)).setCell ⟨g, m * 6 + 3, none⟩ (.int .i64 0)).setCell ⟨g, m * 6 + 4, none⟩ (.int .i64 0)).setCell ⟨g, m * 6 + 5, none⟩ (.int .i64 0)) w.heap.size 45 (fcA f (.slice As (d + n) cs) (.slice Al nl cl) (.slice (some ⟨g, 0, none⟩) f.slt.length co)) := (six_far W0 g m ⟨1, -1, 0, 0, 0, 0⟩ _ (by omega)).trans SS.out.fr
  have is1 : Held ((((((W0.setCell ⟨g, m * 6, none⟩ (.int .i64 1)).setCell ⟨g, m * 6 + 1, none⟩ (.int .i64 (-1))).setCell ⟨g, m * 6 + 2, none⟩ (.int .i64 0)).setCell ⟨g, m * 6 + 3, none⟩ (.int .i64 0)).setCell ⟨g, m * 6 + 4, none⟩ (.int .i64 0)).setCell ⟨g, m * 6 + 5, none⟩ (.int .i64 0)) (w.heap.size + 1) 92 #[.int .i64 13, .int .i64 a, .int .i64 m] := (six_far W0 g m ⟨1, -1, 0, 0, 0, 0⟩ _ (by omega)).trans SS.out.is
  have re1 : Held ((((((W0.setCell ⟨g, m * 6, none⟩ (.int .i64 1)).setCell ⟨g, m * 6 + 1, none⟩ (.int .i64 (-1))).setCell ⟨g, m * 6 + 2, none⟩ (.int .i64 0)).setCell ⟨g, m * 6 + 3, none⟩ (.int .i64 0)).setCell ⟨g, m * 6 + 4, none⟩ (.int .i64 0)).setCell ⟨g, m * 6 + 5, none⟩ (.int .i64 0)) (w.heap.size + 1 + 1) 45 fz0 := (six_far W0 g m ⟨1, -1, 0, 0, 0, 0⟩ _ (by omega)).trans SS.out.re
  have ac1 : Held ((((((W0.setCell ⟨g, m * 6, none⟩ (.int .i64 1)).setCell ⟨g, m * 6 + 1, none⟩ (.int .i64 (-1))).setCell ⟨g, m * 6 + 2, none⟩ (.int .i64 0)).setCell ⟨g, m * 6 + 3, none⟩ (.int .i64 0)).setCell ⟨g, m * 6 + 4, none⟩ (.int .i64 0)).setCell ⟨g, m * 6 + 5, none⟩ (.int .i64 0)) (w.heap.size + 1 + 1 + 1) 77 ac0 := (six_far W0 g m ⟨1, -1, 0, 0, 0, 0⟩ _ (by omega)).trans SS.out.ac
  have bw1 : Below B w ((((((W0.setCell ⟨g, m * 6, none⟩ (.int .i64 1)).setCell ⟨g, m * 6 + 1, none⟩ (.int .i64 (-1))).setCell ⟨g, m * 6 + 2, none⟩ (.int .i64 0)).setCell ⟨g, m * 6 + 3, none⟩ (.int .i64 0)).setCell ⟨g, m * 6 + 4, none⟩ (.int .i64 0)).setCell ⟨g, m * 6 + 5, none⟩ (.int .i64 0)) := six_below ⟨1, -1, 0, 0, 0, 0⟩ (SS.out.b.mono hB) hgB.1
  have sz1 : ((((((W0.setCell ⟨g, m * 6, none⟩ (.int .i64 1)).setCell ⟨g, m * 6 + 1, none⟩ (.int .i64 (-1))).setCell ⟨g, m * 6 + 2, none⟩ (.int .i64 0)).setCell ⟨g, m * 6 + 3, none⟩ (.int .i64 0)).setCell ⟨g, m * 6 + 4, none⟩ (.int .i64 0)).setCell ⟨g, m * 6 + 5, none⟩ (.int .i64 0)).heap.size = w.heap.size + 4 := (six_size W0 g m ⟨1, -1, 0, 0, 0, 0⟩).trans SS.out.z
  have os : OwnVs ((((((W0.setCell ⟨g, m * 6, none⟩ (.int .i64 1)).setCell ⟨g, m * 6 + 1, none⟩ (.int .i64 (-1))).setCell ⟨g, m * 6 + 2, none⟩ (.int .i64 0)).setCell ⟨g, m * 6 + 3, none⟩ (.int .i64 0)).setCell ⟨g, m * 6 + 4, none⟩ (.int .i64 0)).setCell ⟨g, m * 6 + 5, none⟩ (.int .i64 0)) B (.slice As d cs) (f.stk.take d) := (KY.out W0 SS.out.b).1
  have ol : OwnVs ((((((W0.setCell ⟨g, m * 6, none⟩ (.int .i64 1)).setCell ⟨g, m * 6 + 1, none⟩ (.int .i64 (-1))).setCell ⟨g, m * 6 + 2, none⟩ (.int .i64 0)).setCell ⟨g, m * 6 + 3, none⟩ (.int .i64 0)).setCell ⟨g, m * 6 + 4, none⟩ (.int .i64 0)).setCell ⟨g, m * 6 + 5, none⟩ (.int .i64 0)) B (.slice Al nl cl) f.loc := (KY.out W0 SS.out.b).2.1
  have oo : OwnSs ((((((W0.setCell ⟨g, m * 6, none⟩ (.int .i64 1)).setCell ⟨g, m * 6 + 1, none⟩ (.int .i64 (-1))).setCell ⟨g, m * 6 + 2, none⟩ (.int .i64 0)).setCell ⟨g, m * 6 + 3, none⟩ (.int .i64 0)).setCell ⟨g, m * 6 + 4, none⟩ (.int .i64 0)).setCell ⟨g, m * 6 + 5, none⟩ (.int .i64 0)) B (.slice (some ⟨g, 0, none⟩) f.slt.length co) (f.slt.set m ⟨1, -1, 0, 0, 0, 0⟩) := (KY.out W0 SS.out.b).2.2.1
  have ov : OwnVs ((((((W0.setCell ⟨g, m * 6, none⟩ (.int .i64 1)).setCell ⟨g, m * 6 + 1, none⟩ (.int .i64 (-1))).setCell ⟨g, m * 6 + 2, none⟩ (.int .i64 0)).setCell ⟨g, m * 6 + 3, none⟩ (.int .i64 0)).setCell ⟨g, m * 6 + 4, none⟩ (.int .i64 0)).setCell ⟨g, m * 6 + 5, none⟩ (.int .i64 0)) B (.slice Av n cv) (f.stk.drop d) := (KY.out W0 SS.out.b).2.2.2
  clear KY
  generalize ((((((W0.setCell ⟨g, m * 6, none⟩ (.int .i64 1)).setCell ⟨g, m * 6 + 1, none⟩ (.int .i64 (-1))).setCell ⟨g, m * 6 + 2, none⟩ (.int .i64 0)).setCell ⟨g, m * 6 + 3, none⟩ (.int .i64 0)).setCell ⟨g, m * 6 + 4, none⟩ (.int .i64 0)).setCell ⟨g, m * 6 + 5, none⟩ (.int .i64 0)) = W1 at *
  have x2 := fr1.cell 2
  have f2 := fr1.fz 2
  have i1 := is1.cell 1
  replace i2 := is1.cell 2
  have hwl : w.heap.size < W1.heap.size := by omega
  simp at x2 i1 i2
  have hsub : wrap64 (((d + n : Nat) : Int) - (n : Int)) = (d : Int) := by unfold wrap64; omega
  have hd0 : (0 : Int) ≤ d := by omega
  have hd1 : (d : Int) ≤ cs := by omega
  have OS := Lib.hid os
  have OL := Lib.hid ol
  have OO := Lib.hid oo
  have OV := Lib.hid ov
  have FR := Lib.hid fr1
  have IS := Lib.hid is1
  have RE := Lib.hid re1
  have AC := Lib.hid ac1
  have BW := Lib.hid bw1
  clear y0 y1 y2 y3 y4 y5 z0 z1 z2 z3 z4 z5 x4 SS fr1 is1 re1 ac1 bw1 os ol oo ov hst2 hgl
  have CH := Lib.hid (rchild_any f.seed f.spn)
  generalize useZ f.seed 1 f.spn = uz at *
  go_upto_region 5 with (fail)
  have FR2 := Lib.hid (show Held (W1.setCell ⟨w.heap.size, 2, none⟩ (.slice As d cs)) w.heap.size 45 (fcA f (.slice As d cs) (.slice Al nl cl) (.slice (some ⟨g, 0, none⟩) f.slt.length co)) from FR.out.set_at 2 _)
  have far2 : ∀ k, k ≠ w.heap.size → (W1.setCell ⟨w.heap.size, 2, none⟩ (.slice As d cs)).heap[k]? = W1.heap[k]? := fun k hk => Below.heap_setCell W1 ⟨w.heap.size, 2, none⟩ _ k hk
  have IS2 := Lib.hid (show Held (W1.setCell ⟨w.heap.size, 2, none⟩ (.slice As d cs)) (w.heap.size + 1) 92 #[.int .i64 13, .int .i64 a, .int .i64 m] from (far2 _ (by omega)).trans IS.out)
  have RE2 := Lib.hid (show Held (W1.setCell ⟨w.heap.size, 2, none⟩ (.slice As d cs)) (w.heap.size + 1 + 1) 45 fz0 from (far2 _ (by omega)).trans RE.out)
  have AC2 := Lib.hid (show Held (W1.setCell ⟨w.heap.size, 2, none⟩ (.slice As d cs)) (w.heap.size + 1 + 1 + 1) 77 ac0 from (far2 _ (by omega)).trans AC.out)
  have OF2 := Lib.hid (show OwnF (W1.setCell ⟨w.heap.size, 2, none⟩ (.slice As d cs)) B (fv { f with stk := f.stk.take d, slt := f.slt.set m ⟨1, -1, 0, 0, 0, 0⟩ } (.slice As d cs) (.slice Al nl cl) (.slice (some ⟨g, 0, none⟩) f.slt.length co)) { f with stk := f.stk.take d, slt := f.slt.set m ⟨1, -1, 0, 0, 0, 0⟩ } from
    ⟨_, _, _, rfl, row_same OS.out fun b e => far2 b (row_apart OS.out FR.out tyFV b e), row_same OL.out fun b e => far2 b (row_apart OL.out FR.out tyFV b e), row_same OO.out fun b e => far2 b (row_apart OO.out FR.out tyFS b e)⟩)
  have OV2 := Lib.hid (show OwnVs (W1.setCell ⟨w.heap.size, 2, none⟩ (.slice As d cs)) B (.slice Av n cv) (f.stk.drop d) from row_same OV.out fun b e => far2 b (row_apart OV.out FR.out tyFV b e))
  have BW2 := Lib.hid (show Below B w (W1.setCell ⟨w.heap.size, 2, none⟩ (.slice As d cs)) from BW.out.setCell (p := ⟨w.heap.size, 2, none⟩) hB _)
  have sz2 : (W1.setCell ⟨w.heap.size, 2, none⟩ (.slice As d cs)).heap.size = w.heap.size + 4 := by rw [← sz1]; simp [World.setCell]
  generalize (W1.setCell ⟨w.heap.size, 2, none⟩ (.slice As d cs)) = W2 at *
  clear far2 x2 i1 i2 f2 hsub hd0 hd1 OS OL OO OV FR IS RE AC BW hwl sz1 hcap
  go_cut [8] (fun v8 wx => ∃ g8, v8 = .pointer (some ⟨g8, 0, none⟩) ∧ Held wx g8 77 #[.int .i64 2, .int .i64 a, .int .i64 m, .int .i64 uz, .slice Av n cv] ∧ W2.heap.size ≤ g8 ∧ Below W2.heap.size W2 wx)
  case first =>
    refine wp_region_held_drew (S := fun W => Below W2.heap.size W2 W) (by kernel_rfl) (Below.refl _ _).drew (fun hS => ?_)
    generalize W2.drew = W3 at hS ⊢
    show wpAnyH _ _ _ _ _ 13 #[false, false, false, false, false, false, false, false, false, false, false, false, false] _ _
    refine wpAnyH_take (i := 0) (v := .pointer (some ⟨w.heap.size + 1, 1, none⟩)) rfl (by kernel_rfl) (by kernel_rfl) (by kernel_rfl) (fun _ _ _ h => h) (Or.inl ⟨by rfl, fun W hW => ?_⟩) hS ?_
    · go_simp
    simp only [Act.put, List.getElem_toArray, List.getElem_cons_succ, List.getElem_cons_zero, List.setIfInBounds_toArray, List.set_cons_zero, List.set_cons_succ]
    refine wpAnyH_take (i := 1) (v := .int .i64 a) rfl (by kernel_rfl) (by kernel_rfl) (by kernel_rfl) (fun _ _ _ h => h) (Or.inl ⟨by rfl, fun W hW => ?_⟩) hS ?_
    · (have q := (IS2.out.below hW).cell 1; simp at q; go_simp)
    simp only [Act.put, List.getElem_toArray, List.getElem_cons_succ, List.getElem_cons_zero, List.setIfInBounds_toArray, List.set_cons_zero, List.set_cons_succ]
    refine wpAnyH_take (i := 2) (v := .pointer (some ⟨w.heap.size + 1, 2, none⟩)) rfl (by kernel_rfl) (by kernel_rfl) (by kernel_rfl) (fun _ _ _ h => h) (Or.inl ⟨by rfl, fun W hW => ?_⟩) hS ?_
    · go_simp
    simp only [Act.put, List.getElem_toArray, List.getElem_cons_succ, List.getElem_cons_zero, List.setIfInBounds_toArray, List.set_cons_zero, List.set_cons_succ]
    refine wpAnyH_take (i := 3) (v := .int .i64 m) rfl (by kernel_rfl) (by kernel_rfl) (by kernel_rfl) (fun _ _ _ h => h) (Or.inl ⟨by rfl, fun W hW => ?_⟩) hS ?_
    · (have q := (IS2.out.below hW).cell 2; simp at q; go_simp)
    simp only [Act.put, List.getElem_toArray, List.getElem_cons_succ, List.getElem_cons_zero, List.setIfInBounds_toArray, List.set_cons_zero, List.set_cons_succ]
    refine wpAnyH_take (i := 4) (v := .pointer (some ⟨w.heap.size, 5, none⟩)) rfl (by kernel_rfl) (by kernel_rfl) (by kernel_rfl) (fun _ _ _ h => h) (Or.inl ⟨by rfl, fun W hW => ?_⟩) hS ?_
    · go_simp
    simp only [Act.put, List.getElem_toArray, List.getElem_cons_succ, List.getElem_cons_zero, List.setIfInBounds_toArray, List.set_cons_zero, List.set_cons_succ]
    refine wpAnyH_take (i := 5) (v := .int .i64 f.seed) rfl (by kernel_rfl) (by kernel_rfl) (by kernel_rfl) (fun _ _ _ h => h) (Or.inl ⟨by rfl, fun W hW => ?_⟩) hS ?_
    · (have q := (FR2.out.below hW).cell 5; simp at q; go_simp)
    simp only [Act.put, List.getElem_toArray, List.getElem_cons_succ, List.getElem_cons_zero, List.setIfInBounds_toArray, List.set_cons_zero, List.set_cons_succ]
    refine wpAnyH_take (i := 6) (v := .pointer (some ⟨w.heap.size, 6, none⟩)) rfl (by kernel_rfl) (by kernel_rfl) (by kernel_rfl) (fun _ _ _ h => h) (Or.inl ⟨by rfl, fun W hW => ?_⟩) hS ?_
    · go_simp
    simp only [Act.put, List.getElem_toArray, List.getElem_cons_succ, List.getElem_cons_zero, List.setIfInBounds_toArray, List.set_cons_zero, List.set_cons_succ]
    refine wpAnyH_take (i := 7) (v := .int .i64 f.spn) rfl (by kernel_rfl) (by kernel_rfl) (by kernel_rfl) (fun _ _ _ h => h) (Or.inl ⟨by rfl, fun W hW => ?_⟩) hS ?_
    · (have q := (FR2.out.below hW).cell 6; simp at q; go_simp)
    simp only [Act.put, List.getElem_toArray, List.getElem_cons_succ, List.getElem_cons_zero, List.setIfInBounds_toArray, List.set_cons_zero, List.set_cons_succ]
    refine wpAnyH_take (i := 9) (v := .slice Av n cv) rfl (by kernel_rfl) (by kernel_rfl) (by kernel_rfl) (fun _ _ _ h => h) (Or.inl ⟨by rfl, fun W hW => ?_⟩) hS ?_
    · go_simp
    simp only [Act.put, List.getElem_toArray, List.getElem_cons_succ, List.getElem_cons_zero, List.setIfInBounds_toArray, List.set_cons_zero, List.set_cons_succ]
    refine wpAnyH_ready (rs := [8, 11]) (by kernel_rfl) (by simp) ?_
    refine (AllReadyH.cons rfl (fun K hK => ?_) (AllReadyH.cons rfl (fun K hK => ?_) AllReadyH.nil))
    · go_simp
      go_at_call 76
      (with_reducible refine ((CH.out.go _)).mono ?_)
      rintro _ _ ⟨rfl, rfl⟩
      (try go_wp2_with fail)
      refine hK.out _ _ hS (fun _ => ?_)
      clear hK K
      (try simp only [Act.put, List.getElem_toArray, List.getElem_cons_succ, List.getElem_cons_zero, List.setIfInBounds_toArray, List.set_cons_zero, List.set_cons_succ])
      refine wpAnyH_take (i := 10) (v := .agg #[.int .i64 2, .int .i64 a, .int .i64 m, .int .i64 uz, .slice Av n cv]) rfl (by kernel_rfl) (by kernel_rfl) (by kernel_rfl) (fun _ _ _ h => h) (Or.inl ⟨by rfl, fun W hW => ?_⟩) hS ?_
      · go_simp
      simp only [Act.put, List.getElem_toArray, List.getElem_cons_succ, List.getElem_cons_zero, List.setIfInBounds_toArray, List.set_cons_zero, List.set_cons_succ]
      refine wpAnyH_ready (rs := [11]) (by kernel_rfl) (by simp) ?_
      refine (AllReadyH.cons rfl (fun K hK => ?_) AllReadyH.nil)
      · rw [if_pos (by rfl)]
        refine wp_alloc_arr 77 rfl ac0 (by kernel_rfl) ?_
        have f8 := Held.new W3 77 ac0
        have lf8 := Below.size hS
        replace hS := below_allocz hS (.cells ac0 77)
        generalize W3.alloc (.cells ac0 77) = W1z at *
        refine hK.out _ _ hS (fun _ => ?_)
        clear hK K
        (try simp only [Act.put, List.getElem_toArray, List.getElem_cons_succ, List.getElem_cons_zero, List.setIfInBounds_toArray, List.set_cons_zero, List.set_cons_succ])
        refine wpAnyH_ready (rs := [12]) (by kernel_rfl) (by simp) ?_
        refine (AllReadyH.cons rfl (fun K hK => ?_) AllReadyH.nil)
        · rw [if_pos (by rfl)]
          refine wp_store_row 77 _ _ rfl _ #[.int .i64 2, .int .i64 a, .int .i64 m, .int .i64 uz, .slice Av n cv] (by rfl) (by rfl) _ _ f8 (by kernel_rfl) (by rfl) (by simp [Value.oneCell']) ?_
          replace hS := below_rowz hS lf8 #[.int .i64 2, .int .i64 a, .int .i64 m, .int .i64 uz, .slice Av n cv]
          replace f8 := Held.rowSelf f8 #[.int .i64 2, .int .i64 a, .int .i64 m, .int .i64 uz, .slice Av n cv]
          generalize W1z.setRow _ #[.int .i64 2, .int .i64 a, .int .i64 m, .int .i64 uz, .slice Av n cv] = W2z at *
          refine hK.out _ _ hS (fun _ => ?_)
          clear hK K
          (try simp only [Act.put, List.getElem_toArray, List.getElem_cons_succ, List.getElem_cons_zero, List.setIfInBounds_toArray, List.set_cons_zero, List.set_cons_succ])
          refine wpAnyH_done (by kernel_rfl) ?_ _
          go_wp2_with fail
          go_meet
          case rel => exact ⟨_, rfl, f8, lf8, hS⟩
    · rw [if_pos (by rfl)]
      refine wp_alloc_arr 77 rfl ac0 (by kernel_rfl) ?_
      have f8 := Held.new W3 77 ac0
      have lf8 := Below.size hS
      replace hS := below_allocz hS (.cells ac0 77)
      generalize W3.alloc (.cells ac0 77) = W1z at *
      refine hK.out _ _ hS (fun _ => ?_)
      clear hK K
      (try simp only [Act.put, List.getElem_toArray, List.getElem_cons_succ, List.getElem_cons_zero, List.setIfInBounds_toArray, List.set_cons_zero, List.set_cons_succ])
      refine wpAnyH_ready (rs := [8]) (by kernel_rfl) (by simp) ?_
      refine (AllReadyH.cons rfl (fun K hK => ?_) AllReadyH.nil)
      · go_simp
        go_at_call 76
        (with_reducible refine ((CH.out.go _)).mono ?_)
        rintro _ _ ⟨rfl, rfl⟩
        (try go_wp2_with fail)
        refine hK.out _ _ hS (fun _ => ?_)
        clear hK K
        (try simp only [Act.put, List.getElem_toArray, List.getElem_cons_succ, List.getElem_cons_zero, List.setIfInBounds_toArray, List.set_cons_zero, List.set_cons_succ])
        refine wpAnyH_take (i := 10) (v := .agg #[.int .i64 2, .int .i64 a, .int .i64 m, .int .i64 uz, .slice Av n cv]) rfl (by kernel_rfl) (by kernel_rfl) (by kernel_rfl) (fun _ _ _ h => h) (Or.inl ⟨by rfl, fun W hW => ?_⟩) hS ?_
        · go_simp
        simp only [Act.put, List.getElem_toArray, List.getElem_cons_succ, List.getElem_cons_zero, List.setIfInBounds_toArray, List.set_cons_zero, List.set_cons_succ]
        refine wpAnyH_ready (rs := [12]) (by kernel_rfl) (by simp) ?_
        refine (AllReadyH.cons rfl (fun K hK => ?_) AllReadyH.nil)
        · rw [if_pos (by rfl)]
          refine wp_store_row 77 _ _ rfl _ #[.int .i64 2, .int .i64 a, .int .i64 m, .int .i64 uz, .slice Av n cv] (by rfl) (by rfl) _ _ f8 (by kernel_rfl) (by rfl) (by simp [Value.oneCell']) ?_
          replace hS := below_rowz hS lf8 #[.int .i64 2, .int .i64 a, .int .i64 m, .int .i64 uz, .slice Av n cv]
          replace f8 := Held.rowSelf f8 #[.int .i64 2, .int .i64 a, .int .i64 m, .int .i64 uz, .slice Av n cv]
          generalize W1z.setRow _ #[.int .i64 2, .int .i64 a, .int .i64 m, .int .i64 uz, .slice Av n cv] = W2z at *
          refine hK.out _ _ hS (fun _ => ?_)
          clear hK K
          (try simp only [Act.put, List.getElem_toArray, List.getElem_cons_succ, List.getElem_cons_zero, List.setIfInBounds_toArray, List.set_cons_zero, List.set_cons_succ])
          refine wpAnyH_done (by kernel_rfl) ?_ _
          go_wp2_with fail
          go_meet
          case rel => exact ⟨_, rfl, f8, lf8, hS⟩
  case rest =>
  obtain ⟨g8, rfl, h8, lg8, hb8⟩ := hcut
  have FR3 := FR2.out.below hb8
  have RE3 := RE2.out.below hb8
  have AC3 := AC2.out.below hb8
  have OF3 := OF2.out.below hb8
  have OV3 := row_later OV2.out hb8
  have BW3 := BW2.out.trans (hb8.mono (by omega))
  generalize wc = W4 at *
  have H8 := Lib.hid h8
  have FR4 := Lib.hid FR3
  have RE4 := Lib.hid RE3
  have AC4 := Lib.hid AC3
  have OF4 := Lib.hid OF3
  have OV4 := Lib.hid OV3
  have BW4 := Lib.hid BW3
  have x6 := FR3.cell 6
  have f6 := FR3.fz 6
  have x1 := FR3.cell 1
  have f1 := FR3.fz 1
  have hwl := FR3.lt
  simp at x6 x1
  clear h8 FR3 RE3 AC3 OF3 OV3 BW3 FR2 RE2 AC2 OF2 OV2 BW2 IS2 CH hb8
  have hpc := HPC.out
  go_upto_region 8 with (fail)
  have far5 : ∀ k, k ≠ w.heap.size → ((W4.setCell ⟨w.heap.size, 6, none⟩ (.int .i64 (wrap64 (f.spn + 1)))).setCell ⟨w.heap.size, 1, none⟩ (.int .i64 (f.pc + 1))).heap[k]? = W4.heap[k]? := fun k hk => (Below.heap_setCell _ ⟨w.heap.size, 1, none⟩ _ k hk).trans (Below.heap_setCell W4 ⟨w.heap.size, 6, none⟩ _ k hk)
  have FR5 := Lib.hid (show Held ((W4.setCell ⟨w.heap.size, 6, none⟩ (.int .i64 (wrap64 (f.spn + 1)))).setCell ⟨w.heap.size, 1, none⟩ (.int .i64 (f.pc + 1))) w.heap.size 45 (fcA { f with spn := wrap64 (f.spn + 1), pc := f.pc + 1 } (.slice As d cs) (.slice Al nl cl) (.slice (some ⟨g, 0, none⟩) f.slt.length co)) from (FR4.out.set_at 6 _).set_at 1 _)
  have n8 : g8 ≠ w.heap.size := held_ne H8.out FR4.out tyAF
  have h8 : Held ((W4.setCell ⟨w.heap.size, 6, none⟩ (.int .i64 (wrap64 (f.spn + 1)))).setCell ⟨w.heap.size, 1, none⟩ (.int .i64 (f.pc + 1))) g8 77 #[.int .i64 2, .int .i64 a, .int .i64 m, .int .i64 uz, .slice Av n cv] := (far5 _ n8).trans H8.out
  have h6 : Held ((W4.setCell ⟨w.heap.size, 6, none⟩ (.int .i64 (wrap64 (f.spn + 1)))).setCell ⟨w.heap.size, 1, none⟩ (.int .i64 (f.pc + 1))) (w.heap.size + 1 + 1) 45 fz0 := (far5 _ (by omega)).trans RE4.out
  have h7 : Held ((W4.setCell ⟨w.heap.size, 6, none⟩ (.int .i64 (wrap64 (f.spn + 1)))).setCell ⟨w.heap.size, 1, none⟩ (.int .i64 (f.pc + 1))) (w.heap.size + 1 + 1 + 1) 77 ac0 := (far5 _ (by omega)).trans AC4.out
  have OWN := Lib.hid (show OwnF ((W4.setCell ⟨w.heap.size, 6, none⟩ (.int .i64 (wrap64 (f.spn + 1)))).setCell ⟨w.heap.size, 1, none⟩ (.int .i64 (f.pc + 1))) B (fv { f with stk := f.stk.take d, slt := f.slt.set m ⟨1, -1, 0, 0, 0, 0⟩, spn := wrap64 (f.spn + 1), pc := f.pc + 1 } (.slice As d cs) (.slice Al nl cl) (.slice (some ⟨g, 0, none⟩) f.slt.length co)) { f with slt := f.slt.set m ⟨1, -1, 0, 0, 0, 0⟩, stk := f.stk.take d, spn := wrap64 (f.spn + 1), pc := f.pc + 1 } from by
    obtain ⟨s9, l9, o9, e9, k1, k2, k3⟩ := OF4.out
    simp only [fv, Value.agg.injEq, Array.mk.injEq, List.cons.injEq] at e9
    obtain ⟨_, _, rfl, rfl, rfl, _⟩ := e9
    exact ⟨_, _, _, rfl, row_same k1 fun b e => far5 b (row_apart k1 FR4.out tyFV b e), row_same k2 fun b e => far5 b (row_apart k2 FR4.out tyFV b e), row_same k3 fun b e => far5 b (row_apart k3 FR4.out tyFS b e)⟩)
  have ACT := Lib.hid (show ActO ((W4.setCell ⟨w.heap.size, 6, none⟩ (.int .i64 (wrap64 (f.spn + 1)))).setCell ⟨w.heap.size, 1, none⟩ (.int .i64 (f.pc + 1))) B (.agg #[.int .i64 2, .int .i64 a, .int .i64 m, .int .i64 uz, .slice Av n cv]) ⟨2, a, m, uz, f.stk.drop d⟩ from by
    have k : OwnVs _ B (.slice Av n cv) (f.stk.drop d) := row_same OV4.out fun b e => far5 b (row_apart OV4.out FR4.out tyFV b e)
    have e : (f.stk.drop d).length = n := k.len
    exact ⟨Av, cv, by simp only [e], by simp only [e]; exact k⟩)
  have BW5 := Lib.hid (show Below B w ((W4.setCell ⟨w.heap.size, 6, none⟩ (.int .i64 (wrap64 (f.spn + 1)))).setCell ⟨w.heap.size, 1, none⟩ (.int .i64 (f.pc + 1))) from (BW4.out.setCell (p := ⟨w.heap.size, 6, none⟩) hB _).setCell (p := ⟨w.heap.size, 1, none⟩) hB _)
  generalize ((W4.setCell ⟨w.heap.size, 6, none⟩ (.int .i64 (wrap64 (f.spn + 1)))).setCell ⟨w.heap.size, 1, none⟩ (.int .i64 (f.pc + 1))) = W5 at *
  have H6 := Lib.hid h6
  have H7 := Lib.hid h7
  have n06 : w.heap.size ≠ w.heap.size + 1 + 1 := by omega
  have n07 : w.heap.size ≠ w.heap.size + 1 + 1 + 1 := by omega
  have n67 : w.heap.size + 1 + 1 ≠ w.heap.size + 1 + 1 + 1 := by omega
  have n76 : w.heap.size + 1 + 1 + 1 ≠ w.heap.size + 1 + 1 := by omega
  have n86 : g8 ≠ w.heap.size + 1 + 1 := by omega
  have n87 : g8 ≠ w.heap.size + 1 + 1 + 1 := by omega
  have gB6 : B ≤ w.heap.size + 1 + 1 := by omega
  have gB7 : B ≤ w.heap.size + 1 + 1 + 1 := by omega
  clear x6 f6 x1 f1 far5 RE4 AC4 OF4 OV4 BW4 FR4 H8 hpc HPC
  go_cut [] (fun wx => TwoH w B (w.heap.size + 1 + 1) (w.heap.size + 1 + 1 + 1) (fcA { f with spn := wrap64 (f.spn + 1), pc := f.pc + 1 } (.slice As d cs) (.slice Al nl cl) (.slice (some ⟨g, 0, none⟩) f.slt.length co)) #[.int .i64 2, .int .i64 a, .int .i64 m, .int .i64 uz, .slice Av n cv] { f with slt := f.slt.set m ⟨1, -1, 0, 0, 0, 0⟩, stk := f.stk.take d, spn := wrap64 (f.spn + 1), pc := f.pc + 1 } ⟨2, a, m, uz, f.stk.drop d⟩ wx)
  case first =>
    have hS0 := And.intro FR5.out h8
    refine wp_region_held_drew (S := fun W => Held W w.heap.size 45 (fcA { f with spn := wrap64 (f.spn + 1), pc := f.pc + 1 } (.slice As d cs) (.slice Al nl cl) (.slice (some ⟨g, 0, none⟩) f.slt.length co)) ∧ Held W g8 77 #[.int .i64 2, .int .i64 a, .int .i64 m, .int .i64 uz, .slice Av n cv]) (by kernel_rfl) hS0 (fun hS => ?_)
    have H6 := Lib.hid (held_drew H6.out)
    have H7 := Lib.hid (held_drew H7.out)
    have OWN := Lib.hid (OwnF.below OWN.out (Below.refl _ _).drew)
    have ACT := Lib.hid (ActO.below ACT.out (Below.refl _ _).drew)
    have BW5 := Lib.hid BW5.out.drew
    have h6 := H6.out
    have h7 := H7.out
    generalize W5.drew = W6 at *
    show wpAnyH _ _ _ _ _ 4 #[false, false, false, false] _ _
    refine wpAnyH_take (i := 0) (v := .agg (fcA { f with spn := wrap64 (f.spn + 1), pc := f.pc + 1 } (.slice As d cs) (.slice Al nl cl) (.slice (some ⟨g, 0, none⟩) f.slt.length co))) rfl (by kernel_rfl) (by kernel_rfl) (by kernel_rfl) (fun _ _ _ h => h) (yieldsIf_load_midA (by rfl) 45 (.tmp 3) rfl w.heap.size 0 rfl _ _ (fun W hW => rangeAt_held hW.1) Tryz.underlying45 rfl (by kernel_rfl)) hS ?_
    simp only [Act.put, List.getElem_toArray, List.getElem_cons_succ, List.getElem_cons_zero, List.setIfInBounds_toArray, List.set_cons_zero, List.set_cons_succ]
    refine wpAnyH_take (i := 1) (v := .agg #[.int .i64 2, .int .i64 a, .int .i64 m, .int .i64 uz, .slice Av n cv]) rfl (by kernel_rfl) (by kernel_rfl) (by kernel_rfl) (fun _ _ _ h => h) (yieldsIf_load_midA (by rfl) 77 (.tmp 8) rfl g8 0 rfl _ _ (fun W hW => rangeAt_held hW.2) Tryz.underlying77 rfl (by kernel_rfl)) hS ?_
    simp only [Act.put, List.getElem_toArray, List.getElem_cons_succ, List.getElem_cons_zero, List.setIfInBounds_toArray, List.set_cons_zero, List.set_cons_succ]
    refine wpAnyH_ready (rs := [2]) (by kernel_rfl) (by simp) ?_
    refine (AllReadyH.cons rfl (fun K hK => ?_) AllReadyH.nil)
    · rw [if_pos (by rfl)]
      refine wp_store_row 45 _ _ rfl _ (fcA { f with spn := wrap64 (f.spn + 1), pc := f.pc + 1 } (.slice As d cs) (.slice Al nl cl) (.slice (some ⟨g, 0, none⟩) f.slt.length co)) (by rfl) (by rfl) _ _ h6 (by kernel_rfl) (by rfl) (by simp [Value.oneCell']) ?_
      have hS := And.intro (Held.row hS.1 n06 (fcA { f with spn := wrap64 (f.spn + 1), pc := f.pc + 1 } (.slice As d cs) (.slice Al nl cl) (.slice (some ⟨g, 0, none⟩) f.slt.length co))) (Held.row hS.2 n86 (fcA { f with spn := wrap64 (f.spn + 1), pc := f.pc + 1 } (.slice As d cs) (.slice Al nl cl) (.slice (some ⟨g, 0, none⟩) f.slt.length co)))
      replace h7 := Held.row h7 n76 (fcA { f with spn := wrap64 (f.spn + 1), pc := f.pc + 1 } (.slice As d cs) (.slice Al nl cl) (.slice (some ⟨g, 0, none⟩) f.slt.length co))
      refine hK.out _ _ hS (fun _ => ?_)
      clear hK K
      (try simp only [Act.put, List.getElem_toArray, List.getElem_cons_succ, List.getElem_cons_zero, List.setIfInBounds_toArray, List.set_cons_zero, List.set_cons_succ])
      refine wpAnyH_ready (rs := [3]) (by kernel_rfl) (by simp) ?_
      refine (AllReadyH.cons rfl (fun K hK => ?_) AllReadyH.nil)
      · rw [if_pos (by rfl)]
        refine wp_store_row 77 _ _ rfl _ #[.int .i64 2, .int .i64 a, .int .i64 m, .int .i64 uz, .slice Av n cv] (by rfl) (by rfl) _ _ h7 (by kernel_rfl) (by rfl) (by simp [Value.oneCell']) ?_
        have hS := And.intro (Held.row hS.1 n07 #[.int .i64 2, .int .i64 a, .int .i64 m, .int .i64 uz, .slice Av n cv]) (Held.row hS.2 n87 #[.int .i64 2, .int .i64 a, .int .i64 m, .int .i64 uz, .slice Av n cv])
        replace h6 := Held.row h6 n67 #[.int .i64 2, .int .i64 a, .int .i64 m, .int .i64 uz, .slice Av n cv]
        refine hK.out _ _ hS (fun _ => ?_)
        clear hK K
        (try simp only [Act.put, List.getElem_toArray, List.getElem_cons_succ, List.getElem_cons_zero, List.setIfInBounds_toArray, List.set_cons_zero, List.set_cons_succ])
        refine wpAnyH_done (by kernel_rfl) ?_ _
        go_wp2_with fail
        go_meet
        case rel => exact two_set H6.out H7.out OWN.out ACT.out BW5.out gB6 gB7
  case rest =>
    obtain ⟨k1, k2, k3, k4, k5⟩ := hcut
    go_wp2_with fail
    exact bodyPost_ret (two_ret rfl rfl _ k1 k2 rfl rfl rfl rfl) rfl ⟨_, _, rfl, k3, k4, k5⟩
end Go.Proofs.YtoeinpiekfmbgaaGreatDoor

