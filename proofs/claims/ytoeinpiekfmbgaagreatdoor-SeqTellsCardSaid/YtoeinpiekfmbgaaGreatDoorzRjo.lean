/- Layer 9: the document's join. -/
import Derived.Test.YtoeinpiekfmbgaaGreatDoorzRsz
namespace Go.Proofs.YtoeinpiekfmbgaaGreatDoor
set_option linter.unusedVariables false
set_option linter.unusedSimpArgs false
open Gm Go.RowKit Go.ChangeShapes Go.WideShapes Go.ChangeAt Go.Sort

/-- What a trap makes of what an instruction leaves. -/
def trapT (R : Frm × ActP × Int) : Frm × ActP := if R.2.2 ≠ 0 then (endF R.1 R.2.2 (0, 0), actK 4) else (R.1, R.2.1)
abbrev ac1 : Array Value := #[.int .i64 1, .int .i64 0, .int .i64 0, .int .i64 0, .slice none 0 0]
abbrev ac3 : Array Value := #[.int .i64 3, .int .i64 0, .int .i64 0, .int .i64 0, .slice none 0 0]
theorem row_off {B : Nat} {w w' : World} {v : Value} {n size : Nat} {e : TypeId} {xs : List Value} {k : Option Nat} (hg : w.grownBy w' k) (h : w.ownsRow B e size v n xs) (hne : ∀ b, k = some b → v.ownBlock ≠ some b) : w'.ownsRow B e size v n xs :=
  row_same h fun g e => hg.block g (h.lt g e).2 (fun e2 => hne g e2.symm e)
set_option maxHeartbeats 4000000 in
set_option maxRecDepth 100000 in
theorem r9join_any {B : Nat} {f : Frm} {As Al : Option Addr} {cs nl cl co m g : Nat} (b : Int) (w : World) (hs : OwnVs w B (.slice As f.stk.length cs) f.stk) (hl : OwnVs w B (.slice Al nl cl) f.loc) (ho : OwnSs w B (.slice (some ⟨g, 0, none⟩) f.slt.length co) f.slt)
    (hsl : ∀ b, (Value.slice As f.stk.length cs).ownBlock = some b → (Value.slice Al nl cl).ownBlock ≠ some b) (hm : m < f.slt.length) (hL : f.stk.length ≤ 1000) (hpc : 0 ≤ f.pc ∧ f.pc < 1000000) (hB : B ≤ w.heap.size) :
    Calls Tryz.prog 54 #[fv f (.slice As f.stk.length cs) (.slice Al nl cl) (.slice (some ⟨g, 0, none⟩) f.slt.length co), .agg #[.int .i64 14, .int .i64 m, .int .i64 b]] w
      (TwoR w B (trapT (joinF f m)).1 (trapT (joinF f m)).2) := by
  have hgB := ho.lt g rfl
  obtain ⟨⟨y0, y1, y2, y3, y4, y5⟩, yz⟩ := own_ss ho hm
  have hm2 : (m : Int) < f.slt.length := by omega
  have S := st4 w B f (14, m, b) (.slice As f.stk.length cs) (.slice Al nl cl) (.slice (some ⟨g, 0, none⟩) f.slt.length co)
  have CT := fun F t W => Lib.hid (r9trap_any F (.slice As f.stk.length cs) (.slice Al nl cl) (.slice (some ⟨g, 0, none⟩) f.slt.length co) t W ⟨_, _, _, rfl⟩ ⟨_, _, _, rfl⟩ ⟨_, _, _, rfl⟩)
  have HS := Lib.hid hs
  have HL := Lib.hid hl
  have HO := Lib.hid ho
  have HSL := Lib.hid hsl
  have HLL := Lib.hid hL
  have HPC := Lib.hid hpc
  have hsa : sltAt f m = f.slt[m] := by unfold sltAt; rw [Int.toNat_natCast, List.getD_eq_getElem?_getD, List.getElem?_eq_getElem hm]; rfl
  have HR := Lib.hid (show trapT (joinF f m) = trapT (joinF f m) from rfl)
  generalize hRR : trapT (joinF f m) = RR at *
  unfold joinF at hRR
  rw [hsa] at hRR
  simp only [Int.toNat_natCast] at hRR
  obtain ⟨sl, hsq⟩ : ∃ sl, sl = f.slt[m] := ⟨_, rfl⟩
  rw [← hsq] at y0 y1 y2 y3 y4 y5 hRR
  obtain ⟨st, kat, kgn, tr, re, im⟩ := sl
  simp only at y0 y1 y2 y3 y4 y5 hRR
  have HRR := Lib.hid hRR
  have HM := Lib.hid hm
  have HSQ := Lib.hid hsq
  clear hs hl ho hsl hL hpc hsa hRR HR hsq
  go_enter Tryz.func54, Tryz.ntmps54
  go_upto_region 1 with (fail)
  generalize ((((w.alloc (.cells (fcA f (.slice As f.stk.length cs) (.slice Al nl cl) (.slice (some ⟨g, 0, none⟩) f.slt.length co)) 45)).alloc (.cells #[.int .i64 14, .int .i64 m, .int .i64 b] 92)).alloc (.cells fz0 45)).alloc (.cells ac0 77)) = W0 at *
  have x4 := S.fr.cell 4
  have i1 := S.is.cell 1
  simp at x4 i1
  replace y0 := (S.b.cell (p := ⟨g, _, none⟩) hgB.2).trans y0
  replace y1 := (S.b.cell (p := ⟨g, _, none⟩) hgB.2).trans y1
  replace y2 := (S.b.cell (p := ⟨g, _, none⟩) hgB.2).trans y2
  replace y3 := (S.b.cell (p := ⟨g, _, none⟩) hgB.2).trans y3
  replace y4 := (S.b.cell (p := ⟨g, _, none⟩) hgB.2).trans y4
  replace y5 := (S.b.cell (p := ⟨g, _, none⟩) hgB.2).trans y5
  have SS := Lib.hid S
  clear S yz
  go_upto_region 2 with (fail)
  have HZ : Held (W0.alloc (.cells #[.int .i64 st, .int .i64 kat, .int .i64 kgn, .int .i64 tr, .int .i64 re, .int .i64 im] 75)) W0.heap.size 75 #[.int .i64 st, .int .i64 kat, .int .i64 kgn, .int .i64 tr, .int .i64 re, .int .i64 im] := Held.new W0 _ _
  have hba : Below W0.heap.size W0 (W0.alloc (.cells #[.int .i64 st, .int .i64 kat, .int .i64 kgn, .int .i64 tr, .int .i64 re, .int .i64 im] 75)) := (Below.refl _ _).alloc (Nat.le_refl _) _
  have hbw : Below w.heap.size w (W0.alloc (.cells #[.int .i64 st, .int .i64 kat, .int .i64 kgn, .int .i64 tr, .int .i64 re, .int .i64 im] 75)) := Below.step SS.out.b hba
  have hx := SS.out.fr.below hba
  have hi := SS.out.is.below hba
  have h6 := SS.out.re.below hba
  have h7 := SS.out.ac.below hba
  have hsz := SS.out.z
  generalize (W0.alloc (.cells #[.int .i64 st, .int .i64 kat, .int .i64 kgn, .int .i64 tr, .int .i64 re, .int .i64 im] 75)) = W1 at *
  rw [hsz] at HZ ⊢
  have q0 := HZ.cell 0
  simp at q0
  have H6 := Lib.hid h6
  have H7 := Lib.hid h7
  have HX := Lib.hid hx
  have HI := Lib.hid hi
  have HBW := Lib.hid hbw
  have HQ := Lib.hid HZ
  clear x4 i1 y0 y1 y2 y3 y4 y5 hba h6 h7 hx hi hbw HZ SS hsz
  by_cases e1 : st = 1
  · have e1b : (st == 1) = true := by simpa using e1
    have hR2 := HRR.out
    rw [if_pos e1] at hR2
    have HR2 := Lib.hid hR2
    clear hR2 e1 HRR
    have i1 := HI.out.cell 1
    have x8 := HX.out.cell 8
    have f8 := HX.out.fz 8
    have x9 := HX.out.cell 9
    have f9 := HX.out.fz 9
    have xl := HX.out.lt
    have il := HI.out.lt
    simp at i1 x8 x9
    go_upto_region 5 with (fail)
    have far : ∀ k, k ≠ w.heap.size → ((W1.setCell ⟨w.heap.size, 8, none⟩ (.int .i64 1)).setCell ⟨w.heap.size, 9, none⟩ (.int .i64 m)).heap[k]? = W1.heap[k]? := fun k hk => (Below.heap_setCell _ ⟨w.heap.size, 9, none⟩ _ k hk).trans (Below.heap_setCell W1 ⟨w.heap.size, 8, none⟩ _ k hk)
    have hx : Held ((W1.setCell ⟨w.heap.size, 8, none⟩ (.int .i64 1)).setCell ⟨w.heap.size, 9, none⟩ (.int .i64 m)) w.heap.size 45 (fcA { f with st := 1, wt := m } (.slice As f.stk.length cs) (.slice Al nl cl) (.slice (some ⟨g, 0, none⟩) f.slt.length co)) := (HX.out.set_at 8 _).set_at 9 _
    have h6 : Held ((W1.setCell ⟨w.heap.size, 8, none⟩ (.int .i64 1)).setCell ⟨w.heap.size, 9, none⟩ (.int .i64 m)) (w.heap.size + 1 + 1) 45 fz0 := (far _ (by omega)).trans H6.out
    have h7 : Held ((W1.setCell ⟨w.heap.size, 8, none⟩ (.int .i64 1)).setCell ⟨w.heap.size, 9, none⟩ (.int .i64 m)) (w.heap.size + 1 + 1 + 1) 77 ac0 := (far _ (by omega)).trans H7.out
    have OWN := Lib.hid (show OwnF ((W1.setCell ⟨w.heap.size, 8, none⟩ (.int .i64 1)).setCell ⟨w.heap.size, 9, none⟩ (.int .i64 m)) B (fv { f with st := 1, wt := m } (.slice As f.stk.length cs) (.slice Al nl cl) (.slice (some ⟨g, 0, none⟩) f.slt.length co)) { f with st := 1, wt := m } from
      ⟨_, _, _, rfl, row_same (row_later HS.out HBW.out) fun b e => far b (row_apart (row_later HS.out HBW.out) HX.out tyFV b e), row_same (row_later HL.out HBW.out) fun b e => far b (row_apart (row_later HL.out HBW.out) HX.out tyFV b e), row_same (row_later HO.out HBW.out) fun b e => far b (row_apart (row_later HO.out HBW.out) HX.out tyFS b e)⟩)
    have BW := Lib.hid (show Below B w ((W1.setCell ⟨w.heap.size, 8, none⟩ (.int .i64 1)).setCell ⟨w.heap.size, 9, none⟩ (.int .i64 m)) from ((HBW.out.mono hB).setCell (p := ⟨w.heap.size, 8, none⟩) hB _).setCell (p := ⟨w.heap.size, 9, none⟩) hB _)
    clear far i1 x8 x9 f8 f9 xl il q0
    generalize ((W1.setCell ⟨w.heap.size, 8, none⟩ (.int .i64 1)).setCell ⟨w.heap.size, 9, none⟩ (.int .i64 m)) = W2 at *
    have H6 := Lib.hid h6
    have H7 := Lib.hid h7
    go_wp2_with (first
    | (guard_target = wpList _ _ _ (Oper.mk _ (Op.load 45 (.tmp 2)) _ _ _ none :: _) _ _; refine wpList_load_row rfl 45 _ rfl w.heap.size rfl _ _ _ _ hx Tryz.underlying45 rfl (by kernel_rfl) ?_)
    | (guard_target = wpList _ _ _ (Oper.mk _ (Op.store 45 (.tmp 4) _) _ _ _ none :: _) _ _; refine wpList_store_row rfl 45 _ _ rfl (w.heap.size + 1 + 1) (fcA { f with st := 1, wt := m } (.slice As f.stk.length cs) (.slice Al nl cl) (.slice (some ⟨g, 0, none⟩) f.slt.length co)) rfl rfl _ _ h6 (by kernel_rfl) rfl (by simp [Value.oneCell']) ?_; have k7 := h7.row (show w.heap.size + 1 + 1 + 1 ≠ w.heap.size + 1 + 1 by omega) (fcA { f with st := 1, wt := m } (.slice As f.stk.length cs) (.slice Al nl cl) (.slice (some ⟨g, 0, none⟩) f.slt.length co)); have k6 := h6.rowSelf (fcA { f with st := 1, wt := m } (.slice As f.stk.length cs) (.slice Al nl cl) (.slice (some ⟨g, 0, none⟩) f.slt.length co)))
    | (guard_target = wpList _ _ _ (Oper.mk _ (Op.store 77 (.tmp 5) _) _ _ _ none :: _) _ _; refine wpList_store_row rfl 77 _ _ rfl (w.heap.size + 1 + 1 + 1) ac3 rfl rfl _ _ k7 (by kernel_rfl) rfl (by simp [Value.oneCell']) ?_))
    rw [HR2.out.symm]
    exact bodyPost_ret (two_ret rfl rfl _ (k6.row (by omega) ac3) (k7.rowSelf ac3) rfl rfl rfl rfl) rfl (two_done H6.out H7.out OWN.out (ActO.k _ _ 3) BW.out (by omega) (by omega))
  · have e1b : (st == 1) = false := by simpa using e1
    have hR2 := HRR.out
    rw [if_neg e1] at hR2
    by_cases e2 : st = 2
    · have e2b : (st != 2) = false := by simpa using e2
      rw [if_pos e2] at hR2
      have HR2 := Lib.hid hR2
      clear hR2 e1 e2 HRR
      have i1 := HI.out.cell 1
      have x4 := HX.out.cell 4
      simp at i1 x4
      have o1 := row_later HO.out HBW.out
      obtain ⟨⟨y0, y1, y2, y3, y4, y5⟩, yz⟩ := own_ss o1 HM.out
      rw [← HSQ.out] at y0 y1 y2 y3 y4 y5
      simp only at y0 y1 y2 y3 y4 y5
      have z0 := yz (m * 6)
      have z1 := yz (m * 6 + 1)
      have z2 := yz (m * 6 + 2)
      have z3 := yz (m * 6 + 3)
      have z4 := yz (m * 6 + 4)
      have z5 := yz (m * 6 + 5)
      have hgl := (o1.lt g rfl).2
      have q3 := HQ.out.cell 3
      simp at q3
      clear yz o1
      go_upto_region 9 with (fail)
      have far : ∀ k, k ≠ g → ((((((W1.setCell ⟨g, m * 6, none⟩ (.int .i64 0)).setCell ⟨g, m * 6 + 1, none⟩ (.int .i64 0)).setCell ⟨g, m * 6 + 2, none⟩ (.int .i64 0)).setCell ⟨g, m * 6 + 3, none⟩ (.int .i64 0)).setCell ⟨g, m * 6 + 4, none⟩ (.int .i64 0)).setCell ⟨g, m * 6 + 5, none⟩ (.int .i64 0)).heap[k]? = W1.heap[k]? := fun k hk => six_far W1 g m slt0 k hk
      have ngx : w.heap.size ≠ g := by omega
      have ng6 : (w.heap.size + 1 + 1) ≠ g := by omega
      have ng7 : (w.heap.size + 1 + 1 + 1) ≠ g := by omega
      have ngq : w.heap.size + 4 ≠ g := by omega
      have hx : Held ((((((W1.setCell ⟨g, m * 6, none⟩ (.int .i64 0)).setCell ⟨g, m * 6 + 1, none⟩ (.int .i64 0)).setCell ⟨g, m * 6 + 2, none⟩ (.int .i64 0)).setCell ⟨g, m * 6 + 3, none⟩ (.int .i64 0)).setCell ⟨g, m * 6 + 4, none⟩ (.int .i64 0)).setCell ⟨g, m * 6 + 5, none⟩ (.int .i64 0)) w.heap.size 45 (fcA f (.slice As f.stk.length cs) (.slice Al nl cl) (.slice (some ⟨g, 0, none⟩) f.slt.length co)) := (far _ ngx).trans HX.out
      have hq : Held ((((((W1.setCell ⟨g, m * 6, none⟩ (.int .i64 0)).setCell ⟨g, m * 6 + 1, none⟩ (.int .i64 0)).setCell ⟨g, m * 6 + 2, none⟩ (.int .i64 0)).setCell ⟨g, m * 6 + 3, none⟩ (.int .i64 0)).setCell ⟨g, m * 6 + 4, none⟩ (.int .i64 0)).setCell ⟨g, m * 6 + 5, none⟩ (.int .i64 0)) (w.heap.size + 4) 75 #[.int .i64 st, .int .i64 kat, .int .i64 kgn, .int .i64 tr, .int .i64 re, .int .i64 im] := (far _ ngq).trans HQ.out
      have h6 : Held ((((((W1.setCell ⟨g, m * 6, none⟩ (.int .i64 0)).setCell ⟨g, m * 6 + 1, none⟩ (.int .i64 0)).setCell ⟨g, m * 6 + 2, none⟩ (.int .i64 0)).setCell ⟨g, m * 6 + 3, none⟩ (.int .i64 0)).setCell ⟨g, m * 6 + 4, none⟩ (.int .i64 0)).setCell ⟨g, m * 6 + 5, none⟩ (.int .i64 0)) (w.heap.size + 1 + 1) 45 fz0 := (far _ ng6).trans H6.out
      have h7 : Held ((((((W1.setCell ⟨g, m * 6, none⟩ (.int .i64 0)).setCell ⟨g, m * 6 + 1, none⟩ (.int .i64 0)).setCell ⟨g, m * 6 + 2, none⟩ (.int .i64 0)).setCell ⟨g, m * 6 + 3, none⟩ (.int .i64 0)).setCell ⟨g, m * 6 + 4, none⟩ (.int .i64 0)).setCell ⟨g, m * 6 + 5, none⟩ (.int .i64 0)) (w.heap.size + 1 + 1 + 1) 77 ac0 := (far _ ng7).trans H7.out
      have os : OwnVs ((((((W1.setCell ⟨g, m * 6, none⟩ (.int .i64 0)).setCell ⟨g, m * 6 + 1, none⟩ (.int .i64 0)).setCell ⟨g, m * 6 + 2, none⟩ (.int .i64 0)).setCell ⟨g, m * 6 + 3, none⟩ (.int .i64 0)).setCell ⟨g, m * 6 + 4, none⟩ (.int .i64 0)).setCell ⟨g, m * 6 + 5, none⟩ (.int .i64 0)) B (.slice As f.stk.length cs) f.stk := row_same (row_later HS.out HBW.out) fun b e => far b (fun e2 => rows_ne HS.out HO.out tyVS b e (by rw [e2]; rfl))
      have ol : OwnVs ((((((W1.setCell ⟨g, m * 6, none⟩ (.int .i64 0)).setCell ⟨g, m * 6 + 1, none⟩ (.int .i64 0)).setCell ⟨g, m * 6 + 2, none⟩ (.int .i64 0)).setCell ⟨g, m * 6 + 3, none⟩ (.int .i64 0)).setCell ⟨g, m * 6 + 4, none⟩ (.int .i64 0)).setCell ⟨g, m * 6 + 5, none⟩ (.int .i64 0)) B (.slice Al nl cl) f.loc := row_same (row_later HL.out HBW.out) fun b e => far b (fun e2 => rows_ne HL.out HO.out tyVS b e (by rw [e2]; rfl))
      have oo : OwnSs ((((((W1.setCell ⟨g, m * 6, none⟩ (.int .i64 0)).setCell ⟨g, m * 6 + 1, none⟩ (.int .i64 0)).setCell ⟨g, m * 6 + 2, none⟩ (.int .i64 0)).setCell ⟨g, m * 6 + 3, none⟩ (.int .i64 0)).setCell ⟨g, m * 6 + 4, none⟩ (.int .i64 0)).setCell ⟨g, m * 6 + 5, none⟩ (.int .i64 0)) B (.slice (some ⟨g, 0, none⟩) f.slt.length co) (f.slt.set m slt0) := OwnSs.set (row_later HO.out HBW.out) m slt0 HM.out
      have bw : Below B w ((((((W1.setCell ⟨g, m * 6, none⟩ (.int .i64 0)).setCell ⟨g, m * 6 + 1, none⟩ (.int .i64 0)).setCell ⟨g, m * 6 + 2, none⟩ (.int .i64 0)).setCell ⟨g, m * 6 + 3, none⟩ (.int .i64 0)).setCell ⟨g, m * 6 + 4, none⟩ (.int .i64 0)).setCell ⟨g, m * 6 + 5, none⟩ (.int .i64 0)) := six_below slt0 (HBW.out.mono hB) hgB.1
      have sz : ((((((W1.setCell ⟨g, m * 6, none⟩ (.int .i64 0)).setCell ⟨g, m * 6 + 1, none⟩ (.int .i64 0)).setCell ⟨g, m * 6 + 2, none⟩ (.int .i64 0)).setCell ⟨g, m * 6 + 3, none⟩ (.int .i64 0)).setCell ⟨g, m * 6 + 4, none⟩ (.int .i64 0)).setCell ⟨g, m * 6 + 5, none⟩ (.int .i64 0)).heap.size = W1.heap.size := six_size W1 g m slt0
      clear far i1 x4 y0 y1 y2 y3 y4 y5 z0 z1 z2 z3 z4 z5 hgl q0 q3 ngx ng6 ng7 ngq H6 H7 HX HI
      have hwz := HBW.out.size
      generalize ((((((W1.setCell ⟨g, m * 6, none⟩ (.int .i64 0)).setCell ⟨g, m * 6 + 1, none⟩ (.int .i64 0)).setCell ⟨g, m * 6 + 2, none⟩ (.int .i64 0)).setCell ⟨g, m * 6 + 3, none⟩ (.int .i64 0)).setCell ⟨g, m * 6 + 4, none⟩ (.int .i64 0)).setCell ⟨g, m * 6 + 5, none⟩ (.int .i64 0)) = W2 at *
      have q3 := hq.cell 3
      simp at q3
      by_cases e3 : tr = 0
      · have e3b : (tr != 0) = false := by simpa using e3
        have hR3 := HR2.out
        rw [if_neg (by simpa using e3)] at hR3
        have HR3 := Lib.hid hR3
        clear hR3 e3 HR2
        go_upto_region 11 with (fail)
        have x2 := hx.cell 2
        have q4 := hq.cell 4
        have q5 := hq.cell 5
        simp at x2 q4 q5
        have H6 := Lib.hid h6
        have H7 := Lib.hid h7
        have OS := Lib.hid os
        have OL := Lib.hid ol
        have OO := Lib.hid oo
        have HX := Lib.hid hx
        have BW := Lib.hid bw
        have hBz : B ≤ W2.heap.size := by omega
        have hSZ := Lib.hid sz
        have xl := hx.lt
        clear h6 h7 os ol oo bw sz q3
        have hSx : (Value.slice As f.stk.length cs).ownBlock ≠ some w.heap.size := fun e => row_apart OS.out HX.out tyFV _ e rfl
        have hba : Below W2.heap.size W2 (W2.alloc (.cells #[.int .i64 re, .int .i64 im] 30)) := (Below.refl _ _).alloc (Nat.le_refl _) _
        have OS2 := Lib.hid (show OwnVs (W2.alloc (.cells #[.int .i64 re, .int .i64 im] 30)) B (.slice As f.stk.length cs) f.stk from row_later OS.out hba)
        have HV2 := Lib.hid (show VAt (W2.alloc (.cells #[.int .i64 re, .int .i64 im] 30)) (W2.heap.size + 1) (some ⟨W2.heap.size, 0, none⟩) [(re, im)] from fun _ => ⟨W2.heap.size, 0, rfl, Nat.lt_succ_self _, fun j hj => by
          have hj0 : j = 0 := by simpa using hj
          subst hj0
          have hn := Held.new W2 30 #[.int .i64 re, .int .i64 im]
          exact ⟨hn.cell 0, hn.cell 1⟩⟩)
        have HB2 := Lib.hid (show B ≤ (W2.alloc (.cells #[.int .i64 re, .int .i64 im] 30)).heap.size from Nat.le_trans hBz hba.size)
        have HL2 := Lib.hid (show f.stk.length + 1 ≤ 1000000 by have := HLL.out; omega)
        have HBA := Lib.hid hba
        clear hba
        go_upto_region 12 with (at_builtin; refine wpList_append_vs rfl _ _ rfl B _ f.stk rfl OS2.out (k := [(re, im)]) (n := 1) rfl rfl HV2.out (Nat.le_refl _) HL2.out HB2.out ?_; intro v' u k1 k2 k3; obtain ⟨A', c', rfl, _⟩ := k1.lies; generalize hK : f.stk ++ [(re, im)] = K at *; have HK := Lib.hid hK; have K1 := Lib.hid k1; have K2 := Lib.hid k2; have K3 := Lib.hid k3; have hxu := (HX.out.below HBA.out).grown k2 hSx; have HXU := Lib.hid hxu; have q2 := hxu.cell 2; have z2 := hxu.fz 2; have ql := hxu.lt; simp at q2; clear hK k1 k2 k3 hxu)
        have far : ∀ k, k ≠ w.heap.size → (u.setCell ⟨w.heap.size, 2, none⟩ (.slice A' K.length c')).heap[k]? = u.heap[k]? := fun k hk => Below.heap_setCell u ⟨w.heap.size, 2, none⟩ _ k hk
        have g2 : ∀ k, k < W2.heap.size → (Value.slice As f.stk.length cs).ownBlock ≠ some k → u.heap[k]? = W2.heap[k]? := fun k hk hne => (K2.out.block k (Nat.lt_of_lt_of_le hk HBA.out.size) (fun e => hne e.symm)).trans (HBA.out.block k hk)
        have hx : Held (u.setCell ⟨w.heap.size, 2, none⟩ (.slice A' K.length c')) w.heap.size 45 (fcA { f with stk := K } (.slice A' K.length c') (.slice Al nl cl) (.slice (some ⟨g, 0, none⟩) f.slt.length co)) := HXU.out.set_at 2 _
        have n6 : (w.heap.size + 1 + 1) ≠ w.heap.size := by omega
        have n7 : (w.heap.size + 1 + 1 + 1) ≠ w.heap.size := by omega
        have h6 : Held (u.setCell ⟨w.heap.size, 2, none⟩ (.slice A' K.length c')) (w.heap.size + 1 + 1) 45 fz0 := (far _ n6).trans ((g2 _ H6.out.lt (fun e => row_apart OS.out H6.out tyFV _ e rfl)).trans H6.out)
        have h7 : Held (u.setCell ⟨w.heap.size, 2, none⟩ (.slice A' K.length c')) (w.heap.size + 1 + 1 + 1) 77 ac0 := (far _ n7).trans ((g2 _ H7.out.lt (fun e => row_apart OS.out H7.out tyAV _ e rfl)).trans H7.out)
        have os : OwnVs (u.setCell ⟨w.heap.size, 2, none⟩ (.slice A' K.length c')) B (.slice A' K.length c') K := row_same K1.out fun b e => far b (row_apart K1.out HXU.out tyFV b e)
        have ol0 : OwnVs u B (.slice Al nl cl) f.loc := row_same OL.out fun b e => g2 b (OL.out.lt b e).2 (fun e2 => HSL.out b e2 e)
        have oo0 : OwnSs u B (.slice (some ⟨g, 0, none⟩) f.slt.length co) (f.slt.set m slt0) := row_same OO.out fun b e => g2 b (OO.out.lt b e).2 (fun e2 => rows_ne OS.out OO.out tyVS b e2 e)
        have ol : OwnVs (u.setCell ⟨w.heap.size, 2, none⟩ (.slice A' K.length c')) B (.slice Al nl cl) f.loc := row_same ol0 fun b e => far b (row_apart ol0 HXU.out tyFV b e)
        have oo : OwnSs (u.setCell ⟨w.heap.size, 2, none⟩ (.slice A' K.length c')) B (.slice (some ⟨g, 0, none⟩) f.slt.length co) (f.slt.set m slt0) := row_same oo0 fun b e => far b (row_apart oo0 HXU.out tyFS b e)
        have bu : Below B w u := ((BW.out.trans (HBA.out.mono hBz)).grown K2.out (Nat.le_trans hBz HBA.out.size) (fun j hj => (OS.out.lt j hj).1))
        have bw : Below B w (u.setCell ⟨w.heap.size, 2, none⟩ (.slice A' K.length c')) := bu.setCell (p := ⟨w.heap.size, 2, none⟩) hB _
        clear far g2 x2 q4 q5 hSx q2 z2 ql n6 n7 ol0 oo0 bu hBz xl HX H6 H7
        generalize (u.setCell ⟨w.heap.size, 2, none⟩ (.slice A' K.length c')) = W3 at *
        have x1 := hx.cell 1
        have f1 := hx.fz 1
        have xl := hx.lt
        simp at x1
        have hpc := HPC.out
        have HX := Lib.hid hx
        have H6 := Lib.hid h6
        have H7 := Lib.hid h7
        have OS := Lib.hid os
        have OL := Lib.hid ol
        have OO := Lib.hid oo
        have BW := Lib.hid bw
        clear hx h6 h7 os ol oo bw
        go_upto_region 13 with (fail)
        have far : ∀ k, k ≠ w.heap.size → (W3.setCell ⟨w.heap.size, 1, none⟩ (.int .i64 (f.pc + 1))).heap[k]? = W3.heap[k]? := fun k hk => Below.heap_setCell W3 ⟨w.heap.size, 1, none⟩ _ k hk
        have hx : Held (W3.setCell ⟨w.heap.size, 1, none⟩ (.int .i64 (f.pc + 1))) w.heap.size 45 (fcA { f with slt := f.slt.set m slt0, stk := K, pc := f.pc + 1 } (.slice A' K.length c') (.slice Al nl cl) (.slice (some ⟨g, 0, none⟩) f.slt.length co)) := HX.out.set_at 1 _
        have n6 : (w.heap.size + 1 + 1) ≠ w.heap.size := by omega
        have n7 : (w.heap.size + 1 + 1 + 1) ≠ w.heap.size := by omega
        have h6 : Held (W3.setCell ⟨w.heap.size, 1, none⟩ (.int .i64 (f.pc + 1))) (w.heap.size + 1 + 1) 45 fz0 := (far _ n6).trans H6.out
        have h7 : Held (W3.setCell ⟨w.heap.size, 1, none⟩ (.int .i64 (f.pc + 1))) (w.heap.size + 1 + 1 + 1) 77 ac0 := (far _ n7).trans H7.out
        have OWN := Lib.hid (show OwnF (W3.setCell ⟨w.heap.size, 1, none⟩ (.int .i64 (f.pc + 1))) B (fv { f with slt := f.slt.set m slt0, stk := K, pc := f.pc + 1 } (.slice A' K.length c') (.slice Al nl cl) (.slice (some ⟨g, 0, none⟩) f.slt.length co)) { f with slt := f.slt.set m slt0, stk := K, pc := f.pc + 1 } from
          ⟨_, _, _, rfl, row_same OS.out fun b e => far b (row_apart OS.out HX.out tyFV b e), row_same OL.out fun b e => far b (row_apart OL.out HX.out tyFV b e), row_same OO.out fun b e => far b (row_apart OO.out HX.out tyFS b e)⟩)
        have BW := Lib.hid (show Below B w (W3.setCell ⟨w.heap.size, 1, none⟩ (.int .i64 (f.pc + 1))) from BW.out.setCell (p := ⟨w.heap.size, 1, none⟩) hB _)
        clear far x1 f1 xl n6 n7 hpc
        generalize (W3.setCell ⟨w.heap.size, 1, none⟩ (.int .i64 (f.pc + 1))) = W4 at *
        have H6 := Lib.hid h6
        have H7 := Lib.hid h7
        go_wp2_with (first
    | (guard_target = wpList _ _ _ (Oper.mk _ (Op.load 45 (.tmp 2)) _ _ _ none :: _) _ _; refine wpList_load_row rfl 45 _ rfl w.heap.size rfl _ _ _ _ hx Tryz.underlying45 rfl (by kernel_rfl) ?_)
    | (guard_target = wpList _ _ _ (Oper.mk _ (Op.store 45 (.tmp 4) _) _ _ _ none :: _) _ _; refine wpList_store_row rfl 45 _ _ rfl (w.heap.size + 1 + 1) (fcA { f with slt := f.slt.set m slt0, stk := K, pc := f.pc + 1 } (.slice A' K.length c') (.slice Al nl cl) (.slice (some ⟨g, 0, none⟩) f.slt.length co)) rfl rfl _ _ h6 (by kernel_rfl) rfl (by simp [Value.oneCell']) ?_; have k7 := h7.row (show w.heap.size + 1 + 1 + 1 ≠ w.heap.size + 1 + 1 by omega) (fcA { f with slt := f.slt.set m slt0, stk := K, pc := f.pc + 1 } (.slice A' K.length c') (.slice Al nl cl) (.slice (some ⟨g, 0, none⟩) f.slt.length co)); have k6 := h6.rowSelf (fcA { f with slt := f.slt.set m slt0, stk := K, pc := f.pc + 1 } (.slice A' K.length c') (.slice Al nl cl) (.slice (some ⟨g, 0, none⟩) f.slt.length co)))
    | (guard_target = wpList _ _ _ (Oper.mk _ (Op.store 77 (.tmp 5) _) _ _ _ none :: _) _ _; refine wpList_store_row rfl 77 _ _ rfl (w.heap.size + 1 + 1 + 1) ac1 rfl rfl _ _ k7 (by kernel_rfl) rfl (by simp [Value.oneCell']) ?_))
        rw [HR3.out.symm]
        have e9 : trapT (goF (pushF { f with slt := f.slt.set m slt0 } [(re, im)]) (f.pc + 1), actK 1, 0) = ({ f with slt := f.slt.set m slt0, stk := K, pc := f.pc + 1 }, actK 1) := by rw [← HK.out]; rfl
        rw [e9]
        exact bodyPost_ret (two_ret rfl rfl _ (k6.row (by omega) ac1) (k7.rowSelf ac1) rfl rfl rfl rfl) rfl (two_done H6.out H7.out OWN.out (ActO.k _ _ 1) BW.out (by omega) (by omega))
      · have e3b : (tr != 0) = true := by simpa using e3
        have hR3 := HR2.out
        rw [if_pos (by simpa using e3)] at hR3
        have HR3 := Lib.hid hR3
        have HE3 := Lib.hid e3
        clear hR3 e3 HR2
        have H6 := Lib.hid h6
        have H7 := Lib.hid h7
        have OWN := Lib.hid (show OwnF W2 B (fv (endF { f with slt := f.slt.set m slt0 } tr (0, 0)) (.slice As f.stk.length cs) (.slice Al nl cl) (.slice (some ⟨g, 0, none⟩) f.slt.length co)) (endF { f with slt := f.slt.set m slt0 } tr (0, 0)) from ⟨_, _, _, rfl, os, ol, oo⟩)
        have BW := Lib.hid bw
        clear h6 h7 os ol oo bw
        go_wp2_with (first
    | (guard_target = wpList _ _ _ (Oper.mk _ (Op.load 45 (.tmp 2)) _ _ _ none :: _) _ _; refine wpList_load_row rfl 45 _ rfl w.heap.size rfl _ _ _ _ hx Tryz.underlying45 rfl (by kernel_rfl) ?_)
    | (go_at_call 50; (with_reducible refine (CT { f with slt := f.slt.set m slt0 } tr _).out.mono ?_); rintro _ u ⟨rfl, hb⟩; have h6 := H6.out.below hb; have h7 := H7.out.below hb)
    | (guard_target = wpList _ _ _ (Oper.mk _ (Op.store 45 (.tmp 4) _) _ _ _ none :: _) _ _; refine wpList_store_row rfl 45 _ _ rfl (w.heap.size + 1 + 1) (fcA (endF { f with slt := f.slt.set m slt0 } tr (0, 0)) (.slice As f.stk.length cs) (.slice Al nl cl) (.slice (some ⟨g, 0, none⟩) f.slt.length co)) rfl rfl _ _ h6 (by kernel_rfl) rfl (by simp [Value.oneCell']) ?_; have k7 := h7.row (show w.heap.size + 1 + 1 + 1 ≠ w.heap.size + 1 + 1 by omega) (fcA (endF { f with slt := f.slt.set m slt0 } tr (0, 0)) (.slice As f.stk.length cs) (.slice Al nl cl) (.slice (some ⟨g, 0, none⟩) f.slt.length co)); have k6 := h6.rowSelf (fcA (endF { f with slt := f.slt.set m slt0 } tr (0, 0)) (.slice As f.stk.length cs) (.slice Al nl cl) (.slice (some ⟨g, 0, none⟩) f.slt.length co)))
    | (guard_target = wpList _ _ _ (Oper.mk _ (Op.store 77 (.tmp 5) _) _ _ _ none :: _) _ _; refine wpList_store_row rfl 77 _ _ rfl (w.heap.size + 1 + 1 + 1) ac4 rfl rfl _ _ k7 (by kernel_rfl) rfl (by simp [Value.oneCell']) ?_))
        rw [HR3.out.symm]
        have hB2 : B ≤ W2.heap.size := by omega
        have e9 : trapT ({ f with slt := f.slt.set m slt0 }, act0, tr) = ((endF { f with slt := f.slt.set m slt0 } tr (0, 0)), actK 4) := by unfold trapT; rw [if_pos HE3.out]
        rw [e9]
        exact bodyPost_ret (two_ret rfl rfl _ (k6.row (by omega) ac4) (k7.rowSelf ac4) rfl rfl rfl rfl) rfl (two_done h6 h7 (OWN.out.below hb) (ActO.k _ _ 4) (BW.out.trans (hb.mono hB2)) (by omega) (by omega))
    · have e2b : (st != 2) = true := by simpa using e2
      rw [if_neg e2] at hR2
      have HR2 := Lib.hid hR2
      have OWN := Lib.hid (show OwnF W1 B (fv (endF f 2 (0, 0)) (.slice As f.stk.length cs) (.slice Al nl cl) (.slice (some ⟨g, 0, none⟩) f.slt.length co)) (endF f 2 (0, 0)) from ⟨_, _, _, rfl, row_later HS.out HBW.out, row_later HL.out HBW.out, row_later HO.out HBW.out⟩)
      clear hR2 e1 e2 HRR
      have hx := HX.out
      go_wp2_with (first
    | (guard_target = wpList _ _ _ (Oper.mk _ (Op.load 45 (.tmp 2)) _ _ _ none :: _) _ _; refine wpList_load_row rfl 45 _ rfl w.heap.size rfl _ _ _ _ hx Tryz.underlying45 rfl (by kernel_rfl) ?_)
    | (go_at_call 50; (with_reducible refine (CT f 2 _).out.mono ?_); rintro _ u ⟨rfl, hb⟩; have h6 := H6.out.below hb; have h7 := H7.out.below hb)
    | (guard_target = wpList _ _ _ (Oper.mk _ (Op.store 45 (.tmp 4) _) _ _ _ none :: _) _ _; refine wpList_store_row rfl 45 _ _ rfl (w.heap.size + 1 + 1) (fcA (endF f 2 (0, 0)) (.slice As f.stk.length cs) (.slice Al nl cl) (.slice (some ⟨g, 0, none⟩) f.slt.length co)) rfl rfl _ _ h6 (by kernel_rfl) rfl (by simp [Value.oneCell']) ?_; have k7 := h7.row (show w.heap.size + 1 + 1 + 1 ≠ w.heap.size + 1 + 1 by omega) (fcA (endF f 2 (0, 0)) (.slice As f.stk.length cs) (.slice Al nl cl) (.slice (some ⟨g, 0, none⟩) f.slt.length co)); have k6 := h6.rowSelf (fcA (endF f 2 (0, 0)) (.slice As f.stk.length cs) (.slice Al nl cl) (.slice (some ⟨g, 0, none⟩) f.slt.length co)))
    | (guard_target = wpList _ _ _ (Oper.mk _ (Op.store 77 (.tmp 5) _) _ _ _ none :: _) _ _; refine wpList_store_row rfl 77 _ _ rfl (w.heap.size + 1 + 1 + 1) ac4 rfl rfl _ _ k7 (by kernel_rfl) rfl (by simp [Value.oneCell']) ?_))
      rw [HR2.out.symm]
      exact bodyPost_ret (two_ret rfl rfl _ (k6.row (by omega) ac4) (k7.rowSelf ac4) rfl rfl rfl rfl) rfl (two_done h6 h7 (OWN.out.below hb) (ActO.k _ _ 4) ((HBW.out.mono hB).trans (hb.mono (by have := HBW.out.size; omega))) (by omega) (by omega))
end Go.Proofs.YtoeinpiekfmbgaaGreatDoor

