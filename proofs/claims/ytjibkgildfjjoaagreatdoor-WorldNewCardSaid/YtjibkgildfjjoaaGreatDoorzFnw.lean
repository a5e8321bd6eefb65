/- Layer 9: New. -/
import Derived.Test.YtjibkgildfjjoaaGreatDoorzFm
import Derived.Test.YtjibkgildfjjoaaGreatDoorzPs
import Derived.Laws.CopyRow
import Derived.Laws.IdiomCopy
namespace Go.Proofs.YtjibkgildfjjoaaGreatDoor
set_option linter.unusedVariables false
set_option linter.unusedSimpArgs false
open Gm Go.RowKit Go.ChangeShapes Go.WideShapes Go.ChangeAt Go.Sort

def zeroV (n : Nat) : Array Value := (flatV (List.replicate n (0, 0))).toArray
def zeroS (n : Nat) : Array Value := (flatS (List.replicate n slt0)).toArray
def cellsV (l : List V) : Array Value := (flatV l).toArray
theorem flatV_rep : ∀ n, flatV (List.replicate n (0, 0)) = List.replicate (n * 2) (.int .i64 0)
  | 0 => rfl
  | n + 1 => by
    rw [List.replicate_succ, show (n + 1) * 2 = n * 2 + 1 + 1 by omega, List.replicate_succ, List.replicate_succ, ← flatV_rep n]
    rfl
theorem flatS_rep : ∀ n, flatS (List.replicate n slt0) = List.replicate (n * 6) (.int .i64 0)
  | 0 => rfl
  | n + 1 => by
    rw [List.replicate_succ, show (n + 1) * 6 = n * 6 + 1 + 1 + 1 + 1 + 1 + 1 by omega, List.replicate_succ, List.replicate_succ, List.replicate_succ, List.replicate_succ, List.replicate_succ, List.replicate_succ, ← flatS_rep n]
    rfl
theorem madeV (n : Nat) : madeCells #[Value.int .i64 0, .int .i64 0] (n * 2) = zeroV n := by
  unfold zeroV
  rw [flatV_rep]
  apply Array.ext'
  apply List.ext_getElem?
  intro j
  simp only [madeCells]
  by_cases hj : j < n * 2
  · have hm : j % 2 = 0 ∨ j % 2 = 1 := by omega
    rcases hm with hm | hm <;> simp [hj, hm]
  · simp [hj]
theorem madeS (n : Nat) : madeCells #[Value.int .i64 0, .int .i64 0, .int .i64 0, .int .i64 0, .int .i64 0, .int .i64 0] (n * 6) = zeroS n := by
  unfold zeroS
  rw [flatS_rep]
  apply Array.ext'
  apply List.ext_getElem?
  intro j
  simp only [madeCells]
  by_cases hj : j < n * 6
  · have hm : j % 6 = 0 ∨ j % 6 = 1 ∨ j % 6 = 2 ∨ j % 6 = 3 ∨ j % 6 = 4 ∨ j % 6 = 5 := by omega
    rcases hm with hm | hm | hm | hm | hm | hm <;> simp [hj, hm]
  · simp [hj]
theorem make_vs {n : Nat} (hn : n ≤ 1000) (w : World) : (Instr.makeSlice 24 (.int .i64 (n : Int)) (.int .i64 (n : Int))).run Tryz.prog w = .ok (.slice (some ⟨w.heap.size, 0, none⟩) n n) (w.alloc (.cells (zeroV n) 38)) := by
  obtain ⟨q, hi, hz0, hz1, hz2⟩ := info_parts infoV
  have hr := run_make (P := Tryz.prog) w 24 38 q _ Tryz.underlying24 hi hz0 .i64 .i64 n n (by omega) (Int.le_refl _) (by rw [hz2]; omega) (by omega)
  simp only [Int.toNat_natCast, hz1] at hr
  rw [hr, ← madeV]
  rfl
theorem make_ss {n : Nat} (hn : n ≤ 1000) (w : World) : (Instr.makeSlice 58 (.int .i64 (n : Int)) (.int .i64 (n : Int))).run Tryz.prog w = .ok (.slice (some ⟨w.heap.size, 0, none⟩) n n) (w.alloc (.cells (zeroS n) 96)) := by
  obtain ⟨q, hi, hz0, hz1, hz2⟩ := info_parts infoS
  have hr := run_make (P := Tryz.prog) w 58 96 q _ Tryz.underlying58 hi hz0 .i64 .i64 n n (by omega) (Int.le_refl _) (by rw [hz2]; omega) (by omega)
  simp only [Int.toNat_natCast, hz1] at hr
  rw [hr, ← madeS]
  rfl
/-- The copy of arguments into new locals. -/
theorem copy_vs {n : Nat} {l : List V} (hl : l.length ≤ n) {B : Nat} {A : Option Addr} (w : World) (h : VAt w B A l) (hB : B ≤ w.heap.size) (c : Nat) (ty : TypeId) :
    (Builtin.copy_ #[24, 24] ty #[.slice (some ⟨w.heap.size, 0, none⟩) n n, .slice A l.length c]).run Tryz.prog (w.alloc (.cells (zeroV n) 38)) =
      .ok (.int .i64 l.length) (w.alloc (.cells (cellsV (l ++ List.replicate (n - l.length) (0, 0))) 38)) := by
  obtain ⟨q, hi, hz0, hz1, hz2⟩ := info_parts infoV
  have hmin : Nat.min l.length n = l.length := Nat.min_eq_left hl
  by_cases h0 : l = []
  · subst h0
    have hl : ∀ (x : Addr), (loadCells x 0).run Tryz.prog (w.alloc (.cells (zeroV n) 38)) = .ok #[] (w.alloc (.cells (zeroV n) 38)) := fun x => by simpa using run_loadCells_list (P := Tryz.prog) _ x [] (by simp)
    have e : cellsV ([] ++ List.replicate (n - ([] : List V).length) (0, 0)) = zeroV n := by simp [cellsV, zeroV]
    rw [e]
    generalize zeroV n = z at *
    cases A <;> simp [Builtin.copy_, run_underlying Tryz.underlying24, Builtin.lenOf, Builtin.firstCells, sizeOf, typeInfo, hi, hz1, storeCells, hl, goInt]
  · obtain ⟨b, off, rfl, hb, hc⟩ := h (by cases l with | nil => exact absurd rfl h0 | cons x l => simp)
    have hb' : Below w.heap.size w (w.alloc (.cells (zeroV n) 38)) := (Below.refl _ _).alloc (Nat.le_refl _) _
    have hc' : VAt (w.alloc (.cells (zeroV n) 38)) B (some ⟨b, off, none⟩) l := h.below hb' hB
    obtain ⟨b2, off2, e2, hb2, hc2⟩ := hc' (by cases l with | nil => exact absurd rfl h0 | cons x l => simp)
    simp only [Option.some.injEq, Addr.mk.injEq] at e2
    obtain ⟨rfl, rfl, _⟩ := e2
    have hl1 := run_loadCells_list (P := Tryz.prog) (w.alloc (.cells (zeroV n) 38)) ⟨b, off, none⟩ (flatV l) (newsV (C := B) hc2)
    have hst := run_storeCells_at Tryz.prog w.heap.size 0 38 (flatV l) 0 (zeroV n) (w.alloc (.cells (zeroV n) 38)) (heap_alloc_last w _) (by
      rw [flatV_len]
      simp only [zeroV, flatV_rep, List.size_toArray, List.length_replicate]
      omega) oneV
    rw [flatV_len] at hl1
    rw [flatV_len] at hst
    have hcells : ((zeroV n).toList.take (0 + 0) ++ flatV l ++ (zeroV n).toList.drop (0 + 0 + l.length * 2)).toArray = cellsV (l ++ List.replicate (n - l.length) (0, 0)) := by
      unfold cellsV
      rw [flatV_append, flatV_rep]
      simp only [zeroV, flatV_rep, Nat.zero_add, List.take_zero, List.nil_append, List.drop_replicate]
      rw [show n * 2 - l.length * 2 = (n - l.length) * 2 by omega]
    rw [hcells, World.setRow_alloc_new] at hst
    simp [Builtin.copy_, run_underlying Tryz.underlying24, Builtin.lenOf, Builtin.firstCells, sizeOf, typeInfo, hi, hz1, hmin, hl1, hst, goInt]
theorem OwnVs.held {w : World} {B g : Nat} {l : List V} (h : Held w g 38 (cellsV l)) (hB : B ≤ g) (hl : l.length ≤ 1000) : OwnVs w B (.slice (some ⟨g, 0, none⟩) l.length l.length) l := by
  refine ⟨flatV_len l, .inr ⟨g, l.length, cellsV l, rfl, hB, h, Nat.le_refl _, by unfold maxLen; omega, ?_, ?_⟩⟩
  · simp [cellsV, flatV_len]
  · rw [← flatV_len l]
    simp [cellsV]
theorem OwnSs.held {w : World} {B g n : Nat} (h : Held w g 96 (zeroS n)) (hB : B ≤ g) (hl : n ≤ 1000) : OwnSs w B (.slice (some ⟨g, 0, none⟩) n n) (List.replicate n slt0) := by
  have hf := flatS_len (List.replicate n slt0)
  rw [List.length_replicate] at hf
  unfold OwnSs
  rw [List.length_replicate]
  refine ⟨hf, .inr ⟨g, n, zeroS n, rfl, hB, h, Nat.le_refl _, by unfold maxLen; omega, ?_, ?_⟩⟩
  · simp [zeroS, hf]
  · rw [← hf]
    simp [zeroS]
theorem fz0_own (w : World) (B : Nat) : OwnF w B (.agg fz0) frm0 := ⟨_, _, _, rfl, OwnVs.nil _ _, OwnVs.nil _ _, OwnSs.nil _ _⟩
/-- What New leaves. -/
def NewQ (w : World) (R : Frm × Bool) (e : Ending) (w' : World) : Prop := ∃ v', e = .returned (.tuple #[v', .bool R.2]) ∧ OwnF w' w.heap.size v' R.1 ∧ Below w.heap.size w w'
theorem newF_no {p : List Fun} {fn s : Int} {args : List V} (h : ¬ (mayP p = true ∧ hasI p.length fn = true ∧ isZ s = true)) : newF p fn args s = (frm0, false) := by
  unfold newF
  rw [if_neg h]
theorem newF_at {p : List Fun} {fn s : Int} {args : List V} (h1 : mayP p = true) (h2 : hasI p.length fn = true) (h3 : isZ s = true) {g : Fun} (hg : p[fn.toNat]? = some g) :
    newF p fn args s = if g.ar ≤ g.lo ∧ g.ar = args.length ∧ (args.all fun v => mayB v.1 v.2) = true
          then (⟨fn, 0, [], args ++ List.replicate (g.lo.toNat - args.length) (0, 0), List.replicate g.sl.toNat slt0, s, 0, 0, 0, 0, 0, 0, 0, -1, 0, 0⟩, true) else (frm0, false) := by
  unfold newF
  rw [if_pos ⟨h1, h2, h3⟩, hg]
theorem size16 (W : World) (g : Nat) (x0 x1 x2 x3 x4 x5 x6 x7 x8 x9 x10 x11 x12 x13 x14 x15 : Value) : ((((((((((((((((W.setCell ⟨g, 0, none⟩ x0).setCell ⟨g, 1, none⟩ x1).setCell ⟨g, 2, none⟩ x2).setCell ⟨g, 3, none⟩ x3).setCell ⟨g, 4, none⟩ x4).setCell ⟨g, 5, none⟩ x5).setCell ⟨g, 6, none⟩ x6).setCell ⟨g, 7, none⟩ x7).setCell ⟨g, 8, none⟩ x8).setCell ⟨g, 9, none⟩ x9).setCell ⟨g, 10, none⟩ x10).setCell ⟨g, 11, none⟩ x11).setCell ⟨g, 12, none⟩ x12).setCell ⟨g, 13, none⟩ x13).setCell ⟨g, 14, none⟩ x14).setCell ⟨g, 15, none⟩ x15).heap.size = W.heap.size := by simp [World.setCell]
set_option maxHeartbeats 2000000 in
set_option maxRecDepth 100000 in
theorem new_no {B : Nat} {A A2 : Option Addr} {p : List Fun} {args : List V} (c c2 : Nat) (fn s : Int) (w : World) (hT : TabB w B) (h : ProgAt w B A p) (hz : SizedP p) (hB : B ≤ w.heap.size) (hno : ¬ (mayP p = true ∧ hasI p.length fn = true ∧ isZ s = true)) :
    Calls Tryz.prog 30 #[.slice A p.length c, .int .i64 fn, .slice A2 args.length c2, .int .i64 s] w fun e w' => NewQ w (newF p fn args s) e w' := by
  rw [newF_no hno]
  have CM := fun W (hb : Below w.heap.size w W) => Lib.hid (cmay_any c W (hT.below hb hB).ot (h.below hb hB) hz (Nat.le_trans hB hb.size))
  have HF := hasF_any A p.length c fn
  have hF : ∀ W B, OwnF W B (.agg fz0) frm0 := fz0_own
  have HFz := Lib.hid hF
  have hcs : (mayP p = false) ∨ (mayP p = true ∧ hasI p.length fn = false) ∨ (mayP p = true ∧ hasI p.length fn = true ∧ decide (s < 0) = true) ∨ (mayP p = true ∧ hasI p.length fn = true ∧ decide (s < 0) = false ∧ decide (4294967295 < s) = true) := by
    by_cases h1 : mayP p = true
    · by_cases h2 : hasI p.length fn = true
      · by_cases h3 : s < 0
        · exact .inr (.inr (.inl ⟨h1, h2, by simpa using h3⟩))
        · refine .inr (.inr (.inr ⟨h1, h2, by simpa using h3, ?_⟩))
          by_cases h4 : 4294967295 < s
          · simpa using h4
          · exact absurd ⟨h1, h2, by simp [isZ]; omega⟩ hno
      · exact .inr (.inl ⟨h1, by simpa using h2⟩)
    · exact .inl (by simpa using h1)
  clear hT h hz hB hno hF
  generalize mayP p = m at *
  generalize hasI p.length fn = hh at *
  rcases hcs with rfl | ⟨rfl, rfl⟩ | ⟨rfl, rfl, e1⟩ | ⟨rfl, rfl, e1, e2⟩
  all_goals
    go_enter Tryz.func30, Tryz.ntmps30
    go_wp2_with (first
      | (go_at_call 56; (with_reducible refine (CM _ ((Below.refl _ _).alloc (Nat.le_refl _) _)).out.mono ?_); rintro _ u ⟨rfl, hb⟩; have hx := (Held.new w 60 fz0).below hb; have hbw := below_laid hb)
      | (go_at_call 59; (with_reducible refine (HF.go _).mono ?_); rintro _ u2 ⟨rfl, rfl⟩)
      | (refine wpList_store_row rfl 60 _ _ rfl w.heap.size fz0 rfl rfl _ _ hx (by kernel_rfl) rfl (by simp [Value.oneCell']) ?_))
    have l1 := run_loadVar_row (P := Tryz.prog) _ w.heap.size 60 60 _ (0, 0) _ (hx.rowSelf fz0) Tryz.underlying60 rfl (by kernel_rfl)
    exact bodyPost_ret (results_ct rfl _ _ rfl rfl l1) rfl ⟨_, rfl, HFz.out _ _, below_setRow hbw (Nat.le_refl _) _⟩
set_option maxHeartbeats 4000000 in
set_option maxRecDepth 100000 in
theorem new_yes {B : Nat} {A A2 : Option Addr} {p : List Fun} {args : List V} (c c2 : Nat) (fn s : Int) (w : World) (hT : TabB w B) (h : ProgAt w B A p) (hz : SizedP p) (ha : VAt w B A2 args) (hl : args.length ≤ 1000) (hB : B ≤ w.heap.size) (h1 : mayP p = true) (h2 : hasI p.length fn = true) (h3 : isZ s = true) :
    Calls Tryz.prog 30 #[.slice A p.length c, .int .i64 fn, .slice A2 args.length c2, .int .i64 s] w fun e w' => NewQ w (newF p fn args s) e w' := by
  obtain ⟨k, rfl, hk⟩ : ∃ k : Nat, fn = k ∧ k < p.length := by
    simp [hasI] at h2
    exact ⟨fn.toNat, by omega, by omega⟩
  have hR := newF_at (args := args) h1 h2 h3 (g := p[k]) (by rw [Int.toNat_natCast, List.getElem?_eq_getElem hk])
  generalize newF p k args s = R at *
  have HR := Lib.hid hR
  clear hR
  have hmf := ((mayP_iff p).1 h1).2.2 p[k] (List.getElem_mem hk)
  have hhd : headB p[k].ar p[k].lo p[k].sl = true := by
    unfold mayF at hmf
    simp at hmf
    exact hmf.1.1
  obtain ⟨⟨a0, a1⟩, ⟨b0, b1⟩, c0, c1⟩ := (headB_iff _ _ _).1 hhd
  have CM := fun W (hb : Below w.heap.size w W) => Lib.hid (cmay_any c W (hT.below hb hB).ot (h.below hb hB) hz (Nat.le_trans hB hb.size))
  have HF := hasF_any A p.length c k
  rw [h1] at CM
  rw [h2] at HF
  have ABd := fun W (hb : Below w.heap.size w W) => Lib.hid (anybad_any c2 W (ha.below hb hB) hl (Nat.le_trans hB hb.size))
  have CP := fun n (hn : args.length ≤ n) W (hb : Below w.heap.size w W) => copy_vs hn W (ha.below hb hB) (Nat.le_trans hB hb.size) c2
  have HP : ∀ W, Below w.heap.size w W → Hid (∃ b off, A = some ⟨b, off, none⟩ ∧ b < B ∧ FunAt W B b (off + k * 4) p[k]) := fun W hb => by
    obtain ⟨b, off, e1, hbl, hf⟩ := (h.below hb hB) (by omega)
    exact Lib.hid ⟨b, off, e1, hbl, hf k hk⟩
  have NB := fun W (hb : Below w.heap.size w W) => Lib.hid (hT.below hb hB).nb
  have HFz := Lib.hid (fz0_own)
  have s0 : decide (s < 0) = false := by simp [isZ] at h3; simpa using h3.1
  have s1 : decide (4294967295 < s) = false := by simp [isZ] at h3; simpa using h3.2
  have hk2 : (k : Int) < p.length := by omega
  have HL := Lib.hid hl
  generalize p[k] = g at *
  obtain ⟨ar, lo, sl, code⟩ := g
  simp only at a0 a1 b0 b1 c0 c1
  clear hmf hhd hT h hz ha hl h1 h2 h3 hk
  generalize hnL : args.length = nL at *
  generalize hpL : p.length = pL at *
  go_enter Tryz.func30, Tryz.ntmps30
  go_upto_region 3 with (first
    | (go_at_call 56; (with_reducible refine (CM _ ((Below.refl _ _).alloc (Nat.le_refl _) _)).out.mono ?_); rintro _ u ⟨rfl, hb⟩; have hx := (Held.new w 60 fz0).below hb; have hbw := below_laid hb)
    | (go_at_call 59; (with_reducible refine (HF.go _).mono ?_); rintro _ u2 ⟨rfl, rfl⟩))
  obtain ⟨b, off, e1, hbl, hf⟩ := (HP _ hbw).out
  subst e1
  obtain ⟨f0, f1, f2, Ac, cc, f3, _⟩ := hf
  simp only at f0 f1 f2 f3
  have hxl := hx.lt
  clear hb
  go_upto_region 4 with fail
  have g0 := hx.alloc (.cells #[.int .i64 ar, .int .i64 lo, .int .i64 sl, .slice Ac code.length cc] 73)
  have g1 := Held.new u 73 #[.int .i64 ar, .int .i64 lo, .int .i64 sl, .slice Ac code.length cc]
  have gb := hbw.alloc hbw.size (.cells #[.int .i64 ar, .int .i64 lo, .int .i64 sl, .slice Ac code.length cc] 73)
  clear hx hbw HP CM HF f0 f1 f2 f3
  generalize u.alloc (.cells #[.int .i64 ar, .int .i64 lo, .int .i64 sl, .slice Ac code.length cc] 73) = W1 at *
  generalize u.heap.size = fb at *
  have y0 := g1.cell 0
  have y1 := g1.cell 1
  have y2 := g1.cell 2
  simp at y0 y1 y2
  have hcs : (decide (lo < ar) = true ∧ ¬ (ar ≤ lo)) ∨ (decide (lo < ar) = false ∧ (ar != (nL : Int)) = true ∧ ar ≠ nL) ∨ (decide (lo < ar) = false ∧ (ar != (nL : Int)) = false ∧ ar ≤ lo ∧ ar = nL) := by
    by_cases q1 : lo < ar
    · exact .inl ⟨by simpa using q1, by omega⟩
    · by_cases q2 : ar = nL
      · exact .inr (.inr ⟨by simpa using q1, by simpa using q2, by omega, q2⟩)
      · exact .inr (.inl ⟨by simpa using q1, by simpa using q2, q2⟩)
  rcases hcs with ⟨q1, q2⟩ | ⟨q1, q2, q3⟩ | ⟨q1, q2, q3, q4⟩
  · obtain rfl : R = (frm0, false) := by rw [HR.out, if_neg (fun e => q2 (by have := e.1; omega))]
    clear q2
    go_wp2_with (first
      | (refine wpList_store_row rfl 60 _ _ rfl w.heap.size fz0 rfl rfl _ _ g0 (by kernel_rfl) rfl (by simp [Value.oneCell']) ?_))
    have l1 := run_loadVar_row (P := Tryz.prog) _ w.heap.size 60 60 _ (0, 0) _ (g0.rowSelf fz0) Tryz.underlying60 rfl (by kernel_rfl)
    exact bodyPost_ret (results_ct rfl _ _ rfl rfl l1) rfl ⟨_, rfl, HFz.out _ _, below_setRow gb (Nat.le_refl _) _⟩
  · obtain rfl : R = (frm0, false) := by rw [HR.out, if_neg (fun e => q3 (by have := e.2.1; omega))]
    clear q3
    go_wp2_with (first
      | (refine wpList_store_row rfl 60 _ _ rfl w.heap.size fz0 rfl rfl _ _ g0 (by kernel_rfl) rfl (by simp [Value.oneCell']) ?_))
    have l1 := run_loadVar_row (P := Tryz.prog) _ w.heap.size 60 60 _ (0, 0) _ (g0.rowSelf fz0) Tryz.underlying60 rfl (by kernel_rfl)
    exact bodyPost_ret (results_ct rfl _ _ rfl rfl l1) rfl ⟨_, rfl, HFz.out _ _, below_setRow gb (Nat.le_refl _) _⟩
  · by_cases hab : (args.all fun v => mayB v.1 v.2) = true
    · obtain ⟨nl, hnl⟩ : ∃ n : Nat, lo.toNat = n := ⟨_, rfl⟩
      obtain ⟨ns, hns⟩ : ∃ n : Nat, sl.toNat = n := ⟨_, rfl⟩
      obtain rfl : R = (⟨k, 0, [], args ++ List.replicate (nl - nL) (0, 0), List.replicate ns slt0, s, 0, 0, 0, 0, 0, 0, 0, -1, 0, 0⟩, true) := by
        rw [HR.out, if_pos ⟨q3, q4, hab⟩, ← hnl, ← hns]
      rw [hab] at ABd
      have MV := fun W => make_vs (n := nl) (by omega) W
      have CPn := CP nl (by omega)
      have MS := fun W => make_ss (n := ns) (by omega) W
      rw [show (nl : Int) = lo by omega] at MV
      rw [show (ns : Int) = sl by omega] at MS
      have HN := Lib.hid (show nl ≤ 16 ∧ ns ≤ 8 ∧ nL ≤ nl by omega)
      clear CP hab q3 q4 a0 a1 b0 b1 c0 c1 hnl hns
      have HnL := Lib.hid hnL
      clear hnL
      go_upto_region 7 with (first
        | (go_at_call 60; (with_reducible refine (ABd _ gb).out.mono ?_); rintro _ u2 ⟨rfl, hb2⟩; have g0x := g0.below hb2; have g1x := g1.below hb2; have gbx := Below.step gb hb2; have y1 := g1x.cell 1; simp at y1))
      have CPu := CPn u2 gbx
      go_upto_region 8 with fail
      have k0 := g0x.alloc (.cells (cellsV (args ++ List.replicate (nl - nL) (0, 0))) 38)
      have k1 := g1x.alloc (.cells (cellsV (args ++ List.replicate (nl - nL) (0, 0))) 38)
      have k2 := Held.new u2 38 (cellsV (args ++ List.replicate (nl - nL) (0, 0)))
      have kb := gbx.alloc gbx.size (.cells (cellsV (args ++ List.replicate (nl - nL) (0, 0))) 38)
      have hlu : fb < u2.heap.size := g1x.lt
      clear g0 g1 gb g0x g1x gbx hb2 y0 y1 y2 ABd MV CPn CPu
      generalize u2.alloc (.cells (cellsV (args ++ List.replicate (nl - nL) (0, 0))) 38) = W3 at *
      generalize u2.heap.size = lb at *
      obtain ⟨ty, nb⟩ := (NB _ kb).out
      replace nb : Held W3 1 ty #[.int .i64 (-1), .int .i64 0] := nb
      have n0 := nb.cell 0
      have n1 := nb.cell 1
      have y2 := k1.cell 2
      simp at n0 n1 y2
      have kl := k0.lt
      have kf := k1.lt
      have kn := nb.lt
      have MS3 := MS W3
      have p0 := k0.cell 0
      have pz0 := k0.fz 0
      have p1 := k0.cell 1
      have pz1 := k0.fz 1
      have p2 := k0.cell 2
      have pz2 := k0.fz 2
      have p3 := k0.cell 3
      have pz3 := k0.fz 3
      have p4 := k0.cell 4
      have pz4 := k0.fz 4
      have p5 := k0.cell 5
      have pz5 := k0.fz 5
      have p6 := k0.cell 6
      have pz6 := k0.fz 6
      have p7 := k0.cell 7
      have pz7 := k0.fz 7
      have p8 := k0.cell 8
      have pz8 := k0.fz 8
      have p9 := k0.cell 9
      have pz9 := k0.fz 9
      have p10 := k0.cell 10
      have pz10 := k0.fz 10
      have p11 := k0.cell 11
      have pz11 := k0.fz 11
      have p12 := k0.cell 12
      have pz12 := k0.fz 12
      have p13 := k0.cell 13
      have pz13 := k0.fz 13
      have p14 := k0.cell 14
      have pz14 := k0.fz 14
      have p15 := k0.cell 15
      have pz15 := k0.fz 15
      simp at p0 p1 p2 p3 p4 p5 p6 p7 p8 p9 p10 p11 p12 p13 p14 p15
      go_region
      have s1 := set16 k0 (.int .i64 k) (.int .i64 0) (.slice none 0 0) (.slice (some ⟨lb, 0, none⟩) nl nl) (.slice (some ⟨W3.heap.size, 0, none⟩) ns ns) (.int .i64 s) (.int .i64 0) (.int .i64 0) (.int .i64 0) (.int .i64 0) (.int .i64 0) (.int .i64 0) (.int .i64 0) (.int .i64 (-1)) (.int .i64 0) (.int .i64 0)
      have s2 := far16 W3 w.heap.size (.int .i64 k) (.int .i64 0) (.slice none 0 0) (.slice (some ⟨lb, 0, none⟩) nl nl) (.slice (some ⟨W3.heap.size, 0, none⟩) ns ns) (.int .i64 s) (.int .i64 0) (.int .i64 0) (.int .i64 0) (.int .i64 0) (.int .i64 0) (.int .i64 0) (.int .i64 0) (.int .i64 (-1)) (.int .i64 0) (.int .i64 0)
      have s3 := below16 (.int .i64 k) (.int .i64 0) (.slice none 0 0) (.slice (some ⟨lb, 0, none⟩) nl nl) (.slice (some ⟨W3.heap.size, 0, none⟩) ns ns) (.int .i64 s) (.int .i64 0) (.int .i64 0) (.int .i64 0) (.int .i64 0) (.int .i64 0) (.int .i64 0) (.int .i64 0) (.int .i64 (-1)) (.int .i64 0) (.int .i64 0) (Nat.le_refl w.heap.size) kb
      have s4 := size16 W3 w.heap.size (.int .i64 k) (.int .i64 0) (.slice none 0 0) (.slice (some ⟨lb, 0, none⟩) nl nl) (.slice (some ⟨W3.heap.size, 0, none⟩) ns ns) (.int .i64 s) (.int .i64 0) (.int .i64 0) (.int .i64 0) (.int .i64 0) (.int .i64 0) (.int .i64 0) (.int .i64 0) (.int .i64 (-1)) (.int .i64 0) (.int .i64 0)
      generalize (World.setCell (World.setCell _ ⟨w.heap.size, 14, none⟩ _) ⟨w.heap.size, 15, none⟩ _) = W4 at *
      have k5 : Held W4 lb 38 (cellsV (args ++ List.replicate (nl - nL) (0, 0))) := (s2 lb (by omega)).trans k2
      have hN := HN.out
      have hLl : (args ++ List.replicate (nl - nL) (0, 0)).length = nl := by
        rw [List.length_append, List.length_replicate, HnL.out]
        omega
      have ov := OwnVs.held (B := w.heap.size) (k5.alloc (.cells (zeroS ns) 96)) (by omega) (by omega)
      rw [hLl] at ov
      have os := OwnSs.held (B := w.heap.size) (Held.new W4 96 (zeroS ns)) (by omega) (by omega)
      rw [s4] at os
      have s6 := s1.alloc (.cells (zeroS ns) 96)
      have s7 := s3.alloc s3.size (.cells (zeroS ns) 96)
      have hfin := Lib.hid (show OwnF (W4.alloc (.cells (zeroS ns) 96)).drew w.heap.size (fv ⟨k, 0, [], args ++ List.replicate (nl - nL) (0, 0), List.replicate ns slt0, s, 0, 0, 0, 0, 0, 0, 0, -1, 0, 0⟩ (.slice none 0 0) (.slice (some ⟨lb, 0, none⟩) nl nl) (.slice (some ⟨W3.heap.size, 0, none⟩) ns ns)) _ ∧ Below w.heap.size w (W4.alloc (.cells (zeroS ns) 96)).drew from ⟨⟨_, _, _, rfl, OwnVs.nil _ _, ov, os⟩, s7.drew⟩)
      have l1 := run_loadVar_row (P := Tryz.prog) _ w.heap.size 60 60 _ (0, 0) _ (held_drew s6) Tryz.underlying60 rfl (by kernel_rfl)
      clear p0 p1 p2 p3 p4 p5 p6 p7 p8 p9 p10 p11 p12 p13 p14 p15 pz0 pz1 pz2 pz3 pz4 pz5 pz6 pz7 pz8 pz9 pz10 pz11 pz12 pz13 pz14 pz15 s1 s2 s3 s4 k0 k1 k2 kb k5 hN hLl ov os s6 s7 n0 n1 y2 kl kf kn MS3 MS nb hlu hxl q1 q2 HN HnL NB HFz HL HR
      generalize (W4.alloc (.cells (zeroS ns) 96)).drew = W5 at *
      go_wp2_with fail
      exact bodyPost_ret (results_ct rfl _ _ rfl rfl l1) rfl ⟨_, rfl, hfin.out.1, hfin.out.2⟩
    · obtain rfl : R = (frm0, false) := by rw [HR.out, if_neg (fun e => hab e.2.2)]
      rw [Bool.not_eq_true] at hab
      rw [hab] at ABd
      clear hab
      go_wp2_with (first
        | (go_at_call 60; (with_reducible refine (ABd _ gb).out.mono ?_); rintro _ u2 ⟨rfl, hb2⟩; have g0x := g0.below hb2; have gbx := Below.step gb hb2)
        | (refine wpList_store_row rfl 60 _ _ rfl w.heap.size fz0 rfl rfl _ _ g0x (by kernel_rfl) rfl (by simp [Value.oneCell']) ?_))
      have l1 := run_loadVar_row (P := Tryz.prog) _ w.heap.size 60 60 _ (0, 0) _ (g0x.rowSelf fz0) Tryz.underlying60 rfl (by kernel_rfl)
      exact bodyPost_ret (results_ct rfl _ _ rfl rfl l1) rfl ⟨_, rfl, HFz.out _ _, below_setRow gbx (Nat.le_refl _) _⟩
end Go.Proofs.YtjibkgildfjjoaaGreatDoor

