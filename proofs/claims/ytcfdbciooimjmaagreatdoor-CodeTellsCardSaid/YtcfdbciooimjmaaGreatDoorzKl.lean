/- Layer 7's code: the draft's follow, where an instruction is laid. -/
import Derived.Test.YtcfdbciooimjmaaGreatDoorzGk
import Derived.Laws.CopyRow
namespace Go.Proofs.YtcfdbciooimjmaaGreatDoor
set_option linter.unusedVariables false
set_option linter.unusedSimpArgs false
open Go.RowKit Go.ChangeShapes Go.WideShapes Go.ChangeAt Go.Sort

theorem sizeInt : (Tryz.prog.info? 3).map (·.size) = some 1 := by kernel_rfl
theorem copy0 (w : World) (A : Option Addr) (c : Nat) (ty : TypeId) : (Builtin.copy_ #[77, 77] ty #[.slice (some ⟨w.heap.size, 0, none⟩) 2 2, .slice A 0 c]).run Tryz.prog (w.alloc (.cells #[.int .i64 0, .int .i64 0] 110)) = .ok (.int .i64 0) (w.alloc (.cells #[.int .i64 0, .int .i64 0] 110)) :=
  run_copy_none _ 77 77 ty 3 _ _ 2 2 0 c Tryz.underlying77 sizeInt (by simp)
theorem copy1 (w : World) (s c : Nat) (a : Int) (ty : TypeId) (h0 : w.cell? ⟨s, 0, none⟩ = some (.int .i64 a)) : (Builtin.copy_ #[77, 77] ty #[.slice (some ⟨w.heap.size, 0, none⟩) 2 2, .slice (some ⟨s, 0, none⟩) 1 c]).run Tryz.prog (w.alloc (.cells #[.int .i64 0, .int .i64 0] 110)) = .ok (.int .i64 1) (w.alloc (.cells #[.int .i64 a, .int .i64 0] 110)) := by
  have hl := block_lt_of_cell h0
  simp at hl
  rw [run_copy_row (P := Tryz.prog) _ 77 77 ty 3 w.heap.size 0 2 2 ⟨s, 0, none⟩ 1 c #[.int .i64 0, .int .i64 0] 110 [.int .i64 a] Tryz.underlying77 sizeInt (heap_alloc_last w _) (by simp) (by
    intro j v hj
    match j, hj with
    | 0, hj =>
      simp at hj
      subst hj
      exact (((Below.refl w.heap.size w).alloc (Nat.le_refl _) _).cell (p := ⟨s, 0, none⟩) hl).trans h0) (by simp) (by intro v hv; simp at hv; subst hv; rfl), World.setRow_alloc_new]
  rfl
theorem copy2 (w : World) (s c : Nat) (a b : Int) (ty : TypeId) (h0 : w.cell? ⟨s, 0, none⟩ = some (.int .i64 a)) (h1 : w.cell? ⟨s, 1, none⟩ = some (.int .i64 b)) : (Builtin.copy_ #[77, 77] ty #[.slice (some ⟨w.heap.size, 0, none⟩) 2 2, .slice (some ⟨s, 0, none⟩) 2 c]).run Tryz.prog (w.alloc (.cells #[.int .i64 0, .int .i64 0] 110)) = .ok (.int .i64 2) (w.alloc (.cells #[.int .i64 a, .int .i64 b] 110)) := by
  have hl := block_lt_of_cell h0
  simp at hl
  rw [run_copy_row (P := Tryz.prog) _ 77 77 ty 3 w.heap.size 0 2 2 ⟨s, 0, none⟩ 2 c #[.int .i64 0, .int .i64 0] 110 [.int .i64 a, .int .i64 b] Tryz.underlying77 sizeInt (heap_alloc_last w _) (by simp) (by
    intro j v hj
    match j, hj with
    | 0, hj =>
      simp at hj
      subst hj
      exact (((Below.refl w.heap.size w).alloc (Nat.le_refl _) _).cell (p := ⟨s, 0, none⟩) hl).trans h0
    | 1, hj =>
      simp at hj
      subst hj
      exact (((Below.refl w.heap.size w).alloc (Nat.le_refl _) _).cell (p := ⟨s, 1, none⟩) hl).trans h1) (by simp) (by intro v hv; simp at hv; rcases hv with rfl | rfl <;> rfl), World.setRow_alloc_new]
  rfl

set_option maxHeartbeats 4000000 in
set_option maxRecDepth 100000 in
theorem cfol_lay0 {D : Nat} {v : Value} {L0 : List (Fun × Value)} {f : Fun} {cf : Value} {A : Option Addr} {c : Nat} (nm : ByteArray) (w : World) (hT : TT w) (h : Dr D v (L0 ++ [(f, cf)]) w) (hL : L0.length ≤ 1000) (hfl : f.code.length ≤ 200) (hf : isF nm = true) (hn : (0 : Int) = (rz (numF nm)).f) (hA : IntsAt w A ([] : List Int)) :
    Calls Tryz.prog 58 #[.pointer (some ⟨D, 0, none⟩), .string nm, .slice A 0 c] w fun e w' => e = .returned (.bool (mayZ (numF nm) 0 0 && decide (f.code.length ≠ 200))) ∧ Below D w w' ∧
      (mayZ (numF nm) 0 0 = true → f.code.length ≠ 200 → ∃ v' L', Dr D v' L' w' ∧ L'.map (·.1) = L0.map (·.1) ++ [⟨f.ar, f.lo, f.sl, f.code ++ [(numF nm, 0, 0)]⟩]) := by
  have C := Lib.hid (find_any nm w hT.op)
  rw [hf] at C
  have CF := fun W h => Lib.hid (fields_any (numF nm) W h)
  have CM := fun W h => Lib.hid (may_any (numF nm) 0 0 W h)
  have hoc : OwnC w (D + 1) cf f.code := h.own.2.1 (f, cf) (by simp)
  obtain ⟨Ac, cc, rfl, _⟩ := hoc.code
  obtain ⟨gp, capp, rfl, hg, hgl, _, _, _, k3, _⟩ := h.own.last
  have HH := Lib.hid h
  have hDl := h.d.lt
  have HT := Lib.hid hT
  generalize numF nm = o at *
  rw [← hn] at CF
  generalize mayZ o 0 0 = m at *
  clear hf hn h hoc hT hA
  go_enter Tryz.func58, Tryz.ntmps58
  go_upto_region 5 with (first
    | (go_at_call 82; (with_reducible refine C.out.mono ?_); rintro e v ⟨rfl, hb⟩)
    | (go_at_call 73; (with_reducible refine (CF _ (HT.out.below hb).op).out.mono ?_); rintro e v2 ⟨rfl, hb2⟩; have hb3 := Below.step hb hb2; have H2 := Lib.hid (HH.out.below hb3); have d0 := H2.out.d.cell 0; have dl := H2.out.d.lt; simp at d0))
  have k3' := (hb3.cell (p := ⟨gp, L0.length * 4 + 3, none⟩) hgl).trans k3
  have cp := copy0 v2 A c 3
  go_wp2_with fail
  clear cp d0 k3
  have hb4 : Below w.heap.size w ((v2.alloc (.cells #[.int .i64 0, .int .i64 0] 110)).alloc (.cells #[.int .i64 o, .int .i64 0, .int .i64 0] 64)) := (hb3.alloc hb3.size _).alloc (by have := hb3.size; simp; omega) _
  have H4 : Dr D (.slice (some ⟨gp, 0, none⟩) (L0.length + 1) capp) (L0 ++ [(f, .slice Ac f.code.length cc)]) ((v2.alloc (.cells #[.int .i64 0, .int .i64 0] 110)).alloc (.cells #[.int .i64 o, .int .i64 0, .int .i64 0] 64)) := H2.out.below (below2 _ _ _)
  have hX : Held ((v2.alloc (.cells #[.int .i64 0, .int .i64 0] 110)).alloc (.cells #[.int .i64 o, .int .i64 0, .int .i64 0] 64)) (v2.heap.size + 1) 64 #[.int .i64 o, .int .i64 0, .int .i64 0] := Held.new1 _ _ _ _
  have k4 := ((below2 v2 (.cells #[.int .i64 0, .int .i64 0] 110) (.cells #[.int .i64 o, .int .i64 0, .int .i64 0] 64)).cell (p := ⟨gp, L0.length * 4 + 3, none⟩) (Nat.lt_of_lt_of_le hgl hb3.size)).trans k3'
  generalize (v2.alloc (.cells #[.int .i64 0, .int .i64 0] 110)).alloc (.cells #[.int .i64 o, .int .i64 0, .int .i64 0] 64) = V at *
  have q0 := H4.d.cell 0
  have ql := H4.d.lt
  simp at q0
  have H4 := Lib.hid H4
  have hX := Lib.hid hX
  have r0 := fun d os => cell_regrown q0 d os
  clear q0 k3' H2
  refine wp_region_quiet_below (by kernel_rfl) (by kernel_rfl) ?_
  (repeat (first | go_big_quiet_step (fail) | quiet_step (fail)))
  refine wpQuiet_nil ?_
  intro u hu
  have hbu := below_of_regrown hu
  clear hu r0
  have H5 := Lib.hid (H4.out.below hbu)
  have hX2 := Lib.hid (hX.out.below hbu)
  have hb5 : Below w.heap.size w u := hb4.trans (hbu.mono hb4.size)
  have k5 := (hbu.cell (p := ⟨gp, L0.length * 4 + 3, none⟩) (block_lt_of_cell k4)).trans k4
  have hgu : gp < u.heap.size := block_lt_of_cell k5
  have x0 := hX2.out.cell 0
  have x1 := hX2.out.cell 1
  have x2 := hX2.out.cell 2
  have xl := hX2.out.lt
  have hbz := hb5.size
  simp at x0 x1 x2
  clear k4
  have hown5 : OwnC u (D + 1) (.slice Ac f.code.length cc) f.code := H5.out.own.2.1 (f, .slice Ac f.code.length cc) (by simp)
  have HO5 := Lib.hid hown5
  clear hown5
  cases m
  · go_wp2_with (go_at_call 67; (with_reducible refine (CM _ (HT.out.below hb5).op).out.mono ?_); rintro e u2 ⟨rfl, hb6⟩)
    go_ret
    have hBD : Below D w u2 := (hb5.mono (by omega)).trans (hb6.mono (by omega))
    first
      | exact ⟨rfl, hBD⟩
      | exact ⟨rfl, hBD, fun h => by cases h⟩
  · by_cases h200 : f.code.length = 200
    · have hq : ((f.code.length : Int) == 200) = true := by simp; omega
      go_wp2_with (go_at_call 67; (with_reducible refine (CM _ (HT.out.below hb5).op).out.mono ?_); rintro e u2 ⟨rfl, hb6⟩; have k6 := (hb6.cell (p := ⟨gp, L0.length * 4 + 3, none⟩) hgu).trans k5)
      go_ret
      have hBD : Below D w u2 := (hb5.mono (by omega)).trans (hb6.mono (by omega))
      first
        | exact ⟨ret_bool (by simp [h200]), hBD⟩
        | exact ⟨ret_bool (by simp [h200]), hBD, fun h => absurd h200 h⟩
        | exact ⟨ret_bool (by simp [h200]), hBD, fun _ h => absurd h200 h⟩
    · have hq : ((f.code.length : Int) == 200) = false := by simp; omega
      have H200 := Lib.hid h200
      clear h200
      go_upto_region 10 with (go_at_call 67; (with_reducible refine (CM _ (HT.out.below hb5).op).out.mono ?_); rintro e u2 ⟨rfl, hb6⟩; have k6 := (hb6.cell (p := ⟨gp, L0.length * 4 + 3, none⟩) hgu).trans k5; have hX3 := hX2.out.below hb6; have x0 := hX3.cell 0; have x1 := hX3.cell 1; have x2 := hX3.cell 2; have xl2 := hX3.lt; simp at x0 x1 x2)
      have hgu2 : gp < u2.heap.size := block_lt_of_cell k6
      have hz6 := hb6.size
      have H6 := Lib.hid (H5.out.below (hb6.drew))
      have hO6 := Lib.hid (HO5.out.below (hb6.drew))
      have hDu : D + 1 ≤ u2.heap.size := by omega
      clear k5
      go_region_law (refine step_append_ins2 (by rfl) _ _ (by rfl) (D + 1) u2.drew _ f.code (o, 0, 0) rfl (by rfl) hO6.out (by rfl) (by omega) (by exact hDu) ?_; intro A9 c9 w2 ho hgr hloc; obtain ⟨z0, z1, z2, H7, hb8⟩ := H6.out.more ho hgr hloc; clear ho hgr hloc)
      all_goals
        have H7 := Lib.hid H7
        have hb8 := Lib.hid hb8
        go_wp2_with fail
        go_ret
        have hBD : Below D w (w2.setCell _ _) := ((hb5.mono (show D ≤ w.heap.size by omega)).trans ((hb6.drew).mono (show D ≤ u.heap.size by omega))).trans hb8.out
        first
          | exact ⟨ret_bool (by simp [H200.out]), hBD, fun _ => ⟨_, _, H7.out, by simp⟩⟩
          | exact ⟨ret_bool (by simp [H200.out]), hBD, fun _ _ => ⟨_, _, H7.out, by simp⟩⟩
set_option maxHeartbeats 4000000 in
set_option maxRecDepth 100000 in
theorem cfol_lay1 {D : Nat} {v : Value} {L0 : List (Fun × Value)} {f : Fun} {cf : Value} {A : Option Addr} {c : Nat} {a : Int} (nm : ByteArray) (w : World) (hT : TT w) (h : Dr D v (L0 ++ [(f, cf)]) w) (hL : L0.length ≤ 1000) (hfl : f.code.length ≤ 200) (hf : isF nm = true) (hn : (1 : Int) = (rz (numF nm)).f) (hA : IntsAt w A [a]) :
    Calls Tryz.prog 58 #[.pointer (some ⟨D, 0, none⟩), .string nm, .slice A 1 c] w fun e w' => e = .returned (.bool (mayZ (numF nm) a 0 && decide (f.code.length ≠ 200))) ∧ Below D w w' ∧
      (mayZ (numF nm) a 0 = true → f.code.length ≠ 200 → ∃ v' L', Dr D v' L' w' ∧ L'.map (·.1) = L0.map (·.1) ++ [⟨f.ar, f.lo, f.sl, f.code ++ [(numF nm, a, 0)]⟩]) := by
  have C := Lib.hid (find_any nm w hT.op)
  rw [hf] at C
  have CF := fun W h => Lib.hid (fields_any (numF nm) W h)
  have CM := fun W h => Lib.hid (may_any (numF nm) a 0 W h)
  have hoc : OwnC w (D + 1) cf f.code := h.own.2.1 (f, cf) (by simp)
  obtain ⟨Ac, cc, rfl, _⟩ := hoc.code
  obtain ⟨gp, capp, rfl, hg, hgl, _, _, _, k3, _⟩ := h.own.last
  obtain ⟨s, cs, rfl, hs, hcs⟩ := hA (by simp)
  have i0 : w.cell? ⟨s, 0, none⟩ = some (.int .i64 a) := (hs.cell 0).trans (hcs 0 (by simp))
  have sl := hs.lt
  clear hs hcs
  have HH := Lib.hid h
  have hDl := h.d.lt
  have HT := Lib.hid hT
  generalize numF nm = o at *
  rw [← hn] at CF
  generalize mayZ o a 0 = m at *
  clear hf hn h hoc hT hA
  go_enter Tryz.func58, Tryz.ntmps58
  go_upto_region 5 with (first
    | (go_at_call 82; (with_reducible refine C.out.mono ?_); rintro e v ⟨rfl, hb⟩)
    | (go_at_call 73; (with_reducible refine (CF _ (HT.out.below hb).op).out.mono ?_); rintro e v2 ⟨rfl, hb2⟩; have hb3 := Below.step hb hb2; have H2 := Lib.hid (HH.out.below hb3); have d0 := H2.out.d.cell 0; have dl := H2.out.d.lt; simp at d0; have i0 := (hb3.cell (p := ⟨s, 0, none⟩) sl).trans i0))
  have k3' := (hb3.cell (p := ⟨gp, L0.length * 4 + 3, none⟩) hgl).trans k3
  have cp := copy1 v2 s c a 3 i0
  go_wp2_with fail
  clear cp d0 k3
  have hb4 : Below w.heap.size w ((v2.alloc (.cells #[.int .i64 a, .int .i64 0] 110)).alloc (.cells #[.int .i64 o, .int .i64 a, .int .i64 0] 64)) := (hb3.alloc hb3.size _).alloc (by have := hb3.size; simp; omega) _
  have H4 : Dr D (.slice (some ⟨gp, 0, none⟩) (L0.length + 1) capp) (L0 ++ [(f, .slice Ac f.code.length cc)]) ((v2.alloc (.cells #[.int .i64 a, .int .i64 0] 110)).alloc (.cells #[.int .i64 o, .int .i64 a, .int .i64 0] 64)) := H2.out.below (below2 _ _ _)
  have hX : Held ((v2.alloc (.cells #[.int .i64 a, .int .i64 0] 110)).alloc (.cells #[.int .i64 o, .int .i64 a, .int .i64 0] 64)) (v2.heap.size + 1) 64 #[.int .i64 o, .int .i64 a, .int .i64 0] := Held.new1 _ _ _ _
  have k4 := ((below2 v2 (.cells #[.int .i64 a, .int .i64 0] 110) (.cells #[.int .i64 o, .int .i64 a, .int .i64 0] 64)).cell (p := ⟨gp, L0.length * 4 + 3, none⟩) (Nat.lt_of_lt_of_le hgl hb3.size)).trans k3'
  generalize (v2.alloc (.cells #[.int .i64 a, .int .i64 0] 110)).alloc (.cells #[.int .i64 o, .int .i64 a, .int .i64 0] 64) = V at *
  have q0 := H4.d.cell 0
  have ql := H4.d.lt
  simp at q0
  have H4 := Lib.hid H4
  have hX := Lib.hid hX
  have r0 := fun d os => cell_regrown q0 d os
  clear q0 k3' H2
  refine wp_region_quiet_below (by kernel_rfl) (by kernel_rfl) ?_
  (repeat (first | go_big_quiet_step (fail) | quiet_step (fail)))
  refine wpQuiet_nil ?_
  intro u hu
  have hbu := below_of_regrown hu
  clear hu r0
  have H5 := Lib.hid (H4.out.below hbu)
  have hX2 := Lib.hid (hX.out.below hbu)
  have hb5 : Below w.heap.size w u := hb4.trans (hbu.mono hb4.size)
  have k5 := (hbu.cell (p := ⟨gp, L0.length * 4 + 3, none⟩) (block_lt_of_cell k4)).trans k4
  have hgu : gp < u.heap.size := block_lt_of_cell k5
  have x0 := hX2.out.cell 0
  have x1 := hX2.out.cell 1
  have x2 := hX2.out.cell 2
  have xl := hX2.out.lt
  have hbz := hb5.size
  simp at x0 x1 x2
  clear k4
  have hown5 : OwnC u (D + 1) (.slice Ac f.code.length cc) f.code := H5.out.own.2.1 (f, .slice Ac f.code.length cc) (by simp)
  have HO5 := Lib.hid hown5
  clear hown5
  cases m
  · go_wp2_with (go_at_call 67; (with_reducible refine (CM _ (HT.out.below hb5).op).out.mono ?_); rintro e u2 ⟨rfl, hb6⟩)
    go_ret
    have hBD : Below D w u2 := (hb5.mono (by omega)).trans (hb6.mono (by omega))
    first
      | exact ⟨rfl, hBD⟩
      | exact ⟨rfl, hBD, fun h => by cases h⟩
  · by_cases h200 : f.code.length = 200
    · have hq : ((f.code.length : Int) == 200) = true := by simp; omega
      go_wp2_with (go_at_call 67; (with_reducible refine (CM _ (HT.out.below hb5).op).out.mono ?_); rintro e u2 ⟨rfl, hb6⟩; have k6 := (hb6.cell (p := ⟨gp, L0.length * 4 + 3, none⟩) hgu).trans k5)
      go_ret
      have hBD : Below D w u2 := (hb5.mono (by omega)).trans (hb6.mono (by omega))
      first
        | exact ⟨ret_bool (by simp [h200]), hBD⟩
        | exact ⟨ret_bool (by simp [h200]), hBD, fun h => absurd h200 h⟩
        | exact ⟨ret_bool (by simp [h200]), hBD, fun _ h => absurd h200 h⟩
    · have hq : ((f.code.length : Int) == 200) = false := by simp; omega
      have H200 := Lib.hid h200
      clear h200
      go_upto_region 10 with (go_at_call 67; (with_reducible refine (CM _ (HT.out.below hb5).op).out.mono ?_); rintro e u2 ⟨rfl, hb6⟩; have k6 := (hb6.cell (p := ⟨gp, L0.length * 4 + 3, none⟩) hgu).trans k5; have hX3 := hX2.out.below hb6; have x0 := hX3.cell 0; have x1 := hX3.cell 1; have x2 := hX3.cell 2; have xl2 := hX3.lt; simp at x0 x1 x2)
      have hgu2 : gp < u2.heap.size := block_lt_of_cell k6
      have hz6 := hb6.size
      have H6 := Lib.hid (H5.out.below (hb6.drew))
      have hO6 := Lib.hid (HO5.out.below (hb6.drew))
      have hDu : D + 1 ≤ u2.heap.size := by omega
      clear k5
      go_region_law (refine step_append_ins2 (by rfl) _ _ (by rfl) (D + 1) u2.drew _ f.code (o, a, 0) rfl (by rfl) hO6.out (by rfl) (by omega) (by exact hDu) ?_; intro A9 c9 w2 ho hgr hloc; obtain ⟨z0, z1, z2, H7, hb8⟩ := H6.out.more ho hgr hloc; clear ho hgr hloc)
      all_goals
        have H7 := Lib.hid H7
        have hb8 := Lib.hid hb8
        go_wp2_with fail
        go_ret
        have hBD : Below D w (w2.setCell _ _) := ((hb5.mono (show D ≤ w.heap.size by omega)).trans ((hb6.drew).mono (show D ≤ u.heap.size by omega))).trans hb8.out
        first
          | exact ⟨ret_bool (by simp [H200.out]), hBD, fun _ => ⟨_, _, H7.out, by simp⟩⟩
          | exact ⟨ret_bool (by simp [H200.out]), hBD, fun _ _ => ⟨_, _, H7.out, by simp⟩⟩
set_option maxHeartbeats 4000000 in
set_option maxRecDepth 100000 in
theorem cfol_lay2 {D : Nat} {v : Value} {L0 : List (Fun × Value)} {f : Fun} {cf : Value} {A : Option Addr} {c : Nat} {a b : Int} (nm : ByteArray) (w : World) (hT : TT w) (h : Dr D v (L0 ++ [(f, cf)]) w) (hL : L0.length ≤ 1000) (hfl : f.code.length ≤ 200) (hf : isF nm = true) (hn : (2 : Int) = (rz (numF nm)).f) (hA : IntsAt w A [a, b]) :
    Calls Tryz.prog 58 #[.pointer (some ⟨D, 0, none⟩), .string nm, .slice A 2 c] w fun e w' => e = .returned (.bool (mayZ (numF nm) a b && decide (f.code.length ≠ 200))) ∧ Below D w w' ∧
      (mayZ (numF nm) a b = true → f.code.length ≠ 200 → ∃ v' L', Dr D v' L' w' ∧ L'.map (·.1) = L0.map (·.1) ++ [⟨f.ar, f.lo, f.sl, f.code ++ [(numF nm, a, b)]⟩]) := by
  have C := Lib.hid (find_any nm w hT.op)
  rw [hf] at C
  have CF := fun W h => Lib.hid (fields_any (numF nm) W h)
  have CM := fun W h => Lib.hid (may_any (numF nm) a b W h)
  have hoc : OwnC w (D + 1) cf f.code := h.own.2.1 (f, cf) (by simp)
  obtain ⟨Ac, cc, rfl, _⟩ := hoc.code
  obtain ⟨gp, capp, rfl, hg, hgl, _, _, _, k3, _⟩ := h.own.last
  obtain ⟨s, cs, rfl, hs, hcs⟩ := hA (by simp)
  have i0 : w.cell? ⟨s, 0, none⟩ = some (.int .i64 a) := (hs.cell 0).trans (hcs 0 (by simp))
  have i1 : w.cell? ⟨s, 1, none⟩ = some (.int .i64 b) := (hs.cell 1).trans (hcs 1 (by simp))
  have sl := hs.lt
  clear hs hcs
  have HH := Lib.hid h
  have hDl := h.d.lt
  have HT := Lib.hid hT
  generalize numF nm = o at *
  rw [← hn] at CF
  generalize mayZ o a b = m at *
  clear hf hn h hoc hT hA
  go_enter Tryz.func58, Tryz.ntmps58
  go_upto_region 5 with (first
    | (go_at_call 82; (with_reducible refine C.out.mono ?_); rintro e v ⟨rfl, hb⟩)
    | (go_at_call 73; (with_reducible refine (CF _ (HT.out.below hb).op).out.mono ?_); rintro e v2 ⟨rfl, hb2⟩; have hb3 := Below.step hb hb2; have H2 := Lib.hid (HH.out.below hb3); have d0 := H2.out.d.cell 0; have dl := H2.out.d.lt; simp at d0; have i0 := (hb3.cell (p := ⟨s, 0, none⟩) sl).trans i0; have i1 := (hb3.cell (p := ⟨s, 1, none⟩) sl).trans i1))
  have k3' := (hb3.cell (p := ⟨gp, L0.length * 4 + 3, none⟩) hgl).trans k3
  have cp := copy2 v2 s c a b 3 i0 i1
  go_wp2_with fail
  clear cp d0 k3
  have hb4 : Below w.heap.size w ((v2.alloc (.cells #[.int .i64 a, .int .i64 b] 110)).alloc (.cells #[.int .i64 o, .int .i64 a, .int .i64 b] 64)) := (hb3.alloc hb3.size _).alloc (by have := hb3.size; simp; omega) _
  have H4 : Dr D (.slice (some ⟨gp, 0, none⟩) (L0.length + 1) capp) (L0 ++ [(f, .slice Ac f.code.length cc)]) ((v2.alloc (.cells #[.int .i64 a, .int .i64 b] 110)).alloc (.cells #[.int .i64 o, .int .i64 a, .int .i64 b] 64)) := H2.out.below (below2 _ _ _)
  have hX : Held ((v2.alloc (.cells #[.int .i64 a, .int .i64 b] 110)).alloc (.cells #[.int .i64 o, .int .i64 a, .int .i64 b] 64)) (v2.heap.size + 1) 64 #[.int .i64 o, .int .i64 a, .int .i64 b] := Held.new1 _ _ _ _
  have k4 := ((below2 v2 (.cells #[.int .i64 a, .int .i64 b] 110) (.cells #[.int .i64 o, .int .i64 a, .int .i64 b] 64)).cell (p := ⟨gp, L0.length * 4 + 3, none⟩) (Nat.lt_of_lt_of_le hgl hb3.size)).trans k3'
  generalize (v2.alloc (.cells #[.int .i64 a, .int .i64 b] 110)).alloc (.cells #[.int .i64 o, .int .i64 a, .int .i64 b] 64) = V at *
  have q0 := H4.d.cell 0
  have ql := H4.d.lt
  simp at q0
  have H4 := Lib.hid H4
  have hX := Lib.hid hX
  have r0 := fun d os => cell_regrown q0 d os
  clear q0 k3' H2
  refine wp_region_quiet_below (by kernel_rfl) (by kernel_rfl) ?_
  (repeat (first | go_big_quiet_step (fail) | quiet_step (fail)))
  refine wpQuiet_nil ?_
  intro u hu
  have hbu := below_of_regrown hu
  clear hu r0
  have H5 := Lib.hid (H4.out.below hbu)
  have hX2 := Lib.hid (hX.out.below hbu)
  have hb5 : Below w.heap.size w u := hb4.trans (hbu.mono hb4.size)
  have k5 := (hbu.cell (p := ⟨gp, L0.length * 4 + 3, none⟩) (block_lt_of_cell k4)).trans k4
  have hgu : gp < u.heap.size := block_lt_of_cell k5
  have x0 := hX2.out.cell 0
  have x1 := hX2.out.cell 1
  have x2 := hX2.out.cell 2
  have xl := hX2.out.lt
  have hbz := hb5.size
  simp at x0 x1 x2
  clear k4
  have hown5 : OwnC u (D + 1) (.slice Ac f.code.length cc) f.code := H5.out.own.2.1 (f, .slice Ac f.code.length cc) (by simp)
  have HO5 := Lib.hid hown5
  clear hown5
  cases m
  · go_wp2_with (go_at_call 67; (with_reducible refine (CM _ (HT.out.below hb5).op).out.mono ?_); rintro e u2 ⟨rfl, hb6⟩)
    go_ret
    have hBD : Below D w u2 := (hb5.mono (by omega)).trans (hb6.mono (by omega))
    first
      | exact ⟨rfl, hBD⟩
      | exact ⟨rfl, hBD, fun h => by cases h⟩
  · by_cases h200 : f.code.length = 200
    · have hq : ((f.code.length : Int) == 200) = true := by simp; omega
      go_wp2_with (go_at_call 67; (with_reducible refine (CM _ (HT.out.below hb5).op).out.mono ?_); rintro e u2 ⟨rfl, hb6⟩; have k6 := (hb6.cell (p := ⟨gp, L0.length * 4 + 3, none⟩) hgu).trans k5)
      go_ret
      have hBD : Below D w u2 := (hb5.mono (by omega)).trans (hb6.mono (by omega))
      first
        | exact ⟨ret_bool (by simp [h200]), hBD⟩
        | exact ⟨ret_bool (by simp [h200]), hBD, fun h => absurd h200 h⟩
        | exact ⟨ret_bool (by simp [h200]), hBD, fun _ h => absurd h200 h⟩
    · have hq : ((f.code.length : Int) == 200) = false := by simp; omega
      have H200 := Lib.hid h200
      clear h200
      go_upto_region 10 with (go_at_call 67; (with_reducible refine (CM _ (HT.out.below hb5).op).out.mono ?_); rintro e u2 ⟨rfl, hb6⟩; have k6 := (hb6.cell (p := ⟨gp, L0.length * 4 + 3, none⟩) hgu).trans k5; have hX3 := hX2.out.below hb6; have x0 := hX3.cell 0; have x1 := hX3.cell 1; have x2 := hX3.cell 2; have xl2 := hX3.lt; simp at x0 x1 x2)
      have hgu2 : gp < u2.heap.size := block_lt_of_cell k6
      have hz6 := hb6.size
      have H6 := Lib.hid (H5.out.below (hb6.drew))
      have hO6 := Lib.hid (HO5.out.below (hb6.drew))
      have hDu : D + 1 ≤ u2.heap.size := by omega
      clear k5
      go_region_law (refine step_append_ins2 (by rfl) _ _ (by rfl) (D + 1) u2.drew _ f.code (o, a, b) rfl (by rfl) hO6.out (by rfl) (by omega) (by exact hDu) ?_; intro A9 c9 w2 ho hgr hloc; obtain ⟨z0, z1, z2, H7, hb8⟩ := H6.out.more ho hgr hloc; clear ho hgr hloc)
      all_goals
        have H7 := Lib.hid H7
        have hb8 := Lib.hid hb8
        go_wp2_with fail
        go_ret
        have hBD : Below D w (w2.setCell _ _) := ((hb5.mono (show D ≤ w.heap.size by omega)).trans ((hb6.drew).mono (show D ≤ u.heap.size by omega))).trans hb8.out
        first
          | exact ⟨ret_bool (by simp [H200.out]), hBD, fun _ => ⟨_, _, H7.out, by simp⟩⟩
          | exact ⟨ret_bool (by simp [H200.out]), hBD, fun _ _ => ⟨_, _, H7.out, by simp⟩⟩
end Go.Proofs.YtcfdbciooimjmaaGreatDoor

