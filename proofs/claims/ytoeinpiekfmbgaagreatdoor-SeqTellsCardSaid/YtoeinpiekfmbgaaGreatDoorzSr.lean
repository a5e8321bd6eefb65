/- Layer 4: the document's remainders and parts, and whether a value may be. -/
import Derived.Test.YtoeinpiekfmbgaaGreatDoorzHc
import Derived.Test.YtoeinpiekfmbgaaGreatDoorzHa
import Derived.IntWalk
namespace Go.Proofs.YtoeinpiekfmbgaaGreatDoor
set_option linter.unusedVariables false
set_option linter.unusedSimpArgs false
open Go.RowKit Go.ChangeShapes Go.WideShapes Go.ChangeAt Gm Go.Sort

set_option maxHeartbeats 400000 in
theorem rrest_any (n : Int) (w : World) : Calls Tryz.prog 77 #[.int .i64 n] w fun e w' => e = .returned (.int .i64 (rs n)) ∧ w = w' := by
  have hbd := tmod_bd n
  by_cases h : Int.tmod n 251 < 0
  · have H1 := Lib.hid (tmod_neg n h)
    go_enter Tryz.func77, Tryz.ntmps77
    go_wp2_with fail
    go_ret
    exact ⟨ret_int H1.out, rfl⟩
  · have h' : 0 ≤ Int.tmod n 251 := by omega
    have H1 := Lib.hid (tmod_pos n h')
    go_enter Tryz.func77, Tryz.ntmps77
    go_wp2_with fail
    go_ret
    exact ⟨ret_int H1.out, rfl⟩

theorem rof_any (a b : Int) (w : World) : Calls Tryz.prog 58 #[.int .i64 a, .int .i64 b] w fun e w' => e = .returned (.agg #[.int .i64 (rs a), .int .i64 (rs b)]) ∧ Below w.heap.size w w' := by
  have C := fun n W => Lib.hid (rrest_any n W)
  go_enter Tryz.func58, Tryz.ntmps58
  go_wp2_with (go_at_call 77; refine (C _ _).out.mono ?_; rintro e v ⟨rfl, rfl⟩)
  exact bodyPost_ret (v := .agg #[.int .i64 (rs a), .int .i64 (rs b)]) (by simp [results, Tryz.results58, go_sem]) rfl ⟨rfl, (Below.refl _ _).alloc (Nat.le_refl _) _⟩

set_option maxHeartbeats 1000000 in
theorem rgmay_any (a b : Int) (w : World) : Calls Tryz.prog 28 #[.agg #[.int .i64 a, .int .i64 b]] w fun e w' => e = .returned (.bool (mayB a b)) ∧ Below w.heap.size w w' := by
  have hb : Below w.heap.size w (w.alloc (.cells #[.int .i64 a, .int .i64 b] 30)) := (Below.refl _ _).alloc (Nat.le_refl _) _
  have hm : mayB a b = (decide (0 ≤ a) && decide (a < 251) && (decide (0 ≤ b) && decide (b < 251))) := rfl
  have HM := Lib.hid hm
  clear hm
  go_enter Tryz.func28, Tryz.ntmps28
  go_wp2_with fail
  all_goals
    go_ret
    rw [HM.out]
    refine ⟨ret_bool ?_, hb⟩
    rw [Bool.eq_iff_iff]
    simp
    omega

end Go.Proofs.YtoeinpiekfmbgaaGreatDoor

/- Layer 5: the document's own answers: seeds, at every input. -/
namespace Go.Proofs.YtoeinpiekfmbgaaGreatDoor
set_option linter.unusedVariables false
set_option linter.unusedSimpArgs false
open Go.RowKit Go.ChangeShapes Go.WideShapes Go.ChangeAt Gm Sdm

set_option maxHeartbeats 1000000 in
theorem is_any (n : Int) (w : World) : Calls Tryz.prog 27 #[.int .i64 n] w fun e w' => e = .returned (.bool (isZ n)) ∧ w = w' := by
  have hm : isZ n = (decide (0 ≤ n) && decide (n ≤ 4294967295)) := rfl
  have HM := Lib.hid hm
  clear hm
  go_enter Tryz.func27, Tryz.ntmps27
  go_wp2_with fail
  all_goals
    go_ret
    rw [HM.out]
    refine ⟨ret_bool ?_, rfl⟩
    rw [Bool.eq_iff_iff]
    simp
    omega
theorem cs_is {n : Int} {b : Bool} (h : isZ n = b) : Cs Tryz.prog 27 #[.int .i64 n] (.bool b) := fun W => by have := is_any n W; rwa [h] at this

theorem times1 (a : Nat) (h : a < 4294967296) : Cs Tryz.prog 109 #[.int .i64 a, .int .i64 2654435761] (.int .i64 (mulF a 2654435761 : Nat)) := fun w => by
  have h' : (a : Int) ≤ 4294967295 := by omega
  have e : ((a : Int) * 31153 + (a : Int) * 40503 % 4294967296 * 65536) % 4294967296 = (mulF a 2654435761 : Nat) := by unfold mulF; omega
  have HE := Lib.hid e
  clear e
  go_enter Tryz.func109, Tryz.ntmps109
  go_wp2_with fail
  go_ret
  exact ⟨ret_int HE.out, rfl⟩
theorem times2 (a : Nat) (h : a < 4294967296) : Cs Tryz.prog 109 #[.int .i64 a, .int .i64 2246822507] (.int .i64 (mulF a 2246822507 : Nat)) := fun w => by
  have h' : (a : Int) ≤ 4294967295 := by omega
  have e : ((a : Int) * 51819 + (a : Int) * 34283 % 4294967296 * 65536) % 4294967296 = (mulF a 2246822507 : Nat) := by unfold mulF; omega
  have HE := Lib.hid e
  clear e
  go_enter Tryz.func109, Tryz.ntmps109
  go_wp2_with fail
  go_ret
  exact ⟨ret_int HE.out, rfl⟩

set_option maxHeartbeats 1000000 in
set_option maxRecDepth 100000 in
theorem rmix_in (s n : Nat) (w : World) (hs : s < 4294967296) (hn : n < 4294967296) : Calls Tryz.prog 100 #[.int .i64 s, .int .i64 n] w fun e w' => e = .returned (.int .i64 (mixN s n : Nat)) ∧ w = w' := by
  have C1 := cs_is (isZ_nat hs)
  have C2 := cs_is (isZ_nat hn)
  have T1 := times1 ((n + 1) % 4294967296) (Nat.mod_lt _ (by decide))
  rw [show (((n + 1) % 4294967296 : Nat) : Int) = ((n : Int) + 1) % 4294967296 by omega] at T1
  have k0 : bits .xor .i64 (s : Int) (mulF ((n + 1) % 4294967296) 2654435761 : Nat) = (start s n : Nat) := i64_xor_nat _ _ hs (mulF_lt _ _)
  have hx0 : start s n < 4294967296 := Nat.xor_lt_two_pow (n := 32) hs (mulF_lt _ _)
  have T2 := times2 (shF (start s n) 15) (shF_lt hx0)
  have k1 := i64_sh (start s n) 15 hx0
  have hx1 : rnd (start s n) < 4294967296 := mulF_lt _ _
  have T3 := times2 (shF (rnd (start s n)) 15) (shF_lt hx1)
  have k2 := i64_sh (rnd (start s n)) 15 hx1
  have hx2 : rnd (rnd (start s n)) < 4294967296 := mulF_lt _ _
  have k3 := i64_sh (rnd (rnd (start s n))) 13 hx2
  have k4 : mixN s n = shF (rnd (rnd (start s n))) 13 := rfl
  have e1 : mulF (shF (start s n) 15) 2246822507 = rnd (start s n) := rfl
  have e2 : mulF (shF (rnd (start s n)) 15) 2246822507 = rnd (rnd (start s n)) := rfl
  rw [e1] at T2
  rw [e2] at T3
  rw [k4]
  clear k4 e1 e2
  generalize shF (rnd (rnd (start s n))) 13 = y3 at *
  generalize rnd (rnd (start s n)) = y2 at *
  generalize shF (rnd (start s n)) 15 = z1 at *
  generalize rnd (start s n) = y1 at *
  generalize shF (start s n) 15 = z0 at *
  generalize start s n = y0 at *
  generalize mulF _ _ = m at *
  rw [show (2 : Int) ^ 15 = 32768 from rfl] at k1 k2
  rw [show (2 : Int) ^ 13 = 8192 from rfl] at k3
  go_enter Tryz.func100, Tryz.ntmps100
  go_wp2_with (first
    | (go_at_call 27; (with_reducible refine (C1.go _).mono ?_); rintro e v ⟨rfl, rfl⟩)
    | (go_at_call 27; (with_reducible refine (C2.go _).mono ?_); rintro e v ⟨rfl, rfl⟩)
    | (go_at_call 109; (with_reducible refine (T1.go _).mono ?_); rintro e v ⟨rfl, rfl⟩)
    | (go_at_call 109; (with_reducible refine (T2.go _).mono ?_); rintro e v ⟨rfl, rfl⟩)
    | (go_at_call 109; (with_reducible refine (T3.go _).mono ?_); rintro e v ⟨rfl, rfl⟩))
  go_ret
  exact ⟨rfl, rfl⟩
theorem rmix_out (s n : Int) (w : World) (h : (isZ s && isZ n) = false) : Calls Tryz.prog 100 #[.int .i64 s, .int .i64 n] w fun e w' => e = .returned (.int .i64 0) ∧ w = w' := by
  by_cases hs : isZ s = true
  · have hn : isZ n = false := by simpa [hs] using h
    have C1 := cs_is hs
    have C2 := cs_is hn
    clear h hs hn
    go_enter Tryz.func100, Tryz.ntmps100
    go_wp2_with (first
      | (go_at_call 27; (with_reducible refine (C1.go _).mono ?_); rintro e v ⟨rfl, rfl⟩)
      | (go_at_call 27; (with_reducible refine (C2.go _).mono ?_); rintro e v ⟨rfl, rfl⟩))
    go_ret
    exact ⟨rfl, rfl⟩
  · have hs : isZ s = false := by simpa using hs
    have C1 := cs_is hs
    clear h hs
    go_enter Tryz.func100, Tryz.ntmps100
    go_wp2_with (go_at_call 27; (with_reducible refine (C1.go _).mono ?_); rintro e v ⟨rfl, rfl⟩)
    go_ret
    exact ⟨rfl, rfl⟩
theorem rmix_any (s n : Int) : Cs Tryz.prog 100 #[.int .i64 s, .int .i64 n] (.int .i64 (mixZ s n)) := fun w => by
  by_cases h : isZ s = true ∧ isZ n = true
  · obtain ⟨s, rfl, hs⟩ := isZ_of h.1
    obtain ⟨n, rfl, hn⟩ := isZ_of h.2
    have := rmix_in s n w hs hn
    rwa [show ((mixN s n : Nat) : Int) = mixZ s n by rw [mixZ, if_pos h]; rfl] at this
  · have := rmix_out s n w (by rw [Bool.eq_false_iff]; simpa using h)
    rwa [show (0 : Int) = mixZ s n by rw [mixZ, if_neg h]] at this
theorem use_out {s u k : Int} (h : (isZ s && isZ k) = false) : useZ s u k = 0 := by
  unfold useZ mixZ
  split
  · rename_i hs
    have : isZ k = false := by simpa [hs] using h
    simp [this]
  · rfl
theorem rchild_any (s k : Int) : Cs Tryz.prog 76 #[.int .i64 s, .int .i64 k] (.int .i64 (useZ s 1 k)) := fun w => by
  by_cases hs : isZ s = true
  · have C1 := cs_is hs
    by_cases hk : isZ k = true
    · have C2 := cs_is hk
      have C3 := rmix_any s 1
      have C4 := rmix_any (mixZ s 1) k
      rw [useZ, if_pos hs]
      generalize mixZ (mixZ s 1) k = y at *
      generalize mixZ s 1 = x at *
      clear hs hk
      go_enter Tryz.func76, Tryz.ntmps76
      go_wp2_with (first
        | (go_at_call 27; (with_reducible refine (C1.go _).mono ?_); rintro e v ⟨rfl, rfl⟩)
        | (go_at_call 27; (with_reducible refine (C2.go _).mono ?_); rintro e v ⟨rfl, rfl⟩)
        | (go_at_call 100; (with_reducible refine (C3.go _).mono ?_); rintro e v ⟨rfl, rfl⟩)
        | (go_at_call 100; (with_reducible refine (C4.go _).mono ?_); rintro e v ⟨rfl, rfl⟩))
      go_ret
      exact ⟨rfl, rfl⟩
    · have hk : isZ k = false := by simpa using hk
      have C2 := cs_is hk
      rw [use_out (by simp [hs, hk])]
      clear hs hk
      go_enter Tryz.func76, Tryz.ntmps76
      go_wp2_with (first
        | (go_at_call 27; (with_reducible refine (C1.go _).mono ?_); rintro e v ⟨rfl, rfl⟩)
        | (go_at_call 27; (with_reducible refine (C2.go _).mono ?_); rintro e v ⟨rfl, rfl⟩))
      go_ret
      exact ⟨rfl, rfl⟩
  · have hs : isZ s = false := by simpa using hs
    have C1 := cs_is hs
    rw [use_out (by simp [hs])]
    clear hs
    go_enter Tryz.func76, Tryz.ntmps76
    go_wp2_with (go_at_call 27; (with_reducible refine (C1.go _).mono ?_); rintro e v ⟨rfl, rfl⟩)
    go_ret
    exact ⟨rfl, rfl⟩
theorem draw_out {s k : Int} (h : (isZ s && isZ k) = false) : drawZ s k = (0, 0) := by
  unfold drawZ
  rw [use_out h]
  decide
theorem rdraw_any (s k : Int) : Ct Tryz.prog 83 #[.int .i64 s, .int .i64 k] (gv (drawZ s k).1 (drawZ s k).2) := fun w => by
  by_cases hs : isZ s = true
  · have C1 := cs_is hs
    by_cases hk : isZ k = true
    · have C2 := cs_is hk
      have C3 := rmix_any s 2
      have C4 := rmix_any (mixZ s 2) k
      have C5 : Ct Tryz.prog 58 #[.int .i64 (mixZ (mixZ s 2) k), .int .i64 (mixZ (mixZ s 2) k / 65536)] (gv (drawZ s k).1 (drawZ s k).2) := fun W => by
        have := rof_any (mixZ (mixZ s 2) k) (mixZ (mixZ s 2) k / 65536) W
        unfold drawZ useZ
        rw [if_pos hs]
        exact this
      obtain ⟨h0, h1⟩ := mixZ_bd (mixZ s 2) k
      generalize drawZ s k = q at *
      obtain ⟨a, b⟩ := q
      generalize mixZ (mixZ s 2) k = y at *
      generalize mixZ s 2 = x at *
      clear hs hk
      go_enter Tryz.func83, Tryz.ntmps83
      go_wp2_with (first
        | (go_at_call 27; (with_reducible refine (C1.go _).mono ?_); rintro e v ⟨rfl, rfl⟩)
        | (go_at_call 27; (with_reducible refine (C2.go _).mono ?_); rintro e v ⟨rfl, rfl⟩)
        | (go_at_call 100; (with_reducible refine (C3.go _).mono ?_); rintro e v ⟨rfl, rfl⟩)
        | (go_at_call 100; (with_reducible refine (C4.go _).mono ?_); rintro e v ⟨rfl, rfl⟩)
        | (go_at_call 58; (with_reducible refine (C5.go _).mono ?_); rintro e v ⟨rfl, hb⟩; have hx := (Held.new w _ _).below hb; have hw := below_laid hb; clear hb; obtain ⟨c0, c1, f0, f1⟩ := hx.two))
      replace hx := hx.set (.int .i64 a) (.int .i64 b)
      replace hw := set2b (k := w.heap.size) (x := .int .i64 a) (y := .int .i64 b) (by omega) hw
      generalize (v.setCell _ _).setCell _ _ = W2 at hx hw ⊢
      obtain ⟨d0, d1, _, _⟩ := hx.two
      exact bodyPost_ret (v := gv a b) (by simp [results, Tryz.results83, go_sem, d0, d1]) rfl ⟨rfl, hw⟩
    · have hk : isZ k = false := by simpa using hk
      have C2 := cs_is hk
      rw [draw_out (by simp [hs, hk])]
      clear hs hk
      go_enter Tryz.func83, Tryz.ntmps83
      go_wp2_with (first
        | (go_at_call 27; (with_reducible refine (C1.go _).mono ?_); rintro e v ⟨rfl, rfl⟩)
        | (go_at_call 27; (with_reducible refine (C2.go _).mono ?_); rintro e v ⟨rfl, rfl⟩))
      (have hx := Held.new w 30 #[.int .i64 0, .int .i64 0]; obtain ⟨d0, d1, _, _⟩ := hx.two; exact bodyPost_ret (v := gv 0 0) (by simp [results, Tryz.results83, go_sem, d0, d1]) rfl ⟨rfl, (Below.refl _ _).alloc (Nat.le_refl _) _⟩)
  · have hs : isZ s = false := by simpa using hs
    have C1 := cs_is hs
    rw [draw_out (by simp [hs])]
    clear hs
    go_enter Tryz.func83, Tryz.ntmps83
    go_wp2_with (go_at_call 27; (with_reducible refine (C1.go _).mono ?_); rintro e v ⟨rfl, rfl⟩)
    (have hx := Held.new w 30 #[.int .i64 0, .int .i64 0]; obtain ⟨d0, d1, _, _⟩ := hx.two; exact bodyPost_ret (v := gv 0 0) (by simp [results, Tryz.results83, go_sem, d0, d1]) rfl ⟨rfl, (Below.refl _ _).alloc (Nat.le_refl _) _⟩)
end Go.Proofs.YtoeinpiekfmbgaaGreatDoor

/- Layer 4: the document's own answers: remainders, parts, sums, differences, conjugates. -/
namespace Go.Proofs.YtoeinpiekfmbgaaGreatDoor
set_option linter.unusedVariables false
set_option linter.unusedSimpArgs false
open Go.RowKit Go.ChangeShapes Go.WideShapes Go.ChangeAt Gm Fl Go.Sort

set_option maxHeartbeats 1000000 in
set_option maxRecDepth 100000 in
theorem radd_any (a b c d : Int) (w : World) : Calls Tryz.prog 81 #[.agg #[.int .i64 a, .int .i64 b], .agg #[.int .i64 c, .int .i64 d]] w fun e w' =>
    e = .returned (.agg #[.int .i64 (gAdd (a, b) (c, d)).1, .int .i64 (gAdd (a, b) (c, d)).2]) ∧ Below w.heap.size w w' := by
  have C := fun n W => Lib.hid (rrest_any n W)
  have C2 := fun n m W => Lib.hid (rof_any n m W)
  have ra := rs_bd a
  have rb := rs_bd b
  have rc := rs_bd c
  have rd := rs_bd d
  have y1 : IntKind.i64.wrap (rs a + rs c) = rs a + rs c := IntWalk.i64_in _ (by omega)
  have y2 : IntKind.i64.wrap (rs b + rs d) = rs b + rs d := IntWalk.i64_in _ (by omega)
  clear ra rb rc rd
  go_enter Tryz.func81, Tryz.ntmps81
  go_wp2_with fail
  have hx := ((Held.new w 30 #[.int .i64 a, .int .i64 b]).alloc (.cells #[.int .i64 c, .int .i64 d] 30)).alloc (.cells #[.int .i64 0, .int .i64 0] 30)
  have h1 := (Held.new1 w (.cells #[.int .i64 a, .int .i64 b] 30) 30 #[.int .i64 c, .int .i64 d]).alloc (.cells #[.int .i64 0, .int .i64 0] 30)
  have h2 := Held.new2 w (.cells #[.int .i64 a, .int .i64 b] 30) (.cells #[.int .i64 c, .int .i64 d] 30) 30 #[.int .i64 0, .int .i64 0]
  have hw := below3 w (.cells #[.int .i64 a, .int .i64 b] 30) (.cells #[.int .i64 c, .int .i64 d] 30) (.cells #[.int .i64 0, .int .i64 0] 30)
  generalize ((w.alloc _).alloc _).alloc _ = W0 at hx h1 h2 hw ⊢
  obtain ⟨c0, c1, _, _⟩ := hx.two
  obtain ⟨c2, c3, _, _⟩ := h1.two
  have g0 := fun d os => cell_regrown c0 d os
  have g1 := fun d os => cell_regrown c1 d os
  have g2 := fun d os => cell_regrown c2 d os
  have g3 := fun d os => cell_regrown c3 d os
  clear c0 c1 c2 c3
  refine wp_region_below_tail 15 (by kernel_rfl) (by kernel_rfl) ?_
  simp only [List.take_succ_cons, List.take_zero, List.drop_succ_cons, List.drop_zero]
  repeat (first
    | go_big_quiet_step ((first
      | (go_at_call 77; (with_reducible exact Calls.regrown_same (C _ _).out))
      | (go_at_call 58; (with_reducible exact Calls.regrown_of (C2 _ _ _).out))))
    | quiet_step ((first
      | (go_at_call 77; (with_reducible exact Calls.regrown_same (C _ _).out))
      | (go_at_call 58; (with_reducible exact Calls.regrown_of (C2 _ _ _).out)))))
  refine wpQuiet_nil ?_
  intro v hv
  have hb := below_of_regrown hv
  clear hv g0 g1 g2 g3
  replace h2 := h2.below hb
  replace hw := Below.step hw hb
  obtain ⟨c4, c5, f0, f1⟩ := h2.two
  go_wp2_with fail
  replace hw := set2b (k := w.heap.size + 1 + 1) (x := .int .i64 (rs (rs a + rs c))) (y := .int .i64 (rs (rs b + rs d))) (by omega) hw
  replace h2 := h2.set (.int .i64 (rs (rs a + rs c))) (.int .i64 (rs (rs b + rs d)))
  generalize (v.setCell _ _).setCell _ _ = W2 at h2 hw ⊢
  obtain ⟨d0, d1, _, _⟩ := h2.two
  exact bodyPost_ret (v := .agg #[.int .i64 (rs (rs a + rs c)), .int .i64 (rs (rs b + rs d))]) (by simp [results, Tryz.results81, go_sem, d0, d1]) rfl ⟨rfl, hw⟩

set_option maxHeartbeats 1000000 in
set_option maxRecDepth 100000 in
theorem rsub_any (a b c d : Int) (w : World) : Calls Tryz.prog 82 #[.agg #[.int .i64 a, .int .i64 b], .agg #[.int .i64 c, .int .i64 d]] w fun e w' =>
    e = .returned (.agg #[.int .i64 (gSub (a, b) (c, d)).1, .int .i64 (gSub (a, b) (c, d)).2]) ∧ Below w.heap.size w w' := by
  have C := fun n W => Lib.hid (rrest_any n W)
  have C2 := fun n m W => Lib.hid (rof_any n m W)
  have ra := rs_bd a
  have rb := rs_bd b
  have rc := rs_bd c
  have rd := rs_bd d
  have y1 : IntKind.i64.wrap (rs a - rs c) = rs a - rs c := IntWalk.i64_in _ (by omega)
  have y2 : IntKind.i64.wrap (rs b - rs d) = rs b - rs d := IntWalk.i64_in _ (by omega)
  clear ra rb rc rd
  go_enter Tryz.func82, Tryz.ntmps82
  go_wp2_with fail
  have hx := ((Held.new w 30 #[.int .i64 a, .int .i64 b]).alloc (.cells #[.int .i64 c, .int .i64 d] 30)).alloc (.cells #[.int .i64 0, .int .i64 0] 30)
  have h1 := (Held.new1 w (.cells #[.int .i64 a, .int .i64 b] 30) 30 #[.int .i64 c, .int .i64 d]).alloc (.cells #[.int .i64 0, .int .i64 0] 30)
  have h2 := Held.new2 w (.cells #[.int .i64 a, .int .i64 b] 30) (.cells #[.int .i64 c, .int .i64 d] 30) 30 #[.int .i64 0, .int .i64 0]
  have hw := below3 w (.cells #[.int .i64 a, .int .i64 b] 30) (.cells #[.int .i64 c, .int .i64 d] 30) (.cells #[.int .i64 0, .int .i64 0] 30)
  generalize ((w.alloc _).alloc _).alloc _ = W0 at hx h1 h2 hw ⊢
  obtain ⟨c0, c1, _, _⟩ := hx.two
  obtain ⟨c2, c3, _, _⟩ := h1.two
  have g0 := fun d os => cell_regrown c0 d os
  have g1 := fun d os => cell_regrown c1 d os
  have g2 := fun d os => cell_regrown c2 d os
  have g3 := fun d os => cell_regrown c3 d os
  clear c0 c1 c2 c3
  refine wp_region_below_tail 15 (by kernel_rfl) (by kernel_rfl) ?_
  simp only [List.take_succ_cons, List.take_zero, List.drop_succ_cons, List.drop_zero]
  repeat (first
    | go_big_quiet_step ((first
      | (go_at_call 77; (with_reducible exact Calls.regrown_same (C _ _).out))
      | (go_at_call 58; (with_reducible exact Calls.regrown_of (C2 _ _ _).out))))
    | quiet_step ((first
      | (go_at_call 77; (with_reducible exact Calls.regrown_same (C _ _).out))
      | (go_at_call 58; (with_reducible exact Calls.regrown_of (C2 _ _ _).out)))))
  refine wpQuiet_nil ?_
  intro v hv
  have hb := below_of_regrown hv
  clear hv g0 g1 g2 g3
  replace h2 := h2.below hb
  replace hw := Below.step hw hb
  obtain ⟨c4, c5, f0, f1⟩ := h2.two
  go_wp2_with fail
  replace hw := set2b (k := w.heap.size + 1 + 1) (x := .int .i64 (rs (rs a - rs c))) (y := .int .i64 (rs (rs b - rs d))) (by omega) hw
  replace h2 := h2.set (.int .i64 (rs (rs a - rs c))) (.int .i64 (rs (rs b - rs d)))
  generalize (v.setCell _ _).setCell _ _ = W2 at h2 hw ⊢
  obtain ⟨d0, d1, _, _⟩ := h2.two
  exact bodyPost_ret (v := .agg #[.int .i64 (rs (rs a - rs c)), .int .i64 (rs (rs b - rs d))]) (by simp [results, Tryz.results82, go_sem, d0, d1]) rfl ⟨rfl, hw⟩

set_option maxHeartbeats 1000000 in
set_option maxRecDepth 100000 in
theorem rconj_any (a b : Int) (w : World) : Calls Tryz.prog 79 #[.agg #[.int .i64 a, .int .i64 b]] w fun e w' =>
    e = .returned (.agg #[.int .i64 (gConj (a, b)).1, .int .i64 (gConj (a, b)).2]) ∧ Below w.heap.size w w' := by
  have C := fun n W => Lib.hid (rrest_any n W)
  have C2 := fun n m W => Lib.hid (rof_any n m W)
  have rb := rs_bd b
  have y1 : IntKind.i64.wrap (-(rs b)) = -(rs b) := IntWalk.i64_in _ (by omega)
  have y2 : IntKind.i64.wrap (0 - rs b) = -(rs b) := (IntWalk.i64_in _ (by omega)).trans (by omega)
  clear rb
  go_enter Tryz.func79, Tryz.ntmps79
  go_wp2_with fail
  have hx := (Held.new w 30 #[.int .i64 a, .int .i64 b]).alloc (.cells #[.int .i64 0, .int .i64 0] 30)
  have h1 := Held.new1 w (.cells #[.int .i64 a, .int .i64 b] 30) 30 #[.int .i64 0, .int .i64 0]
  have hw := below2 w (.cells #[.int .i64 a, .int .i64 b] 30) (.cells #[.int .i64 0, .int .i64 0] 30)
  generalize (w.alloc _).alloc _ = W0 at hx h1 hw ⊢
  obtain ⟨c0, c1, _, _⟩ := hx.two
  have g0 := fun d os => cell_regrown c0 d os
  have g1 := fun d os => cell_regrown c1 d os
  clear c0 c1
  refine wp_region_below_tail 8 (by kernel_rfl) (by kernel_rfl) ?_
  simp only [List.take_succ_cons, List.take_zero, List.drop_succ_cons, List.drop_zero]
  repeat (first
    | go_big_quiet_step ((first
      | (go_at_call 77; (with_reducible exact Calls.regrown_same (C _ _).out))
      | (go_at_call 58; (with_reducible exact Calls.regrown_of (C2 _ _ _).out))))
    | quiet_step ((first
      | (go_at_call 77; (with_reducible exact Calls.regrown_same (C _ _).out))
      | (go_at_call 58; (with_reducible exact Calls.regrown_of (C2 _ _ _).out)))))
  refine wpQuiet_nil ?_
  intro v hv
  have hb := below_of_regrown hv
  clear hv g0 g1
  replace h1 := h1.below hb
  replace hw := Below.step hw hb
  obtain ⟨c4, c5, f0, f1⟩ := h1.two
  go_wp2_with fail
  replace hw := set2b (k := w.heap.size + 1) (x := .int .i64 (rs (rs a))) (y := .int .i64 (rs (-(rs b)))) (by omega) hw
  replace h1 := h1.set (.int .i64 (rs (rs a))) (.int .i64 (rs (-(rs b))))
  generalize (v.setCell _ _).setCell _ _ = W2 at h1 hw ⊢
  obtain ⟨d0, d1, _, _⟩ := h1.two
  exact bodyPost_ret (v := .agg #[.int .i64 (rs (rs a)), .int .i64 (rs (-(rs b)))]) (by simp [results, Tryz.results79, go_sem, d0, d1]) rfl ⟨rfl, hw⟩

end Go.Proofs.YtoeinpiekfmbgaaGreatDoor

