/- Layer 5: the document's own answers: seeds, at every input. -/
import Derived.Test.YtkahjodnefclfaaSd
import Derived.Test.YtkahjodnefclfaaRrm
namespace Go.Proofs.Ytkahjodnefclfaa
set_option linter.unusedVariables false
set_option linter.unusedSimpArgs false
open Go.RowKit Go.ChangeShapes Go.WideShapes Go.ChangeAt Gm Sdm

set_option maxHeartbeats 1000000 in
theorem is_any (n : Int) (w : World) : Calls Try.prog 15 #[.int .i64 n] w fun e w' => e = .returned (.bool (isZ n)) ∧ w = w' := by
  have hm : isZ n = (decide (0 ≤ n) && decide (n ≤ 4294967295)) := rfl
  have HM := Lib.hid hm
  clear hm
  go_enter Try.func15, Try.ntmps15
  go_wp2_with fail
  all_goals
    go_ret
    rw [HM.out]
    refine ⟨ret_bool ?_, rfl⟩
    rw [Bool.eq_iff_iff]
    simp
    omega
theorem cs_is {n : Int} {b : Bool} (h : isZ n = b) : Cs Try.prog 15 #[.int .i64 n] (.bool b) := fun W => by have := is_any n W; rwa [h] at this

theorem times1 (a : Nat) (h : a < 4294967296) : Cs Try.prog 19 #[.int .i64 a, .int .i64 2654435761] (.int .i64 (mulF a 2654435761 : Nat)) := fun w => by
  have h' : (a : Int) ≤ 4294967295 := by omega
  have e : ((a : Int) * 31153 + (a : Int) * 40503 % 4294967296 * 65536) % 4294967296 = (mulF a 2654435761 : Nat) := by unfold mulF; omega
  have HE := Lib.hid e
  clear e
  go_enter Try.func19, Try.ntmps19
  go_wp2_with fail
  go_ret
  exact ⟨ret_int HE.out, rfl⟩
theorem times2 (a : Nat) (h : a < 4294967296) : Cs Try.prog 19 #[.int .i64 a, .int .i64 2246822507] (.int .i64 (mulF a 2246822507 : Nat)) := fun w => by
  have h' : (a : Int) ≤ 4294967295 := by omega
  have e : ((a : Int) * 51819 + (a : Int) * 34283 % 4294967296 * 65536) % 4294967296 = (mulF a 2246822507 : Nat) := by unfold mulF; omega
  have HE := Lib.hid e
  clear e
  go_enter Try.func19, Try.ntmps19
  go_wp2_with fail
  go_ret
  exact ⟨ret_int HE.out, rfl⟩

set_option maxHeartbeats 1000000 in
set_option maxRecDepth 100000 in
theorem rmix_in (s n : Nat) (w : World) (hs : s < 4294967296) (hn : n < 4294967296) : Calls Try.prog 10 #[.int .i64 s, .int .i64 n] w fun e w' => e = .returned (.int .i64 (mixN s n : Nat)) ∧ w = w' := by
  have C1 := cs_is (isZ_nat hs)
  have C2 := cs_is (isZ_nat hn)
  have T1 := times1 ((n + 1) % 4294967296) (Nat.mod_lt _ (by decide))
  rw [show (((n + 1) % 4294967296 : Nat) : Int) = ((n : Int) + 1) % 4294967296 by omega] at T1
  have k0 : bits .xor .i64 (s : Int) (mulF ((n + 1) % 4294967296) 2654435761 : Nat) = (start s n : Nat) := i64_xor_nat _ _ hs (mulF_lt _ _)
  have hx0 : start s n < 4294967296 := Nat.xor_lt_two_pow (n := 32) hs (mulF_lt _ _)
  have T2 := times2 (shF (start s n) 15) (shF_lt hx0)
  have k1 := i64_sh (start s n) 15 hx0
  have hx1 : rnd (start s n) < 4294967296 := mulF_lt _ _
  have T3 := times2 (shF (rnd (start s n)) 15) (shF_lt hx1)
  have k2 := i64_sh (rnd (start s n)) 15 hx1
  have hx2 : rnd (rnd (start s n)) < 4294967296 := mulF_lt _ _
  have k3 := i64_sh (rnd (rnd (start s n))) 13 hx2
  have k4 : mixN s n = shF (rnd (rnd (start s n))) 13 := rfl
  have e1 : mulF (shF (start s n) 15) 2246822507 = rnd (start s n) := rfl
  have e2 : mulF (shF (rnd (start s n)) 15) 2246822507 = rnd (rnd (start s n)) := rfl
  rw [e1] at T2
  rw [e2] at T3
  rw [k4]
  clear k4 e1 e2
  generalize shF (rnd (rnd (start s n))) 13 = y3 at *
  generalize rnd (rnd (start s n)) = y2 at *
  generalize shF (rnd (start s n)) 15 = z1 at *
  generalize rnd (start s n) = y1 at *
  generalize shF (start s n) 15 = z0 at *
  generalize start s n = y0 at *
  generalize mulF _ _ = m at *
  rw [show (2 : Int) ^ 15 = 32768 from rfl] at k1 k2
  rw [show (2 : Int) ^ 13 = 8192 from rfl] at k3
  go_enter Try.func10, Try.ntmps10
  go_wp2_with (first
    | (go_at_call 15; (with_reducible refine (C1.go _).mono ?_); rintro e v ⟨rfl, rfl⟩)
    | (go_at_call 15; (with_reducible refine (C2.go _).mono ?_); rintro e v ⟨rfl, rfl⟩)
    | (go_at_call 19; (with_reducible refine (T1.go _).mono ?_); rintro e v ⟨rfl, rfl⟩)
    | (go_at_call 19; (with_reducible refine (T2.go _).mono ?_); rintro e v ⟨rfl, rfl⟩)
    | (go_at_call 19; (with_reducible refine (T3.go _).mono ?_); rintro e v ⟨rfl, rfl⟩))
  go_ret
  exact ⟨rfl, rfl⟩
theorem rmix_out (s n : Int) (w : World) (h : (isZ s && isZ n) = false) : Calls Try.prog 10 #[.int .i64 s, .int .i64 n] w fun e w' => e = .returned (.int .i64 0) ∧ w = w' := by
  by_cases hs : isZ s = true
  · have hn : isZ n = false := by simpa [hs] using h
    have C1 := cs_is hs
    have C2 := cs_is hn
    clear h hs hn
    go_enter Try.func10, Try.ntmps10
    go_wp2_with (first
      | (go_at_call 15; (with_reducible refine (C1.go _).mono ?_); rintro e v ⟨rfl, rfl⟩)
      | (go_at_call 15; (with_reducible refine (C2.go _).mono ?_); rintro e v ⟨rfl, rfl⟩))
    go_ret
    exact ⟨rfl, rfl⟩
  · have hs : isZ s = false := by simpa using hs
    have C1 := cs_is hs
    clear h hs
    go_enter Try.func10, Try.ntmps10
    go_wp2_with (go_at_call 15; (with_reducible refine (C1.go _).mono ?_); rintro e v ⟨rfl, rfl⟩)
    go_ret
    exact ⟨rfl, rfl⟩
theorem rmix_any (s n : Int) : Cs Try.prog 10 #[.int .i64 s, .int .i64 n] (.int .i64 (mixZ s n)) := fun w => by
  by_cases h : isZ s = true ∧ isZ n = true
  · obtain ⟨s, rfl, hs⟩ := isZ_of h.1
    obtain ⟨n, rfl, hn⟩ := isZ_of h.2
    have := rmix_in s n w hs hn
    rwa [show ((mixN s n : Nat) : Int) = mixZ s n by rw [mixZ, if_pos h]; rfl] at this
  · have := rmix_out s n w (by rw [Bool.eq_false_iff]; simpa using h)
    rwa [show (0 : Int) = mixZ s n by rw [mixZ, if_neg h]] at this
theorem use_out {s u k : Int} (h : (isZ s && isZ k) = false) : useZ s u k = 0 := by
  unfold useZ mixZ
  split
  · rename_i hs
    have : isZ k = false := by simpa [hs] using h
    simp [this]
  · rfl
theorem rchild_any (s k : Int) : Cs Try.prog 12 #[.int .i64 s, .int .i64 k] (.int .i64 (useZ s 1 k)) := fun w => by
  by_cases hs : isZ s = true
  · have C1 := cs_is hs
    by_cases hk : isZ k = true
    · have C2 := cs_is hk
      have C3 := rmix_any s 1
      have C4 := rmix_any (mixZ s 1) k
      rw [useZ, if_pos hs]
      generalize mixZ (mixZ s 1) k = y at *
      generalize mixZ s 1 = x at *
      clear hs hk
      go_enter Try.func12, Try.ntmps12
      go_wp2_with (first
        | (go_at_call 15; (with_reducible refine (C1.go _).mono ?_); rintro e v ⟨rfl, rfl⟩)
        | (go_at_call 15; (with_reducible refine (C2.go _).mono ?_); rintro e v ⟨rfl, rfl⟩)
        | (go_at_call 10; (with_reducible refine (C3.go _).mono ?_); rintro e v ⟨rfl, rfl⟩)
        | (go_at_call 10; (with_reducible refine (C4.go _).mono ?_); rintro e v ⟨rfl, rfl⟩))
      go_ret
      exact ⟨rfl, rfl⟩
    · have hk : isZ k = false := by simpa using hk
      have C2 := cs_is hk
      rw [use_out (by simp [hs, hk])]
      clear hs hk
      go_enter Try.func12, Try.ntmps12
      go_wp2_with (first
        | (go_at_call 15; (with_reducible refine (C1.go _).mono ?_); rintro e v ⟨rfl, rfl⟩)
        | (go_at_call 15; (with_reducible refine (C2.go _).mono ?_); rintro e v ⟨rfl, rfl⟩))
      go_ret
      exact ⟨rfl, rfl⟩
  · have hs : isZ s = false := by simpa using hs
    have C1 := cs_is hs
    rw [use_out (by simp [hs])]
    clear hs
    go_enter Try.func12, Try.ntmps12
    go_wp2_with (go_at_call 15; (with_reducible refine (C1.go _).mono ?_); rintro e v ⟨rfl, rfl⟩)
    go_ret
    exact ⟨rfl, rfl⟩
theorem draw_out {s k : Int} (h : (isZ s && isZ k) = false) : drawZ s k = (0, 0) := by
  unfold drawZ
  rw [use_out h]
  decide
theorem rdraw_any (s k : Int) : Ct Try.prog 14 #[.int .i64 s, .int .i64 k] (gv (drawZ s k).1 (drawZ s k).2) := fun w => by
  by_cases hs : isZ s = true
  · have C1 := cs_is hs
    by_cases hk : isZ k = true
    · have C2 := cs_is hk
      have C3 := rmix_any s 2
      have C4 := rmix_any (mixZ s 2) k
      have C5 : Ct Try.prog 17 #[.int .i64 (mixZ (mixZ s 2) k), .int .i64 (mixZ (mixZ s 2) k / 65536)] (gv (drawZ s k).1 (drawZ s k).2) := fun W => by
        have := rof_any (mixZ (mixZ s 2) k) (mixZ (mixZ s 2) k / 65536) W
        unfold drawZ useZ
        rw [if_pos hs]
        exact this
      obtain ⟨h0, h1⟩ := mixZ_bd (mixZ s 2) k
      generalize drawZ s k = q at *
      obtain ⟨a, b⟩ := q
      generalize mixZ (mixZ s 2) k = y at *
      generalize mixZ s 2 = x at *
      clear hs hk
      go_enter Try.func14, Try.ntmps14
      go_wp2_with (first
        | (go_at_call 15; (with_reducible refine (C1.go _).mono ?_); rintro e v ⟨rfl, rfl⟩)
        | (go_at_call 15; (with_reducible refine (C2.go _).mono ?_); rintro e v ⟨rfl, rfl⟩)
        | (go_at_call 10; (with_reducible refine (C3.go _).mono ?_); rintro e v ⟨rfl, rfl⟩)
        | (go_at_call 10; (with_reducible refine (C4.go _).mono ?_); rintro e v ⟨rfl, rfl⟩)
        | (go_at_call 17; (with_reducible refine (C5.go _).mono ?_); rintro e v ⟨rfl, hb⟩; have hx := (Held.new w _ _).below hb; have hw := below_laid hb; clear hb; obtain ⟨c0, c1, f0, f1⟩ := hx.two))
      replace hx := hx.set (.int .i64 a) (.int .i64 b)
      replace hw := set2b (k := w.heap.size) (x := .int .i64 a) (y := .int .i64 b) (by omega) hw
      generalize (v.setCell _ _).setCell _ _ = W2 at hx hw ⊢
      obtain ⟨d0, d1, _, _⟩ := hx.two
      exact bodyPost_ret (v := gv a b) (by simp [results, Try.results14, go_sem, d0, d1]) rfl ⟨rfl, hw⟩
    · have hk : isZ k = false := by simpa using hk
      have C2 := cs_is hk
      rw [draw_out (by simp [hs, hk])]
      clear hs hk
      go_enter Try.func14, Try.ntmps14
      go_wp2_with (first
        | (go_at_call 15; (with_reducible refine (C1.go _).mono ?_); rintro e v ⟨rfl, rfl⟩)
        | (go_at_call 15; (with_reducible refine (C2.go _).mono ?_); rintro e v ⟨rfl, rfl⟩))
      (have hx := Held.new w 25 #[.int .i64 0, .int .i64 0]; obtain ⟨d0, d1, _, _⟩ := hx.two; exact bodyPost_ret (v := gv 0 0) (by simp [results, Try.results14, go_sem, d0, d1]) rfl ⟨rfl, (Below.refl _ _).alloc (Nat.le_refl _) _⟩)
  · have hs : isZ s = false := by simpa using hs
    have C1 := cs_is hs
    rw [draw_out (by simp [hs])]
    clear hs
    go_enter Try.func14, Try.ntmps14
    go_wp2_with (go_at_call 15; (with_reducible refine (C1.go _).mono ?_); rintro e v ⟨rfl, rfl⟩)
    (have hx := Held.new w 25 #[.int .i64 0, .int .i64 0]; obtain ⟨d0, d1, _, _⟩ := hx.two; exact bodyPost_ret (v := gv 0 0) (by simp [results, Try.results14, go_sem, d0, d1]) rfl ⟨rfl, (Below.refl _ _).alloc (Nat.le_refl _) _⟩)
end Go.Proofs.Ytkahjodnefclfaa
