/- Layer 7's code: the decoder's want, read, number, operation. -/
import Derived.Test.YtcfdbciooimjmaaGreatDoorzGb
import Derived.Test.YtcfdbciooimjmaaGreatDoorzKm
import Derived.Test.YtcfdbciooimjmaaGreatDoorzGc
import Derived.Test.YtcfdbciooimjmaaGreatDoorzGg
import Derived.BigQuiet
import Derived.Deep.QuietTactic
import Derived.RegionTactic
namespace Go.Proofs.YtcfdbciooimjmaaGreatDoor
set_option linter.unusedVariables false
set_option linter.unusedSimpArgs false
open Go.RowKit Go.ChangeShapes Go.WideShapes Go.ChangeAt Go.Sort

/-- A decoder of the bytes s in block g, at i, with the error er. -/
abbrev Dc (w : World) (g : Nat) (s : ByteArray) (i er : Int) : Prop := Held w g 50 #[.string s, .int .i64 i, .int .i64 er]
theorem grown_of_below {w w' : World} (h : Below w.heap.size w w') (g : Option Nat) : w.grownBy w' g := ⟨h.os, h.tape, h.output, h.size, fun k hk _ => h.block k hk⟩
theorem grown_trans {a b c : World} {g : Option Nat} (h : a.grownBy b g) (h1 : b.grownBy c g) : a.grownBy c g :=
  ⟨h1.os.trans h.os, h1.tape.trans h.tape, h1.output.trans h.output, Nat.le_trans h.size h1.size, fun k hk hn => (h1.block k (Nat.lt_of_lt_of_le hk h.size) hn).trans (h.block k hk hn)⟩
theorem Held.set_at {W : World} {g : Nat} {t : TypeId} {cs : Array Value} (h : Held W g t cs) (i : Nat) (x : Value) : Held (W.setCell ⟨g, i, none⟩ x) g t (cs.setIfInBounds i x) := by
  unfold Held at *
  simp [World.setCell, Array.getElem?_modify, h]
theorem grown_set1 (W : World) (g i : Nat) (x : Value) : W.grownBy (W.setCell ⟨g, i, none⟩ x) (some g) := ⟨rfl, rfl, rfl, by simp [World.setCell], fun k _ hne => Below.heap_setCell W ⟨g, i, none⟩ x k (fun e => hne (by rw [e]))⟩

set_option maxHeartbeats 1000000 in
set_option maxRecDepth 100000 in
theorem want_any {g : Nat} {s : ByteArray} {i er : Int} (ok : Bool) (e : Int) (w : World) (h : Dc w g s i er) :
    Calls Tryz.prog 30 #[.pointer (some ⟨g, 0, none⟩), .bool ok, .int .i64 e] w fun x w' => x = .returned (.tuple #[]) ∧ Dc w' g s i (wE ok e er) ∧ w.grownBy w' (some g) := by
  have c2 := h.cell 2
  have f2 := h.fz 2
  have hl := h.lt
  simp at c2
  have hset : Dc (w.setCell ⟨g, 2, none⟩ (.int .i64 e)) g s i e := h.set_at 2 _
  have HH := Lib.hid h
  clear h
  cases ok
  · by_cases he : er = 0
    · subst he
      go_enter Tryz.func30, Tryz.ntmps30
      go_wp2_with fail
      go_end0
      exact ⟨rfl, hset, grown_set1 _ _ _ _⟩
    · have h1 : (er == 0) = false := by simpa using he
      rw [wE_keep he]
      clear he hset
      go_enter Tryz.func30, Tryz.ntmps30
      go_wp2_with fail
      go_end0
      exact ⟨rfl, HH.out, World.grownBy.refl _ _⟩
  · rw [wE_true]
    clear hset
    go_enter Tryz.func30, Tryz.ntmps30
    go_wp2_with fail
    go_end0
    exact ⟨rfl, HH.out, World.grownBy.refl _ _⟩

set_option maxHeartbeats 2000000 in
set_option maxRecDepth 100000 in
theorem dread_any {g : Nat} {s : ByteArray} {i er : Int} (w : World) (h : Dc w g s i er) (hs : s.size ≤ 1000000) (hv : Vl s.data.toList i er) :
    Calls Tryz.prog 84 #[.pointer (some ⟨g, 0, none⟩)] w fun x w' => x = .returned (.int .i64 (rdS s.data.toList i er).1) ∧ Dc w' g s (rdS s.data.toList i er).2.1 (rdS s.data.toList i er).2.2 ∧ w.grownBy w' (some g) := by
  have c0 := h.cell 0
  have c1 := h.cell 1
  have c2 := h.cell 2
  have hl := h.lt
  simp at c0 c1 c2
  have HH := Lib.hid h
  clear h
  by_cases he : er ≠ 0
  · have h1 : (er != 0) = true := by simpa using he
    rw [rdS_keep he]
    clear he hv
    go_enter Tryz.func84, Tryz.ntmps84
    go_wp2_with fail
    go_ret
    exact ⟨rfl, HH.out, World.grownBy.refl _ _⟩
  · have he : er = 0 := by omega
    subst he
    obtain ⟨v0, v1⟩ := hv rfl
    obtain ⟨a, rfl⟩ := Int.eq_ofNat_of_zero_le v0
    have ha : a ≤ s.size := by
      have : s.data.toList.length = s.size := rfl
      omega
    have G := fun W => Lib.hid (get_any s a W (by unfold maxLen; omega) ha)
    have hr : rdS s.data.toList (a : Int) 0 = ((getL (s.data.toList.drop a) 0 0).1, (a : Int) + (getL (s.data.toList.drop a) 0 0).2.1, (getL (s.data.toList.drop a) 0 0).2.2) := by unfold rdS; rw [if_neg (by simp)]; rfl
    rw [hr]
    simp only
    generalize (getL (s.data.toList.drop a) 0 0).1 = n at *
    generalize (a : Int) + (getL (s.data.toList.drop a) 0 0).2.1 = j at *
    generalize (getL (s.data.toList.drop a) 0 0).2.2 = e2 at *
    have g0 := fun d os => cell_regrown c0 d os
    have g1 := fun d os => cell_regrown c1 d os
    clear hr hv v0 v1 ha
    go_enter Tryz.func84, Tryz.ntmps84
    go_upto_region 3 with (fail)
    clear c0 c1 c2
    refine wp_region_quiet_below (by kernel_rfl) (by kernel_rfl) ?_
    (repeat (first
      | go_big_quiet_step ((go_at_call 101; (with_reducible exact Calls.regrown_same (G _).out)))
      | quiet_step ((go_at_call 101; (with_reducible exact Calls.regrown_same (G _).out)))))
    refine wpQuiet_nil ?_
    intro v hv
    have hbv := below_of_regrown hv
    clear hv g0 g1
    have hv := HH.out.below hbv
    have hlv := hv.lt
    have c1 := hv.cell 1
    have c2 := hv.cell 2
    have f1 := hv.fz 1
    have f2 := hv.fz 2
    simp at c1 c2
    have hset : Dc ((v.setCell ⟨g, 1, none⟩ (.int .i64 j)).setCell ⟨g, 2, none⟩ (.int .i64 e2)) g s j e2 := (hv.set_at 1 _).set_at 2 _
    have hgr := grown_trans (grown_of_below hbv (some g)) (grown_trans (grown_set1 v g 1 (.int .i64 j)) (grown_set1 _ g 2 (.int .i64 e2)))
    clear hv hbv
    have HS := Lib.hid hset
    have HG := Lib.hid hgr
    clear hset hgr
    go_wp2_with fail
    go_ret
    exact ⟨rfl, HS.out, HG.out⟩

set_option maxHeartbeats 1000000 in
set_option maxRecDepth 100000 in
theorem dnum_any (a b : Int) {g : Nat} {s : ByteArray} {i er : Int} (w : World) (h : Dc w g s i er) (hs : s.size ≤ 1000000) (hv : Vl s.data.toList i er) :
    Calls Tryz.prog 61 #[.pointer (some ⟨g, 0, none⟩), .int .i64 a, .int .i64 b] w fun x w' => x = .returned (.int .i64 (nmS a b s.data.toList i er).1) ∧ Dc w' g s (nmS a b s.data.toList i er).2.1 (nmS a b s.data.toList i er).2.2 ∧ w.grownBy w' (some g) := by
  have R := Lib.hid (dread_any w h hs hv)
  unfold nmS
  generalize rdS s.data.toList i er = x at *
  obtain ⟨n, j, e⟩ := x
  unfold nmW
  simp only at *
  have C := cs_cwithin (n := n) (a := a) (b := b) rfl
  generalize (decide (a ≤ n) && decide (n ≤ b)) = t at *
  by_cases he : wE t 71 e ≠ 0
  · rw [if_pos he]
    have h1 : (wE t 71 e != 0) = true := by simpa using he
    clear h hv he
    go_enter Tryz.func61, Tryz.ntmps61
    go_wp2_with (first
      | (go_at_call 84; (with_reducible refine R.out.mono ?_); rintro x v ⟨rfl, hd, hg⟩)
      | (go_at_call 33; (with_reducible refine (C.go _).mono ?_); rintro x v ⟨rfl, rfl⟩)
      | (go_at_call 30; (with_reducible refine (want_any _ _ _ hd).mono ?_); rintro x v2 ⟨rfl, hd2, hg2⟩; have c2 := hd2.cell 2; have hl := hd2.lt; simp at c2))
    go_ret
    exact ⟨rfl, hd2, grown_trans hg hg2⟩
  · have he' : wE t 71 e = 0 := by omega
    rw [if_neg he]
    have h1 : (wE t 71 e != 0) = false := by simpa using he'
    clear h hv he he'
    go_enter Tryz.func61, Tryz.ntmps61
    go_wp2_with (first
      | (go_at_call 84; (with_reducible refine R.out.mono ?_); rintro x v ⟨rfl, hd, hg⟩)
      | (go_at_call 33; (with_reducible refine (C.go _).mono ?_); rintro x v ⟨rfl, rfl⟩)
      | (go_at_call 30; (with_reducible refine (want_any _ _ _ hd).mono ?_); rintro x v2 ⟨rfl, hd2, hg2⟩; have c2 := hd2.cell 2; have hl := hd2.lt; simp at c2))
    go_ret
    exact ⟨rfl, hd2, grown_trans hg hg2⟩
end Go.Proofs.YtcfdbciooimjmaaGreatDoor

/- Layer 7's code: the decoder's operation. -/
namespace Go.Proofs.YtcfdbciooimjmaaGreatDoor
set_option linter.unusedVariables false
set_option linter.unusedSimpArgs false
open Go.RowKit Go.ChangeShapes Go.WideShapes Go.ChangeAt Go.Sort

set_option maxHeartbeats 2000000 in
set_option maxRecDepth 100000 in
theorem dop_end {g : Nat} {s : ByteArray} {i er : Int} (w : World) (h : Dc w g s i er) (hs : s.size ≤ 1000000) (he : wE (decide (i < (s.size : Int))) 10 er ≠ 0) :
    Calls Tryz.prog 102 #[.pointer (some ⟨g, 0, none⟩)] w fun x w' => x = .returned (.int .i64 0) ∧ Dc w' g s i (wE (decide (i < (s.size : Int))) 10 er) ∧ w.grownBy w' (some g) := by
  have c0 := h.cell 0
  have c1 := h.cell 1
  have hl := h.lt
  simp at c0 c1
  have HH := Lib.hid h
  have h1 : (wE (decide (i < (s.size : Int))) 10 er != 0) = true := by simpa using he
  have g0 := fun d os => cell_regrown c0 d os
  have g1 := fun d os => cell_regrown c1 d os
  clear h he
  go_enter Tryz.func102, Tryz.ntmps102
  go_upto_region 1 with (fail)
  clear c0 c1
  refine wp_region_below_tail 11 (by kernel_rfl) (by kernel_rfl) ?_
  simp only [List.take_succ_cons, List.take_zero, List.drop_succ_cons, List.drop_zero]
  repeat (first | go_big_quiet_step (fail) | quiet_step (fail))
  refine wpQuiet_nil ?_
  intro v hv
  have hbv := below_of_regrown hv
  clear hv g0 g1
  have hd := HH.out.below hbv
  have hg := grown_of_below hbv (some g)
  clear hbv
  go_wp2_with (go_at_call 30; (with_reducible refine (want_any _ _ _ hd).mono ?_); rintro x v2 ⟨rfl, hd2, hg2⟩; have c2 := hd2.cell 2; have hl2 := hd2.lt; simp at c2)
  go_ret
  exact ⟨rfl, hd2, grown_trans hg hg2⟩

set_option maxHeartbeats 2000000 in
set_option maxRecDepth 100000 in
theorem dop_get {g : Nat} {s : ByteArray} {a : Nat} (ha : a < s.size) (w : World) (h : Dc w g s a 0) (hs : s.size ≤ 1000000) :
    Calls Tryz.prog 102 #[.pointer (some ⟨g, 0, none⟩)] w fun x w' => x = .returned (.int .i64 s[a].toNat) ∧ Dc w' g s (a + 1) (wE (decide ((s[a].toNat : Int) < 17)) 71 0) ∧ w.grownBy w' (some g) := by
  have c0 := h.cell 0
  have c1 := h.cell 1
  have hl := h.lt
  simp at c0 c1
  have HH := Lib.hid h
  have hc := s[a].toNat_lt
  have ht : decide ((a : Int) < (s.size : Int)) = true := by simp; omega
  have hai : (a : Int) < s.size := by omega
  have g0 := fun d os => cell_regrown c0 d os
  have g1 := fun d os => cell_regrown c1 d os
  clear h
  go_enter Tryz.func102, Tryz.ntmps102
  go_upto_region 1 with (fail)
  clear c0 c1
  refine wp_region_below_tail 11 (by kernel_rfl) (by kernel_rfl) ?_
  simp only [List.take_succ_cons, List.take_zero, List.drop_succ_cons, List.drop_zero]
  repeat (first | go_big_quiet_step (fail) | quiet_step (fail))
  refine wpQuiet_nil ?_
  intro v hv
  have hbv := below_of_regrown hv
  clear hv g0 g1
  have hd := HH.out.below hbv
  have hg := grown_of_below hbv (some g)
  have W1 := fun v hd => Lib.hid (want_any (g := g) (s := s) (i := (a : Int)) (er := 0) true 10 v hd)
  rw [wE_true] at W1
  clear hbv
  go_upto_region 4 with (go_at_call 30; (with_reducible refine (W1 _ hd).out.mono ?_); rintro x v2 ⟨rfl, hd2, hg2⟩; have c2 := hd2.cell 2; have hl2 := hd2.lt; simp at c2)
  have c0 := hd2.cell 0
  have c1 := hd2.cell 1
  simp at c0 c1
  have g0 := fun d os => cell_regrown c0 d os
  have g1 := fun d os => cell_regrown c1 d os
  have HD2 := Lib.hid hd2
  have HG2 := Lib.hid (grown_trans hg hg2)
  clear c0 c1 c2 hd2 hd hg hg2 W1
  refine wp_region_quiet_below (by kernel_rfl) (by kernel_rfl) ?_
  (repeat (first | go_big_quiet_step (fail) | quiet_step (fail)))
  refine wpQuiet_nil ?_
  intro v3 hv3
  have hbv3 := below_of_regrown hv3
  clear hv3 g0 g1
  have hd3 := HD2.out.below hbv3
  have hg3 := grown_trans HG2.out (grown_of_below hbv3 (some g))
  clear hbv3
  go_wp2_with (go_at_call 30; (with_reducible refine (want_any _ _ _ hd3).mono ?_); rintro x v4 ⟨rfl, hd4, hg4⟩; have c1 := hd4.cell 1; have f1 := hd4.fz 1; have hl4 := hd4.lt; simp at c1)
  have hset : Dc (v4.setCell ⟨g, 1, none⟩ (.int .i64 (a + 1))) g s (a + 1) (wE (decide ((s[a].toNat : Int) < 17)) 71 0) := hd4.set_at 1 _
  have hgr := grown_trans (grown_trans hg3 hg4) (grown_set1 v4 g 1 (.int .i64 ((a : Int) + 1)))
  go_ret
  exact ⟨rfl, hset, hgr⟩

theorem dop_any {g : Nat} {s : ByteArray} {i er : Int} (w : World) (h : Dc w g s i er) (hs : s.size ≤ 1000000) (hv : Vl s.data.toList i er) :
    Calls Tryz.prog 102 #[.pointer (some ⟨g, 0, none⟩)] w fun x w' => x = .returned (.int .i64 (opS s.data.toList i er).1) ∧ Dc w' g s (opS s.data.toList i er).2.1 (opS s.data.toList i er).2.2 ∧ w.grownBy w' (some g) := by
  by_cases he : er ≠ 0
  · rw [opS_keep he]
    have := dop_end w h hs (by rw [wE_keep he]; exact he)
    rwa [wE_keep he] at this
  · have he : er = 0 := by omega
    subst he
    obtain ⟨v0, v1⟩ := hv rfl
    obtain ⟨a, rfl⟩ := Int.eq_ofNat_of_zero_le v0
    have hl : s.data.toList.length = s.size := rfl
    unfold opS
    rw [if_neg (by simp), Int.toNat_natCast]
    by_cases ha : a < s.size
    · rw [drop_cons s a ha]
      exact dop_get ha w h hs
    · rw [List.drop_eq_nil_of_le (by omega)]
      have ht : decide ((a : Int) < (s.size : Int)) = false := by simp; omega
      have := dop_end w h hs (by rw [ht]; decide)
      rwa [ht] at this
end Go.Proofs.YtcfdbciooimjmaaGreatDoor

