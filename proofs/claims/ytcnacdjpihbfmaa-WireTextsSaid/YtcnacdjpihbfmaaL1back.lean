/- Layer 1: WireBack: what was put is read, from where it stands, whatever stands ahead and behind; what is read of any bytes is the one number whose bytes stand there. For every pair of texts and every number. -/
import Derived.Test.YtcnacdjpihbfmaaL1fix
import Derived.Test.YtcnacdjpihbfmaaWlaw
import Derived.Test.YtcnacdjpihbfmaaL1ord
import Derived.BigQuiet
import Derived.Lib.QuietBelow
namespace Go.Proofs.Ytcnacdjpihbfmaa.wireBack
set_option linter.unusedVariables false
set_option linter.unusedSimpArgs false
open Go.ChangeShapes Go.WideShapes Go.ChangeAt Go.RowKit

theorem ret_true {b : Bool} (h : b = true) : Ending.returned (.bool b) = .returned (.bool true) := by rw [h]
theorem extract_toList (s : ByteArray) (k : Nat) : (s.extract 0 k).toList = s.data.toList.take k := by
  rw [ByteArray.toList_eq]
  simp [ByteArray.data_extract, Array.toList_extract, List.extract_eq_take_drop]
theorem below_drewN {B : Nat} {a w : World} (h : Below B a w) (n : Nat) : Below B a (w.drewN n) := ⟨h.os, h.tape, h.output, h.size, h.block⟩

set_option maxHeartbeats 4000000 in
set_option maxRecDepth 100000 in
theorem walk (a0 : ByteArray) (a1 : ByteArray) (a2 : Int) (w0 : a0.size ≤ maxLen) (w1 : a1.size ≤ maxLen) (w2 : (Lit.int .i64 a2).wf = true) (w : World) :
    Calls Try.prog 4 #[.string a0, .string a1, .int .i64 a2] w fun e w' => e = .returned (.bool true) ∧ Below w.heap.size w w' := by
  have hb : Below w.heap.size w w := Below.refl _ _
  by_cases h : a0.size ≤ 200 ∧ a1.size ≤ 200
  · obtain ⟨h0, h1⟩ := h
    obtain ⟨x, hx⟩ : ∃ x, x = putF a2 := ⟨_, rfl⟩
    obtain ⟨y, hy⟩ : ∃ y, y = fixF a2 := ⟨_, rfl⟩
    have Cx : Ct Try.prog 18 #[.int .i64 a2] (.string ⟨x.toArray⟩) := fun W => by rw [hx]; exact put_all a2 W
    have Cy : Ct Try.prog 19 #[.int .i64 a2] (.string ⟨y.toArray⟩) := fun W => by rw [hy]; exact putFixed_all a2 W
    have lx : x.length ≤ 7 := by rw [hx]; exact putF_len _
    have ly : y.length ≤ 4 := by rw [hy]; unfold fixF; split <;> simp [fixG]
    have sx : (⟨x.toArray⟩ : ByteArray).size = x.length := by simp [ByteArray.size]
    have sy : (⟨y.toArray⟩ : ByteArray).size = y.length := by simp [ByteArray.size]
    obtain ⟨m, p, q, hg⟩ : ∃ m p q, getF a1.data.toList 0 = (m, p, q) := ⟨_, _, _, rfl⟩
    have C0 : Cs Try.prog 20 #[.string a1, .int .i64 0] (.tuple #[.int .i64 m, .int .i64 p, .int .i64 q]) := fun W => get_lit _ _ _ _ _ W w1 hg
    by_cases c1 : 0 ≤ a2 ∧ a2 ≤ 281474976710655
    · by_cases c2 : a2 ≤ 4294967295
      · obtain ⟨c1, c1'⟩ := c1
        obtain ⟨n, rfl⟩ := Int.eq_ofNat_of_zero_le c1
        have hxn : x = putG 7 n := by rw [hx, putF, if_neg (by omega)]; rfl
        have hyn : y = fixG n := by rw [hy, fixF, if_neg (by omega)]; rfl
        have lx1 : 1 ≤ x.length := by rw [hxn]; exact wireOrder.putG_pos 7 _ (by omega)
        have ly' : y.length = 4 := by rw [hyn]; rfl
        have Cg : Cs Try.prog 20 #[.string (a0 ++ ⟨x.toArray⟩ ++ a1), .int .i64 a0.size] (.tuple #[.int .i64 n, .int .i64 (a0.size + x.length), .int .i64 0]) := fun W => by
          refine get_lit _ _ _ _ _ W (by unfold maxLen; simp only [ByteArray.size_append, sx]; omega) ?_
          have := getF_put a0.data.toList a1.data.toList n (by omega)
          rw [← hxn] at this
          simpa using this
        have Cf : Ct Try.prog 21 #[.string (a0 ++ ⟨y.toArray⟩ ++ a1), .int .i64 a0.size] (.tuple #[.int .i64 n, .int .i64 (a0.size + 4), .int .i64 0]) := fun W => by
          refine getFixed_lit _ _ _ _ _ W (by unfold maxLen; simp only [ByteArray.size_append, sy]; omega) ?_
          have := gfxF_fix a0.data.toList a1.data.toList n (by omega)
          rw [← hyn] at this
          simpa using this
        have ex : x.isEmpty = false := by cases x <;> simp at lx1 ⊢
        have ey : y.isEmpty = false := by cases y <;> simp at ly' ⊢
        have d1 : decide ((n : Int) < 0) = false := by simp
        have d2 : decide (281474976710655 < (n : Int)) = false := by simp; omega
        have d3 : decide (4294967295 < (n : Int)) = false := by simp; omega
        have d4 : ((y.length : Int) != 4) = false := by rw [ly']; rfl
        clear hx hy hxn hyn sx sy ly'
        go_enter Try.func4, Try.ntmps4
        go_wp2_with (first
          | (go_at_call 8; refine (fixed_true _).mono ?_; rintro e v1 ⟨rfl, hb1⟩; replace hb := Below.step hb hb1; clear hb1)
          | (go_at_call 18; (with_reducible refine (Cx.go _).mono ?_); rintro e v1 ⟨rfl, hb1⟩; replace hb := Below.step hb hb1; clear hb1)
          | (go_at_call 20; (with_reducible refine (Cg.go _).mono ?_); rintro e v1 ⟨rfl, rfl⟩)
          | (go_at_call 20; (with_reducible refine (C0.go _).mono ?_); rintro e v1 ⟨rfl, rfl⟩)
          | (go_at_call 21; (with_reducible refine (Cf.go _).mono ?_); rintro e v1 ⟨rfl, hb1⟩; replace hb := Below.step hb hb1; clear hb1)
          | (go_at_call 19; (with_reducible refine (Cy.go _).mono ?_); rintro e v1 ⟨rfl, hb1⟩; replace hb := Below.step hb hb1; clear hb1))
        clear Cx Cy Cg Cf C0 d1 d2 d3 d4 ex ey lx ly lx1
        by_cases hq : q = 0
        · subst hq
          obtain ⟨k, rfl, k1, k2, k3, k4, k5⟩ := put_getF _ _ _ hg
          have kl : k ≤ a1.size := k2
          have Cm : Ct Try.prog 18 #[.int .i64 m] (.string ⟨(a1.data.toList.take k).toArray⟩) := fun W => by rw [← k3]; exact put_all m W
          have z1 : (0 : Int) ≤ k := by omega
          have z2 : (k : Int) ≤ a1.size := by omega
          have z3 : (1 : Int) ≤ k := by omega
          clear k3 hg k4 k5 k2
          refine wp_region_quiet_below (by kernel_rfl) (by kernel_rfl) ?_
          repeat (first
            | go_big_quiet_step ((go_at_call 18; exact Calls.regrown_of (Cm.go _)))
            | quiet_step ((go_at_call 18; exact Calls.regrown_of (Cm.go _))))
          refine wpQuiet_nil ?_
          intro W hW
          replace hb := Below.step hb (below_of_regrown hW)
          clear hW
          go_wp2
          go_ret
          refine ⟨ret_true ?_, hb⟩
          rw [extract_toList]
          simp
        · have hqb : (q != 0) = true := by simpa using hq
          go_quiet (fail)
          go_wp2
          go_ret
          exact ⟨rfl, hb.trans (below_drewN (Below.refl _ _) _)⟩
      · have c2' : 4294967295 < a2 := by omega
        obtain ⟨c1, c1'⟩ := c1
        obtain ⟨n, rfl⟩ := Int.eq_ofNat_of_zero_le c1
        have hxn : x = putG 7 n := by rw [hx, putF, if_neg (by omega)]; rfl
        have hyn : y = [] := by rw [hy, fixF, if_pos (by omega)]
        subst hyn
        have lx1 : 1 ≤ x.length := by rw [hxn]; exact wireOrder.putG_pos 7 _ (by omega)
        have Cg : Cs Try.prog 20 #[.string (a0 ++ ⟨x.toArray⟩ ++ a1), .int .i64 a0.size] (.tuple #[.int .i64 n, .int .i64 (a0.size + x.length), .int .i64 0]) := fun W => by
          refine get_lit _ _ _ _ _ W (by unfold maxLen; simp only [ByteArray.size_append, sx]; omega) ?_
          have := getF_put a0.data.toList a1.data.toList n (by omega)
          rw [← hxn] at this
          simpa using this
        have ex : x.isEmpty = false := by cases x <;> simp at lx1 ⊢
        have d1 : decide ((n : Int) < 0) = false := by simp
        have d2 : decide (281474976710655 < (n : Int)) = false := by simp; omega
        have d3 : decide (4294967295 < (n : Int)) = true := by simp; omega
        clear hx hy hxn sx sy ly
        go_enter Try.func4, Try.ntmps4
        go_wp2_with (first
          | (go_at_call 8; refine (fixed_true _).mono ?_; rintro e v1 ⟨rfl, hb1⟩; replace hb := Below.step hb hb1; clear hb1)
          | (go_at_call 18; (with_reducible refine (Cx.go _).mono ?_); rintro e v1 ⟨rfl, hb1⟩; replace hb := Below.step hb hb1; clear hb1)
          | (go_at_call 20; (with_reducible refine (Cg.go _).mono ?_); rintro e v1 ⟨rfl, rfl⟩)
          | (go_at_call 20; (with_reducible refine (C0.go _).mono ?_); rintro e v1 ⟨rfl, rfl⟩)
          | (go_at_call 19; (with_reducible refine (Cy.go _).mono ?_); rintro e v1 ⟨rfl, hb1⟩; replace hb := Below.step hb hb1; clear hb1))
        clear Cx Cy Cg C0 d1 d2 d3 ex lx lx1
        by_cases hq : q = 0
        · subst hq
          obtain ⟨k, rfl, k1, k2, k3, k4, k5⟩ := put_getF _ _ _ hg
          have kl : k ≤ a1.size := k2
          have Cm : Ct Try.prog 18 #[.int .i64 m] (.string ⟨(a1.data.toList.take k).toArray⟩) := fun W => by rw [← k3]; exact put_all m W
          have z1 : (0 : Int) ≤ k := by omega
          have z2 : (k : Int) ≤ a1.size := by omega
          have z3 : (1 : Int) ≤ k := by omega
          clear k3 hg k4 k5 k2
          refine wp_region_quiet_below (by kernel_rfl) (by kernel_rfl) ?_
          repeat (first
            | go_big_quiet_step ((go_at_call 18; exact Calls.regrown_of (Cm.go _)))
            | quiet_step ((go_at_call 18; exact Calls.regrown_of (Cm.go _))))
          refine wpQuiet_nil ?_
          intro W hW
          replace hb := Below.step hb (below_of_regrown hW)
          clear hW
          go_wp2
          go_ret
          refine ⟨ret_true ?_, hb⟩
          rw [extract_toList]
          simp
        · have hqb : (q != 0) = true := by simpa using hq
          go_quiet (fail)
          go_wp2
          go_ret
          exact ⟨rfl, hb.trans (below_drewN (Below.refl _ _) _)⟩
    · have hxn : x = [] := by rw [hx, putF, if_pos (by omega)]
      have hyn : y = [] := by rw [hy, fixF, if_pos (by omega)]
      subst hxn hyn
      by_cases c3 : a2 < 0
      · clear hx hy sx sy lx ly c1
        go_enter Try.func4, Try.ntmps4
        go_wp2_with (first
          | (go_at_call 8; refine (fixed_true _).mono ?_; rintro e v1 ⟨rfl, hb1⟩; replace hb := Below.step hb hb1; clear hb1)
          | (go_at_call 18; (with_reducible refine (Cx.go _).mono ?_); rintro e v1 ⟨rfl, hb1⟩; replace hb := Below.step hb hb1; clear hb1)
          | (go_at_call 20; (with_reducible refine (C0.go _).mono ?_); rintro e v1 ⟨rfl, rfl⟩)
          | (go_at_call 19; (with_reducible refine (Cy.go _).mono ?_); rintro e v1 ⟨rfl, hb1⟩; replace hb := Below.step hb hb1; clear hb1))
        clear Cx Cy C0
        by_cases hq : q = 0
        · subst hq
          obtain ⟨k, rfl, k1, k2, k3, k4, k5⟩ := put_getF _ _ _ hg
          have kl : k ≤ a1.size := k2
          have Cm : Ct Try.prog 18 #[.int .i64 m] (.string ⟨(a1.data.toList.take k).toArray⟩) := fun W => by rw [← k3]; exact put_all m W
          have z1 : (0 : Int) ≤ k := by omega
          have z2 : (k : Int) ≤ a1.size := by omega
          have z3 : (1 : Int) ≤ k := by omega
          clear k3 hg k4 k5 k2
          refine wp_region_quiet_below (by kernel_rfl) (by kernel_rfl) ?_
          repeat (first
            | go_big_quiet_step ((go_at_call 18; exact Calls.regrown_of (Cm.go _)))
            | quiet_step ((go_at_call 18; exact Calls.regrown_of (Cm.go _))))
          refine wpQuiet_nil ?_
          intro W hW
          replace hb := Below.step hb (below_of_regrown hW)
          clear hW
          go_wp2
          go_ret
          refine ⟨ret_true ?_, hb⟩
          rw [extract_toList]
          simp
        · have hqb : (q != 0) = true := by simpa using hq
          go_quiet (fail)
          go_wp2
          go_ret
          exact ⟨rfl, hb.trans (below_drewN (Below.refl _ _) _)⟩
      · have c4 : 281474976710655 < a2 := by omega
        have d1 : decide (a2 < 0) = false := by simp; omega
        have d2 : decide (281474976710655 < a2) = true := by simp; omega
        have d3 : decide (4294967295 < a2) = true := by simp; omega
        clear hx hy sx sy lx ly c1
        go_enter Try.func4, Try.ntmps4
        go_wp2_with (first
          | (go_at_call 8; refine (fixed_true _).mono ?_; rintro e v1 ⟨rfl, hb1⟩; replace hb := Below.step hb hb1; clear hb1)
          | (go_at_call 18; (with_reducible refine (Cx.go _).mono ?_); rintro e v1 ⟨rfl, hb1⟩; replace hb := Below.step hb hb1; clear hb1)
          | (go_at_call 20; (with_reducible refine (C0.go _).mono ?_); rintro e v1 ⟨rfl, rfl⟩)
          | (go_at_call 19; (with_reducible refine (Cy.go _).mono ?_); rintro e v1 ⟨rfl, hb1⟩; replace hb := Below.step hb hb1; clear hb1))
        clear Cx Cy C0
        by_cases hq : q = 0
        · subst hq
          obtain ⟨k, rfl, k1, k2, k3, k4, k5⟩ := put_getF _ _ _ hg
          have kl : k ≤ a1.size := k2
          have Cm : Ct Try.prog 18 #[.int .i64 m] (.string ⟨(a1.data.toList.take k).toArray⟩) := fun W => by rw [← k3]; exact put_all m W
          have z1 : (0 : Int) ≤ k := by omega
          have z2 : (k : Int) ≤ a1.size := by omega
          have z3 : (1 : Int) ≤ k := by omega
          clear k3 hg k4 k5 k2
          refine wp_region_quiet_below (by kernel_rfl) (by kernel_rfl) ?_
          repeat (first
            | go_big_quiet_step ((go_at_call 18; exact Calls.regrown_of (Cm.go _)))
            | quiet_step ((go_at_call 18; exact Calls.regrown_of (Cm.go _))))
          refine wpQuiet_nil ?_
          intro W hW
          replace hb := Below.step hb (below_of_regrown hW)
          clear hW
          go_wp2
          go_ret
          refine ⟨ret_true ?_, hb⟩
          rw [extract_toList]
          simp
        · have hqb : (q != 0) = true := by simpa using hq
          go_quiet (fail)
          go_wp2
          go_ret
          exact ⟨rfl, hb.trans (below_drewN (Below.refl _ _) _)⟩
  · by_cases c0 : (200 : Int) < a0.size
    · clear h
      go_enter Try.func4, Try.ntmps4
      go_wp2_with (go_at_call 8; refine (fixed_true _).mono ?_; rintro e w1 ⟨rfl, hb1⟩; replace hb := Below.step hb hb1; clear hb1)
      go_ret
      exact ⟨rfl, hb⟩
    · have c1 : (200 : Int) < a1.size := by omega
      have c2 : ¬ 200 < a0.size := by omega
      clear h c0
      go_enter Try.func4, Try.ntmps4
      go_wp2_with (go_at_call 8; refine (fixed_true _).mono ?_; rintro e w1 ⟨rfl, hb1⟩; replace hb := Below.step hb hb1; clear hb1)
      go_ret
      exact ⟨rfl, hb⟩
end Go.Proofs.Ytcnacdjpihbfmaa.wireBack
