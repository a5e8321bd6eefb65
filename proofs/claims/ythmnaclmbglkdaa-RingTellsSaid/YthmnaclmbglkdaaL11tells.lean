/- RingTells. -/
import Derived.Test.YthmnaclmbglkdaaJm
import Derived.Test.YthmnaclmbglkdaaNl
import Derived.Deep.DeepCutAuto
import Derived.Deep.CutBlock
namespace Go.Proofs.Ythmnaclmbglkdaa.ringTells
set_option linter.unusedVariables false
set_option linter.unusedSimpArgs false
open Go.RowKit Go.ChangeShapes Go.WideShapes Go.ChangeAt Go.Sort Go.Proofs.Ythmnaclmbglkdaa

set_option maxHeartbeats 20000000 in
set_option maxRecDepth 100000 in
theorem walk (CF : ∀ w, Calls Try.prog 10 #[] w fun e w' => e = .returned (.bool true) ∧ Below w.heap.size w w') {A A2 : Option Addr} {r : Rng} {l : List P2} {B nl : Nat} (c c2 : Nat) (na nb : Int) (w : World) (hp : PAt w B A r.buf) (hp2 : PAt w B A2 l) (hB : B ≤ w.heap.size) (hl : l.length = nl) :
    Calls Try.prog 3 #[rgv A r.buf.length c r.head r.many r.most, .slice A2 nl c2, .agg #[.int .i64 na, .int .i64 nb]] w fun e w' => e = .returned (.bool true) ∧ Below w.heap.size w w' := by
  have hW := below2 w (.cells (rgc A r.buf.length c r.head r.many r.most) 24) (.cells #[.int .i64 na, .int .i64 nb] 25)
  have v1 : RgV ((w.alloc (.cells (rgc A r.buf.length c r.head r.many r.most) 24)).alloc (.cells #[.int .i64 na, .int .i64 nb] 25)) w.heap.size r A c := ⟨(Held.new w 24 _).alloc _, (hp.below hW hB).more (Nat.le_trans hB hW.size)⟩
  have pl := (hp2.below hW hB).more (Nat.le_trans hB hW.size)
  have hn2 := Held.new1 w (.cells (rgc A r.buf.length c r.head r.many r.most) 24) 25 #[.int .i64 na, .int .i64 nb]
  obtain ⟨sm, hsm⟩ : ∃ b, decide (r.buf.length ≤ 60) = b := ⟨_, rfl⟩
  have HSM := Lib.hid hsm
  have HL := Lib.hid hl
  clear hsm hp hp2 hB hl
  go_enter Try.func3, Try.ntmps3
  go_upto_region 1 with (fail)
  generalize (w.alloc (.cells (rgc A r.buf.length c r.head r.many r.most) 24)).alloc (.cells #[.int .i64 na, .int .i64 nb] 25) = W0 at *
  cases sm with
  | false =>
    go_wp2_with (first
      | (go_at_call 10; go_loud ((with_reducible refine (CF _).mono ?_); rintro _ uf ⟨rfl, hbf⟩; replace v1 := v1.below hbf; replace pl := pat_later pl hbf; replace hn2 := Held.below hn2 hbf; replace hW := Below.step hW hbf))
      | (guard_target = wpList _ _ _ (Oper.mk (some 31) _ _ _ _ none :: _) _ _; refine wpList_load_row rfl 24 _ rfl w.heap.size rfl _ _ _ _ v1.x Try.underlying24 rfl (by kernel_rfl) ?_)
      | (go_at_call 9; go_loud ((with_reducible refine (rsmall_c HSM.out A c _).mono ?_); rintro _ us ⟨rfl, hbs⟩; replace v1 := v1.below hbs; replace pl := pat_later pl hbs; replace hn2 := Held.below hn2 hbs; replace hW := Below.step hW hbs)))
    go_ret
    exact ⟨rfl, hW⟩
  | true =>
    by_cases hg1 : (20 : Int) < nl
    · have q1 : decide ((20 : Int) < nl) = true := decide_eq_true hg1
      go_wp2_with (first
        | (go_at_call 10; go_loud ((with_reducible refine (CF _).mono ?_); rintro _ uf ⟨rfl, hbf⟩; replace v1 := v1.below hbf; replace pl := pat_later pl hbf; replace hn2 := Held.below hn2 hbf; replace hW := Below.step hW hbf))
        | (guard_target = wpList _ _ _ (Oper.mk (some 31) _ _ _ _ none :: _) _ _; refine wpList_load_row rfl 24 _ rfl w.heap.size rfl _ _ _ _ v1.x Try.underlying24 rfl (by kernel_rfl) ?_)
        | (go_at_call 9; go_loud ((with_reducible refine (rsmall_c HSM.out A c _).mono ?_); rintro _ us ⟨rfl, hbs⟩; replace v1 := v1.below hbs; replace pl := pat_later pl hbs; replace hn2 := Held.below hn2 hbs; replace hW := Below.step hW hbs)))
      go_ret
      exact ⟨rfl, hW⟩
    · have q1 : decide ((20 : Int) < nl) = false := decide_eq_false hg1
      have hr60 : r.buf.length ≤ 60 := of_decide_eq_true HSM.out
      have hnl : nl ≤ 20 := by omega
      obtain ⟨L, hLq⟩ : ∃ L, itemsR r = L := ⟨_, rfl⟩
      obtain ⟨nL, hnL⟩ : ∃ n, L.length = n := ⟨_, rfl⟩
      obtain ⟨my, hmy⟩ : ∃ b, mayR r = b := ⟨_, rfl⟩
      have hnL60 : nL ≤ 60 := by
        cases my with
        | false =>
          have : itemsR r = [] := by unfold itemsR; rw [hmy]; rfl
          rw [this] at hLq
          rw [← hLq] at hnL
          simp at hnL
          omega
        | true =>
          have h1 := items_len hmy
          have h2 := ((mayR_iff r).1 hmy).2.2.2.2
          rw [hLq] at h1
          omega
      have bP := pop_buf r
      have bS := steal_buf r
      have bH : (halfR r).1.buf = r.buf := stealN_buf _ _
      have bX := push_len l (r := r) (by omega)
      obtain ⟨X, eX, hX⟩ : ∃ X e, pushR r l = (X, e) := ⟨_, _, rfl⟩
      obtain ⟨C, x, bC, hC⟩ : ∃ C x b, popR r = (C, x, b) := ⟨_, _, _, rfl⟩
      obtain ⟨S, y, bS2, hS2⟩ : ∃ C x b, stealR r = (C, x, b) := ⟨_, _, _, rfl⟩
      obtain ⟨D, U, hD⟩ : ∃ D U, halfR r = (D, U) := ⟨_, _, rfl⟩
      obtain ⟨N, bN, hN⟩ : ∃ N b, newR na nb = (N, b) := ⟨_, _, rfl⟩
      obtain ⟨nU, hnU⟩ : ∃ n, U.length = n := ⟨_, rfl⟩
      have hU60 : nU ≤ 60 := by
        have h9 : (halfR r).2.length ≤ (itemsR r).length := by
          show ((itemsR r).take (halfN r)).length ≤ _
          rw [List.length_take]
          omega
        rw [hD, hLq] at h9
        simp only at h9
        omega
      have bN2 : N.buf.length ≤ 100000 := by
        by_cases h : 1 ≤ nb ∧ nb ≤ 1024 ∧ 1 ≤ na ∧ na ≤ nb
        · have e9 : newR na nb = (⟨List.replicate na.toNat (0, 0), 0, 0, nb⟩, true) := if_pos h
          rw [e9] at hN
          simp only [Prod.mk.injEq] at hN
          rw [← hN.1]
          simp only [List.length_replicate]
          omega
        · have e9 : newR na nb = (⟨[], 0, 0, 0⟩, false) := if_neg h
          rw [e9] at hN
          simp only [Prod.mk.injEq] at hN
          rw [← hN.1]
          simp
      rw [hX] at bX
      rw [hC] at bP
      rw [hS2] at bS
      rw [hD] at bH
      simp only at bX bP bS bH
      obtain ⟨xa, xb⟩ := x
      obtain ⟨ya, yb⟩ := y
      have EX : ∀ W, (binOp .eql 33 (gv xa xb) (gv xa xb)).run Try.prog W = .ok (.bool true) W := fun W => by rw [eqr_run]; simp
      have EY : ∀ W, (binOp .eql 33 (gv ya yb) (gv ya yb)).run Try.prog W = .ok (.bool true) W := fun W => by rw [eqr_run]; simp
      have HX := Lib.hid hX
      have HC := Lib.hid hC
      have HS := Lib.hid hS2
      have HD := Lib.hid hD
      have HNW := Lib.hid hN
      have HLQ := Lib.hid hLq
      have HMY := Lib.hid hmy
      have HLS := Lib.hid (show (itemsR r).length ≤ 1024 by rw [hLq]; omega)
      have HN := Lib.hid (And.intro hnL (And.intro hnU (show nl ≤ 1000 ∧ nL ≤ 1000 ∧ nU ≤ 1000 by omega)))
      have HB := Lib.hid (show r.buf.length ≤ 100000 ∧ X.buf.length ≤ 100000 ∧ C.buf.length ≤ 100000 ∧ S.buf.length ≤ 100000 ∧ D.buf.length ≤ 100000 ∧ N.buf.length ≤ 100000 from ⟨by omega, bX, by rw [bP]; omega, by rw [bS]; omega, by rw [bH]; omega, bN2⟩)
      clear hg1 hr60 hnl hnL60 hU60 bP bS bH bX bN2 hX hC hS2 hD hN hLq hmy hnL hnU
      go_upto_region 3 with (first
        | (go_at_call 10; go_loud ((with_reducible refine (CF _).mono ?_); rintro _ uf ⟨rfl, hbf⟩; replace v1 := v1.below hbf; replace pl := pat_later pl hbf; replace hn2 := Held.below hn2 hbf; replace hW := Below.step hW hbf))
        | (guard_target = wpList _ _ _ (Oper.mk (some 31) _ _ _ _ none :: _) _ _; refine wpList_load_row rfl 24 _ rfl w.heap.size rfl _ _ _ _ v1.x Try.underlying24 rfl (by kernel_rfl) ?_)
        | (go_at_call 9; go_loud ((with_reducible refine (rsmall_c HSM.out A c _).mono ?_); rintro _ us ⟨rfl, hbs⟩; replace v1 := v1.below hbs; replace pl := pat_later pl hbs; replace hn2 := Held.below hn2 hbs; replace hW := Below.step hW hbs)))
      clear q1
      go_upto_region 4 with (first
        | (guard_target = wpList _ _ _ (Oper.mk (some 41) _ _ _ _ none :: _) _ _; refine wpList_load_row rfl 24 _ rfl w.heap.size rfl _ _ _ _ v1.x Try.underlying24 rfl (by kernel_rfl) ?_)
        | (go_at_call 11; go_loud ((with_reducible refine (push_c HX.out HL.out HB.out.1 HN.out.2.2.1 c c2 _ v1.p pl).mono ?_); rintro _ u ⟨v, rfl, ⟨A7, c7, rfl, ho⟩, hb⟩; have hn := Held.new u 24 rz0))
        | (guard_target = wpList _ _ _ (Oper.mk _ (Op.store 24 (.tmp 7) _) _ _ _ none :: _) _ _; refine wpList_store_row rfl 24 _ _ rfl u.heap.size (rgc A7 X.buf.length c7 X.head X.many X.most) rfl rfl _ _ hn (by kernel_rfl) rfl (by simp [Value.oneCell']) ?_))
      obtain ⟨v7, hbW⟩ := new_o1 (r := X) (c := c7) hb ho
      clear hb ho hn
      replace v1 := v1.below hbW
      replace pl := pat_later pl hbW
      replace hn2 := Held.below hn2 hbW
      replace hW := Below.step hW hbW
      clear hbW
      generalize World.setRow _ u.heap.size _ = W4 at *
      generalize u.heap.size = g7 at *
      go_upto_region 5 with (first
        | (guard_target = wpList _ _ _ (Oper.mk (some 47) _ _ _ _ none :: _) _ _; refine wpList_load_row rfl 24 _ rfl w.heap.size rfl _ _ _ _ v1.x Try.underlying24 rfl (by kernel_rfl) ?_)
        | (go_at_call 12; go_loud ((with_reducible refine (rpush_c HX.out HL.out HN.out.2.2.1 c c2 _ v1.p pl).mono ?_); rintro _ u ⟨v, rfl, ⟨A9, c9, rfl, ho⟩, hb⟩; have hn := Held.new u 24 rz0))
        | (guard_target = wpList _ _ _ (Oper.mk _ (Op.store 24 (.tmp 9) _) _ _ _ none :: _) _ _; refine wpList_store_row rfl 24 _ _ rfl u.heap.size (rgc A9 X.buf.length c9 X.head X.many X.most) rfl rfl _ _ hn (by kernel_rfl) rfl (by simp [Value.oneCell']) ?_))
      obtain ⟨v9, hbW⟩ := new_v1 (r := X) (c := c9) hb ho
      clear hb ho hn
      replace v1 := v1.below hbW
      replace pl := pat_later pl hbW
      replace hn2 := Held.below hn2 hbW
      replace v7 := v7.below hbW
      replace hW := Below.step hW hbW
      clear hbW
      generalize World.setRow _ u.heap.size _ = W5 at *
      generalize u.heap.size = g9 at *
      go_upto_region 6 with (first
        | (guard_target = wpList _ _ _ (Oper.mk (some 53) _ _ _ _ none :: _) _ _; refine wpList_load_row rfl 24 _ rfl w.heap.size rfl _ _ _ _ v1.x Try.underlying24 rfl (by kernel_rfl) ?_)
        | (go_at_call 13; go_loud ((with_reducible refine (pop_c HC.out HB.out.1 c _ v1.p).mono ?_); rintro _ u ⟨v, rfl, ⟨A11, c11, rfl, ho⟩, hb⟩; have hn := (Held.new u 24 rz0).alloc (.cells rf0 33); have hm := Held.new1 u (.cells rz0 24) 33 rf0))
        | (guard_target = wpList _ _ _ (Oper.mk _ (Op.store 24 (.tmp 11) _) _ _ _ none :: _) _ _; refine wpList_store_row rfl 24 _ _ rfl u.heap.size (rgc A11 C.buf.length c11 C.head C.many C.most) rfl rfl _ _ hn (by kernel_rfl) rfl (by simp [Value.oneCell']) ?_; have hm2 := held_row hm (Nat.succ_ne_self u.heap.size) (rgc A11 C.buf.length c11 C.head C.many C.most))
        | (guard_target = wpList _ _ _ (Oper.mk _ (Op.store 33 (.tmp 12) _) _ _ _ none :: _) _ _; refine wpList_store_row rfl 33 _ _ rfl (u.heap.size + 1) (rfc (xa, xb)) rfl rfl _ _ hm2 (by kernel_rfl) rfl (by simp [Value.oneCell']) ?_))
      obtain ⟨v11, r12, hbW⟩ := new_o2 (r := C) (c := c11) (x := (xa, xb)) hb ho
      clear hb ho hn hm hm2
      replace v1 := v1.below hbW
      replace pl := pat_later pl hbW
      replace hn2 := Held.below hn2 hbW
      replace v7 := v7.below hbW
      replace v9 := v9.below hbW
      replace hW := Below.step hW hbW
      clear hbW
      generalize World.setRow _ (u.heap.size + 1) _ = W6 at *
      generalize u.heap.size + 1 = g11r at *
      generalize u.heap.size = g11 at *
      go_upto_region 7 with (first
        | (guard_target = wpList _ _ _ (Oper.mk (some 59) _ _ _ _ none :: _) _ _; refine wpList_load_row rfl 24 _ rfl w.heap.size rfl _ _ _ _ v1.x Try.underlying24 rfl (by kernel_rfl) ?_)
        | (go_at_call 14; go_loud ((with_reducible refine (rpop_c HC.out c _ v1.p).mono ?_); rintro _ u ⟨v, rfl, ⟨A14, c14, rfl, ho⟩, hb⟩; have hn := (Held.new u 24 rz0).alloc (.cells rf0 33); have hm := Held.new1 u (.cells rz0 24) 33 rf0))
        | (guard_target = wpList _ _ _ (Oper.mk _ (Op.store 24 (.tmp 14) _) _ _ _ none :: _) _ _; refine wpList_store_row rfl 24 _ _ rfl u.heap.size (rgc A14 C.buf.length c14 C.head C.many C.most) rfl rfl _ _ hn (by kernel_rfl) rfl (by simp [Value.oneCell']) ?_; have hm2 := held_row hm (Nat.succ_ne_self u.heap.size) (rgc A14 C.buf.length c14 C.head C.many C.most))
        | (guard_target = wpList _ _ _ (Oper.mk _ (Op.store 33 (.tmp 15) _) _ _ _ none :: _) _ _; refine wpList_store_row rfl 33 _ _ rfl (u.heap.size + 1) (rfc (xa, xb)) rfl rfl _ _ hm2 (by kernel_rfl) rfl (by simp [Value.oneCell']) ?_))
      obtain ⟨v14, r15, hbW⟩ := new_v2 (r := C) (c := c14) (x := (xa, xb)) hb ho
      clear hb ho hn hm hm2
      replace v1 := v1.below hbW
      replace pl := pat_later pl hbW
      replace hn2 := Held.below hn2 hbW
      replace v7 := v7.below hbW
      replace v9 := v9.below hbW
      replace r12 := Held.below r12 hbW
      replace v11 := v11.below hbW
      replace hW := Below.step hW hbW
      clear hbW
      generalize World.setRow _ (u.heap.size + 1) _ = W7 at *
      generalize u.heap.size + 1 = g14r at *
      generalize u.heap.size = g14 at *
      go_upto_region 8 with (first
        | (guard_target = wpList _ _ _ (Oper.mk (some 65) _ _ _ _ none :: _) _ _; refine wpList_load_row rfl 24 _ rfl w.heap.size rfl _ _ _ _ v1.x Try.underlying24 rfl (by kernel_rfl) ?_)
        | (go_at_call 15; go_loud ((with_reducible refine (steal_c HS.out HB.out.1 c _ v1.p).mono ?_); rintro _ u ⟨v, rfl, ⟨A17, c17, rfl, ho⟩, hb⟩; have hn := (Held.new u 24 rz0).alloc (.cells rf0 33); have hm := Held.new1 u (.cells rz0 24) 33 rf0))
        | (guard_target = wpList _ _ _ (Oper.mk _ (Op.store 24 (.tmp 17) _) _ _ _ none :: _) _ _; refine wpList_store_row rfl 24 _ _ rfl u.heap.size (rgc A17 S.buf.length c17 S.head S.many S.most) rfl rfl _ _ hn (by kernel_rfl) rfl (by simp [Value.oneCell']) ?_; have hm2 := held_row hm (Nat.succ_ne_self u.heap.size) (rgc A17 S.buf.length c17 S.head S.many S.most))
        | (guard_target = wpList _ _ _ (Oper.mk _ (Op.store 33 (.tmp 18) _) _ _ _ none :: _) _ _; refine wpList_store_row rfl 33 _ _ rfl (u.heap.size + 1) (rfc (ya, yb)) rfl rfl _ _ hm2 (by kernel_rfl) rfl (by simp [Value.oneCell']) ?_))
      obtain ⟨v17, r18, hbW⟩ := new_o2 (r := S) (c := c17) (x := (ya, yb)) hb ho
      clear hb ho hn hm hm2
      replace v1 := v1.below hbW
      replace pl := pat_later pl hbW
      replace hn2 := Held.below hn2 hbW
      replace v7 := v7.below hbW
      replace v9 := v9.below hbW
      replace r12 := Held.below r12 hbW
      replace v11 := v11.below hbW
      replace r15 := Held.below r15 hbW
      replace v14 := v14.below hbW
      replace hW := Below.step hW hbW
      clear hbW
      generalize World.setRow _ (u.heap.size + 1) _ = W8 at *
      generalize u.heap.size + 1 = g17r at *
      generalize u.heap.size = g17 at *
      go_upto_region 9 with (first
        | (guard_target = wpList _ _ _ (Oper.mk (some 71) _ _ _ _ none :: _) _ _; refine wpList_load_row rfl 24 _ rfl w.heap.size rfl _ _ _ _ v1.x Try.underlying24 rfl (by kernel_rfl) ?_)
        | (go_at_call 16; go_loud ((with_reducible refine (rsteal_c HS.out c _ v1.p).mono ?_); rintro _ u ⟨v, rfl, ⟨A20, c20, rfl, ho⟩, hb⟩; have hn := (Held.new u 24 rz0).alloc (.cells rf0 33); have hm := Held.new1 u (.cells rz0 24) 33 rf0))
        | (guard_target = wpList _ _ _ (Oper.mk _ (Op.store 24 (.tmp 20) _) _ _ _ none :: _) _ _; refine wpList_store_row rfl 24 _ _ rfl u.heap.size (rgc A20 S.buf.length c20 S.head S.many S.most) rfl rfl _ _ hn (by kernel_rfl) rfl (by simp [Value.oneCell']) ?_; have hm2 := held_row hm (Nat.succ_ne_self u.heap.size) (rgc A20 S.buf.length c20 S.head S.many S.most))
        | (guard_target = wpList _ _ _ (Oper.mk _ (Op.store 33 (.tmp 21) _) _ _ _ none :: _) _ _; refine wpList_store_row rfl 33 _ _ rfl (u.heap.size + 1) (rfc (ya, yb)) rfl rfl _ _ hm2 (by kernel_rfl) rfl (by simp [Value.oneCell']) ?_))
      obtain ⟨v20, r21, hbW⟩ := new_v2 (r := S) (c := c20) (x := (ya, yb)) hb ho
      clear hb ho hn hm hm2
      replace v1 := v1.below hbW
      replace pl := pat_later pl hbW
      replace hn2 := Held.below hn2 hbW
      replace v7 := v7.below hbW
      replace v9 := v9.below hbW
      replace r12 := Held.below r12 hbW
      replace v11 := v11.below hbW
      replace r15 := Held.below r15 hbW
      replace v14 := v14.below hbW
      replace r18 := Held.below r18 hbW
      replace v17 := v17.below hbW
      replace hW := Below.step hW hbW
      clear hbW
      generalize World.setRow _ (u.heap.size + 1) _ = W9 at *
      generalize u.heap.size + 1 = g20r at *
      generalize u.heap.size = g20 at *
      go_upto_region 10 with (first
        | (guard_target = wpList _ _ _ (Oper.mk (some 77) _ _ _ _ none :: _) _ _; refine wpList_load_row rfl 24 _ rfl w.heap.size rfl _ _ _ _ v1.x Try.underlying24 rfl (by kernel_rfl) ?_)
        | (go_at_call 17; go_loud ((with_reducible refine (half_c HD.out HN.out.2.1 HB.out.1 c _ v1.p).mono ?_); rintro _ u ⟨v, A24, c24, rfl, ⟨A23, c23, rfl, ho⟩, hol, hb⟩; have hn := Held.new u 24 rz0))
        | (guard_target = wpList _ _ _ (Oper.mk _ (Op.store 24 (.tmp 23) _) _ _ _ none :: _) _ _; refine wpList_store_row rfl 24 _ _ rfl u.heap.size (rgc A23 D.buf.length c23 D.head D.many D.most) rfl rfl _ _ hn (by kernel_rfl) rfl (by simp [Value.oneCell']) ?_))
      obtain ⟨v23, hbW⟩ := new_o1 (r := D) (c := c23) hb ho
      have w24 := own_later (r_mono hol (Nat.zero_le _) : OwnR u 0 (.slice A24 nU c24) U) (below_new1 (Below.refl _ u) rz0 (rgc A23 D.buf.length c23 D.head D.many D.most) 24)
      clear hol
      clear hb ho hn
      replace v1 := v1.below hbW
      replace pl := pat_later pl hbW
      replace hn2 := Held.below hn2 hbW
      replace v7 := v7.below hbW
      replace v9 := v9.below hbW
      replace r12 := Held.below r12 hbW
      replace v11 := v11.below hbW
      replace r15 := Held.below r15 hbW
      replace v14 := v14.below hbW
      replace r18 := Held.below r18 hbW
      replace v17 := v17.below hbW
      replace r21 := Held.below r21 hbW
      replace v20 := v20.below hbW
      replace hW := Below.step hW hbW
      clear hbW
      generalize World.setRow _ u.heap.size _ = W10 at *
      generalize u.heap.size = g23 at *
      go_upto_region 11 with (first
        | (guard_target = wpList _ _ _ (Oper.mk (some 82) _ _ _ _ none :: _) _ _; refine wpList_load_row rfl 24 _ rfl w.heap.size rfl _ _ _ _ v1.x Try.underlying24 rfl (by kernel_rfl) ?_)
        | (go_at_call 18; go_loud ((with_reducible refine (rhalf_c HD.out HN.out.2.1 HLS.out c _ v1.p).mono ?_); rintro _ u ⟨v, A26, c26, rfl, ⟨A25, c25, rfl, ho⟩, hol, hb⟩; have hn := Held.new u 24 rz0))
        | (guard_target = wpList _ _ _ (Oper.mk _ (Op.store 24 (.tmp 25) _) _ _ _ none :: _) _ _; refine wpList_store_row rfl 24 _ _ rfl u.heap.size (rgc A25 D.buf.length c25 D.head D.many D.most) rfl rfl _ _ hn (by kernel_rfl) rfl (by simp [Value.oneCell']) ?_))
      obtain ⟨v25, hbW⟩ := new_v1 (r := D) (c := c25) hb ho
      have w26 := own_later (r_mono hol (Nat.zero_le _) : OwnR u 0 (.slice A26 nU c26) U) (below_new1 (Below.refl _ u) rz0 (rgc A25 D.buf.length c25 D.head D.many D.most) 24)
      clear hol
      clear hb ho hn
      replace v1 := v1.below hbW
      replace pl := pat_later pl hbW
      replace hn2 := Held.below hn2 hbW
      replace v7 := v7.below hbW
      replace v9 := v9.below hbW
      replace r12 := Held.below r12 hbW
      replace v11 := v11.below hbW
      replace r15 := Held.below r15 hbW
      replace v14 := v14.below hbW
      replace r18 := Held.below r18 hbW
      replace v17 := v17.below hbW
      replace r21 := Held.below r21 hbW
      replace v20 := v20.below hbW
      replace v23 := v23.below hbW
      replace w24 := own_later w24 hbW
      replace hW := Below.step hW hbW
      clear hbW
      generalize World.setRow _ u.heap.size _ = W11 at *
      generalize u.heap.size = g25 at *
      have n0 := hn2.cell 0
      have n1 := hn2.cell 1
      simp at n0 n1
      go_upto_region 12 with (first
        | (go_at_call 19; go_loud ((with_reducible refine (new_c HNW.out _).mono ?_); rintro _ u ⟨v, rfl, ⟨A27, c27, rfl, ho⟩, hb⟩; have hn := Held.new u 24 rz0))
        | (guard_target = wpList _ _ _ (Oper.mk _ (Op.store 24 (.tmp 27) _) _ _ _ none :: _) _ _; refine wpList_store_row rfl 24 _ _ rfl u.heap.size (rgc A27 N.buf.length c27 N.head N.many N.most) rfl rfl _ _ hn (by kernel_rfl) rfl (by simp [Value.oneCell']) ?_))
      obtain ⟨v27, hbW⟩ := new_o1 (r := N) (c := c27) hb ho
      clear hb ho hn
      replace v1 := v1.below hbW
      replace pl := pat_later pl hbW
      replace hn2 := Held.below hn2 hbW
      replace v7 := v7.below hbW
      replace v9 := v9.below hbW
      replace r12 := Held.below r12 hbW
      replace v11 := v11.below hbW
      replace r15 := Held.below r15 hbW
      replace v14 := v14.below hbW
      replace r18 := Held.below r18 hbW
      replace v17 := v17.below hbW
      replace r21 := Held.below r21 hbW
      replace v20 := v20.below hbW
      replace v23 := v23.below hbW
      replace w24 := own_later w24 hbW
      replace v25 := v25.below hbW
      replace w26 := own_later w26 hbW
      replace hW := Below.step hW hbW
      clear hbW
      generalize World.setRow _ u.heap.size _ = W12 at *
      generalize u.heap.size = g27 at *
      clear n0 n1
      have n0 := hn2.cell 0
      have n1 := hn2.cell 1
      simp at n0 n1
      go_upto_region 13 with (first
        | (go_at_call 20; go_loud ((with_reducible refine (rnew_c HNW.out _).mono ?_); rintro _ u ⟨v, rfl, ⟨A29, c29, rfl, ho⟩, hb⟩; have hn := Held.new u 24 rz0))
        | (guard_target = wpList _ _ _ (Oper.mk _ (Op.store 24 (.tmp 29) _) _ _ _ none :: _) _ _; refine wpList_store_row rfl 24 _ _ rfl u.heap.size (rgc A29 N.buf.length c29 N.head N.many N.most) rfl rfl _ _ hn (by kernel_rfl) rfl (by simp [Value.oneCell']) ?_))
      obtain ⟨v29, hbW⟩ := new_o1 (r := N) (c := c29) hb ho
      clear hb ho hn
      replace v1 := v1.below hbW
      replace pl := pat_later pl hbW
      replace hn2 := Held.below hn2 hbW
      replace v7 := v7.below hbW
      replace v9 := v9.below hbW
      replace r12 := Held.below r12 hbW
      replace v11 := v11.below hbW
      replace r15 := Held.below r15 hbW
      replace v14 := v14.below hbW
      replace r18 := Held.below r18 hbW
      replace v17 := v17.below hbW
      replace r21 := Held.below r21 hbW
      replace v20 := v20.below hbW
      replace v23 := v23.below hbW
      replace w24 := own_later w24 hbW
      replace v25 := v25.below hbW
      replace w26 := own_later w26 hbW
      replace v27 := v27.below hbW
      replace hW := Below.step hW hbW
      clear hbW
      generalize World.setRow _ u.heap.size _ = W13 at *
      generalize u.heap.size = g29 at *
      clear n0 n1 hn2
      replace r12 : Held W13 g11r 33 #[.int .i64 xa, .int .i64 xb] := r12
      replace r15 : Held W13 g14r 33 #[.int .i64 xa, .int .i64 xb] := r15
      replace r18 : Held W13 g17r 33 #[.int .i64 ya, .int .i64 yb] := r18
      replace r21 : Held W13 g20r 33 #[.int .i64 ya, .int .i64 yb] := r21
      have hdr := (Below.refl W13.heap.size W13).drew
      replace v1 := v1.below hdr
      replace pl := pat_later pl hdr
      replace v7 := v7.below hdr
      replace v9 := v9.below hdr
      replace r12 := Held.below r12 hdr
      replace v11 := v11.below hdr
      replace r15 := Held.below r15 hdr
      replace v14 := v14.below hdr
      replace r18 := Held.below r18 hdr
      replace v17 := v17.below hdr
      replace r21 := Held.below r21 hdr
      replace v20 := v20.below hdr
      replace v23 := v23.below hdr
      replace w24 := own_later w24 hdr
      replace v25 := v25.below hdr
      replace w26 := own_later w26 hdr
      replace v27 := v27.below hdr
      replace v29 := v29.below hdr
      replace hW := Below.step hW hdr
      clear hdr
      refine wp_region_held_drew (S := fun W => Below W13.drew.heap.size W13.drew W) (by kernel_rfl) (Below.refl _ _) (fun hS => ?_)
      generalize W13.drew = W14 at *
      show wpAnyH _ _ _ _ _ 76 #[false, false, false, false, false, false, false, false, false, false, false, false, false, false, false, false, false, false, false, false, false, false, false, false, false, false, false, false, false, false, false, false, false, false, false, false, false, false, false, false, false, false, false, false, false, false, false, false, false, false, false, false, false, false, false, false, false, false, false, false, false, false, false, false, false, false, false, false, false, false, false, false, false, false, false, false] _ _
      refine wpAnyH_begin (by kernel_rfl) (fun HNS => ?_)
      refine wpAnyH_ready (rs := [0]) (by kernel_rfl) (by simp) ?_
      refine (AllReadyH.cons rfl (fun K hK => ?_) AllReadyH.nil)
      · rw [if_pos (by kernel_rfl)]
        go_simp
        go_at_call 10
        (with_reducible refine (CF _).mono ?_)
        rintro _ u1 ⟨rfl, hb1⟩
        replace hS := Below.step hS hb1
        (repeat (first | go_skip | go_guarded | go_step | go_upon))
        refine hK.out _ _ hS (fun _ => ?_)
        clear hK K
        (try simp only [Act.put, List.getElem_toArray, List.getElem_cons_succ, List.getElem_cons_zero, List.setIfInBounds_toArray, List.set_cons_zero, List.set_cons_succ])
        refine wpAnyH_takeS HNS (i := 1) (v := .bool true) rfl (by kernel_rfl) (by kernel_rfl) (fun _ _ _ h => h) (Or.inl ⟨by kernel_rfl, fun W hW => ?_⟩) hS ?_
        · go_simp
        simp only [Act.put, List.getElem_toArray, List.getElem_cons_succ, List.getElem_cons_zero, List.setIfInBounds_toArray, List.set_cons_zero, List.set_cons_succ]
        refine wpAnyH_takeS HNS (i := 2) (v := .agg (rgc A7 X.buf.length c7 X.head X.many X.most)) rfl (by kernel_rfl) (by kernel_rfl) (fun _ _ _ h => h) (Or.inl ⟨by kernel_rfl, fun W hW => ?_⟩) hS ?_
        · (have hz := Held.below v7.x hW; have z0 := hz.cell 0; have z1 := hz.cell 1; have z2 := hz.cell 2; have z3 := hz.cell 3; simp at z0 z1 z2 z3; go_simp)
        simp only [Act.put, List.getElem_toArray, List.getElem_cons_succ, List.getElem_cons_zero, List.setIfInBounds_toArray, List.set_cons_zero, List.set_cons_succ]
        refine wpAnyH_takeS HNS (i := 3) (v := .agg (rgc A9 X.buf.length c9 X.head X.many X.most)) rfl (by kernel_rfl) (by kernel_rfl) (fun _ _ _ h => h) (Or.inl ⟨by kernel_rfl, fun W hW => ?_⟩) hS ?_
        · (have hz := Held.below v9.x hW; have z0 := hz.cell 0; have z1 := hz.cell 1; have z2 := hz.cell 2; have z3 := hz.cell 3; simp at z0 z1 z2 z3; go_simp)
        simp only [Act.put, List.getElem_toArray, List.getElem_cons_succ, List.getElem_cons_zero, List.setIfInBounds_toArray, List.set_cons_zero, List.set_cons_succ]
        refine wpAnyH_ready (rs := [4]) (by kernel_rfl) (by simp) ?_
        refine (AllReadyH.cons rfl (fun K hK => ?_) AllReadyH.nil)
        · rw [if_pos (by kernel_rfl)]
          go_simp
          go_at_call 21
          (with_reducible refine (rsame_c (R := true) (by simp) HB.out.2.1 HB.out.2.1 _ _ _ (v7.read.below hS).p (v9.below hS).p).mono ?_)
          rintro _ u2 ⟨rfl, hb2⟩
          replace hS := Below.step hS hb2
          (repeat (first | go_skip | go_guarded | go_step | go_upon))
          refine hK.out _ _ hS (fun _ => ?_)
          clear hK K
          (try simp only [Act.put, List.getElem_toArray, List.getElem_cons_succ, List.getElem_cons_zero, List.setIfInBounds_toArray, List.set_cons_zero, List.set_cons_succ])
          refine wpAnyH_takeS HNS (i := 5) (v := .bool true) rfl (by kernel_rfl) (by kernel_rfl) (fun _ _ _ h => h) (Or.inl ⟨by kernel_rfl, fun W hW => ?_⟩) hS ?_
          · go_simp
          simp only [Act.put, List.getElem_toArray, List.getElem_cons_succ, List.getElem_cons_zero, List.setIfInBounds_toArray, List.set_cons_zero, List.set_cons_succ]
          refine wpAnyH_takeS HNS (i := 6) (v := .bool true) rfl (by kernel_rfl) (by kernel_rfl) (fun _ _ _ h => h) (Or.inl ⟨by kernel_rfl, fun W hW => ?_⟩) hS ?_
          · go_simp
          simp only [Act.put, List.getElem_toArray, List.getElem_cons_succ, List.getElem_cons_zero, List.setIfInBounds_toArray, List.set_cons_zero, List.set_cons_succ]
          refine wpAnyH_takeS HNS (i := 7) (v := .int .i64 eX) rfl (by kernel_rfl) (by kernel_rfl) (fun _ _ _ h => h) (Or.inl ⟨by kernel_rfl, fun W hW => ?_⟩) hS ?_
          · go_simp
          simp only [Act.put, List.getElem_toArray, List.getElem_cons_succ, List.getElem_cons_zero, List.setIfInBounds_toArray, List.set_cons_zero, List.set_cons_succ]
          refine wpAnyH_takeS HNS (i := 8) (v := .int .i64 eX) rfl (by kernel_rfl) (by kernel_rfl) (fun _ _ _ h => h) (Or.inl ⟨by kernel_rfl, fun W hW => ?_⟩) hS ?_
          · go_simp
          simp only [Act.put, List.getElem_toArray, List.getElem_cons_succ, List.getElem_cons_zero, List.setIfInBounds_toArray, List.set_cons_zero, List.set_cons_succ]
          refine wpAnyH_takeS HNS (i := 9) (v := .bool true) rfl (by kernel_rfl) (by kernel_rfl) (fun _ _ _ h => h) (Or.inl ⟨by kernel_rfl, fun W hW => ?_⟩) hS ?_
          · go_simp
          simp only [Act.put, List.getElem_toArray, List.getElem_cons_succ, List.getElem_cons_zero, List.setIfInBounds_toArray, List.set_cons_zero, List.set_cons_succ]
          refine wpAnyH_takeS HNS (i := 10) (v := .bool true) rfl (by kernel_rfl) (by kernel_rfl) (fun _ _ _ h => h) (Or.inl ⟨by kernel_rfl, fun W hW => ?_⟩) hS ?_
          · go_simp
          simp only [Act.put, List.getElem_toArray, List.getElem_cons_succ, List.getElem_cons_zero, List.setIfInBounds_toArray, List.set_cons_zero, List.set_cons_succ]
          refine wpAnyH_takeS HNS (i := 11) (v := .bool true) rfl (by kernel_rfl) (by kernel_rfl) (fun _ _ _ h => h) (Or.inl ⟨by kernel_rfl, fun W hW => ?_⟩) hS ?_
          · go_simp
          simp only [Act.put, List.getElem_toArray, List.getElem_cons_succ, List.getElem_cons_zero, List.setIfInBounds_toArray, List.set_cons_zero, List.set_cons_succ]
          refine wpAnyH_takeS HNS (i := 12) (v := .agg (rgc A11 C.buf.length c11 C.head C.many C.most)) rfl (by kernel_rfl) (by kernel_rfl) (fun _ _ _ h => h) (Or.inl ⟨by kernel_rfl, fun W hW => ?_⟩) hS ?_
          · (have hz := Held.below v11.x hW; have z0 := hz.cell 0; have z1 := hz.cell 1; have z2 := hz.cell 2; have z3 := hz.cell 3; simp at z0 z1 z2 z3; go_simp)
          simp only [Act.put, List.getElem_toArray, List.getElem_cons_succ, List.getElem_cons_zero, List.setIfInBounds_toArray, List.set_cons_zero, List.set_cons_succ]
          refine wpAnyH_takeS HNS (i := 13) (v := .agg (rgc A14 C.buf.length c14 C.head C.many C.most)) rfl (by kernel_rfl) (by kernel_rfl) (fun _ _ _ h => h) (Or.inl ⟨by kernel_rfl, fun W hW => ?_⟩) hS ?_
          · (have hz := Held.below v14.x hW; have z0 := hz.cell 0; have z1 := hz.cell 1; have z2 := hz.cell 2; have z3 := hz.cell 3; simp at z0 z1 z2 z3; go_simp)
          simp only [Act.put, List.getElem_toArray, List.getElem_cons_succ, List.getElem_cons_zero, List.setIfInBounds_toArray, List.set_cons_zero, List.set_cons_succ]
          refine wpAnyH_ready (rs := [14]) (by kernel_rfl) (by simp) ?_
          refine (AllReadyH.cons rfl (fun K hK => ?_) AllReadyH.nil)
          · rw [if_pos (by kernel_rfl)]
            go_simp
            go_at_call 21
            (with_reducible refine (rsame_c (R := true) (by simp) HB.out.2.2.1 HB.out.2.2.1 _ _ _ (v11.read.below hS).p (v14.below hS).p).mono ?_)
            rintro _ u3 ⟨rfl, hb3⟩
            replace hS := Below.step hS hb3
            (repeat (first | go_skip | go_guarded | go_step | go_upon))
            refine hK.out _ _ hS (fun _ => ?_)
            clear hK K
            (try simp only [Act.put, List.getElem_toArray, List.getElem_cons_succ, List.getElem_cons_zero, List.setIfInBounds_toArray, List.set_cons_zero, List.set_cons_succ])
            refine wpAnyH_takeS HNS (i := 15) (v := .bool true) rfl (by kernel_rfl) (by kernel_rfl) (fun _ _ _ h => h) (Or.inl ⟨by kernel_rfl, fun W hW => ?_⟩) hS ?_
            · go_simp
            simp only [Act.put, List.getElem_toArray, List.getElem_cons_succ, List.getElem_cons_zero, List.setIfInBounds_toArray, List.set_cons_zero, List.set_cons_succ]
            refine wpAnyH_takeS HNS (i := 16) (v := .bool true) rfl (by kernel_rfl) (by kernel_rfl) (fun _ _ _ h => h) (Or.inl ⟨by kernel_rfl, fun W hW => ?_⟩) hS ?_
            · go_simp
            simp only [Act.put, List.getElem_toArray, List.getElem_cons_succ, List.getElem_cons_zero, List.setIfInBounds_toArray, List.set_cons_zero, List.set_cons_succ]
            refine wpAnyH_takeS HNS (i := 17) (v := .agg #[.int .i64 xa, .int .i64 xb]) rfl (by kernel_rfl) (by kernel_rfl) (fun _ _ _ h => h) (Or.inl ⟨by kernel_rfl, fun W hW => ?_⟩) hS ?_
            · (have hz := Held.below r12 hW; have z0 := hz.cell 0; have z1 := hz.cell 1; simp at z0 z1; go_simp)
            simp only [Act.put, List.getElem_toArray, List.getElem_cons_succ, List.getElem_cons_zero, List.setIfInBounds_toArray, List.set_cons_zero, List.set_cons_succ]
            refine wpAnyH_takeS HNS (i := 18) (v := .agg #[.int .i64 xa, .int .i64 xb]) rfl (by kernel_rfl) (by kernel_rfl) (fun _ _ _ h => h) (Or.inl ⟨by kernel_rfl, fun W hW => ?_⟩) hS ?_
            · (have hz := Held.below r15 hW; have z0 := hz.cell 0; have z1 := hz.cell 1; simp at z0 z1; go_simp)
            simp only [Act.put, List.getElem_toArray, List.getElem_cons_succ, List.getElem_cons_zero, List.setIfInBounds_toArray, List.set_cons_zero, List.set_cons_succ]
            refine wpAnyH_takeS HNS (i := 19) (v := .bool true) rfl (by kernel_rfl) (by kernel_rfl) (fun _ _ _ h => h) (Or.inl ⟨by kernel_rfl, fun W hW => ?_⟩) hS ?_
            · go_simp
            simp only [Act.put, List.getElem_toArray, List.getElem_cons_succ, List.getElem_cons_zero, List.setIfInBounds_toArray, List.set_cons_zero, List.set_cons_succ]
            refine wpAnyH_takeS HNS (i := 20) (v := .bool true) rfl (by kernel_rfl) (by kernel_rfl) (fun _ _ _ h => h) (Or.inl ⟨by kernel_rfl, fun W hW => ?_⟩) hS ?_
            · go_simp
            simp only [Act.put, List.getElem_toArray, List.getElem_cons_succ, List.getElem_cons_zero, List.setIfInBounds_toArray, List.set_cons_zero, List.set_cons_succ]
            refine wpAnyH_takeS HNS (i := 21) (v := .bool true) rfl (by kernel_rfl) (by kernel_rfl) (fun _ _ _ h => h) (Or.inl ⟨by kernel_rfl, fun W hW => ?_⟩) hS ?_
            · go_simp
            simp only [Act.put, List.getElem_toArray, List.getElem_cons_succ, List.getElem_cons_zero, List.setIfInBounds_toArray, List.set_cons_zero, List.set_cons_succ]
            refine wpAnyH_takeS HNS (i := 22) (v := .bool bC) rfl (by kernel_rfl) (by kernel_rfl) (fun _ _ _ h => h) (Or.inl ⟨by kernel_rfl, fun W hW => ?_⟩) hS ?_
            · go_simp
            simp only [Act.put, List.getElem_toArray, List.getElem_cons_succ, List.getElem_cons_zero, List.setIfInBounds_toArray, List.set_cons_zero, List.set_cons_succ]
            refine wpAnyH_takeS HNS (i := 23) (v := .bool bC) rfl (by kernel_rfl) (by kernel_rfl) (fun _ _ _ h => h) (Or.inl ⟨by kernel_rfl, fun W hW => ?_⟩) hS ?_
            · go_simp
            simp only [Act.put, List.getElem_toArray, List.getElem_cons_succ, List.getElem_cons_zero, List.setIfInBounds_toArray, List.set_cons_zero, List.set_cons_succ]
            refine wpAnyH_takeS HNS (i := 24) (v := .bool true) rfl (by kernel_rfl) (by kernel_rfl) (fun _ _ _ h => h) (Or.inl ⟨by kernel_rfl, fun W hW => ?_⟩) hS ?_
            · go_simp
            simp only [Act.put, List.getElem_toArray, List.getElem_cons_succ, List.getElem_cons_zero, List.setIfInBounds_toArray, List.set_cons_zero, List.set_cons_succ]
            refine wpAnyH_takeS HNS (i := 25) (v := .bool true) rfl (by kernel_rfl) (by kernel_rfl) (fun _ _ _ h => h) (Or.inl ⟨by kernel_rfl, fun W hW => ?_⟩) hS ?_
            · go_simp
            simp only [Act.put, List.getElem_toArray, List.getElem_cons_succ, List.getElem_cons_zero, List.setIfInBounds_toArray, List.set_cons_zero, List.set_cons_succ]
            refine wpAnyH_takeS HNS (i := 26) (v := .bool true) rfl (by kernel_rfl) (by kernel_rfl) (fun _ _ _ h => h) (Or.inl ⟨by kernel_rfl, fun W hW => ?_⟩) hS ?_
            · go_simp
            simp only [Act.put, List.getElem_toArray, List.getElem_cons_succ, List.getElem_cons_zero, List.setIfInBounds_toArray, List.set_cons_zero, List.set_cons_succ]
            refine wpAnyH_takeS HNS (i := 27) (v := .agg (rgc A17 S.buf.length c17 S.head S.many S.most)) rfl (by kernel_rfl) (by kernel_rfl) (fun _ _ _ h => h) (Or.inl ⟨by kernel_rfl, fun W hW => ?_⟩) hS ?_
            · (have hz := Held.below v17.x hW; have z0 := hz.cell 0; have z1 := hz.cell 1; have z2 := hz.cell 2; have z3 := hz.cell 3; simp at z0 z1 z2 z3; go_simp)
            simp only [Act.put, List.getElem_toArray, List.getElem_cons_succ, List.getElem_cons_zero, List.setIfInBounds_toArray, List.set_cons_zero, List.set_cons_succ]
            refine wpAnyH_takeS HNS (i := 28) (v := .agg (rgc A20 S.buf.length c20 S.head S.many S.most)) rfl (by kernel_rfl) (by kernel_rfl) (fun _ _ _ h => h) (Or.inl ⟨by kernel_rfl, fun W hW => ?_⟩) hS ?_
            · (have hz := Held.below v20.x hW; have z0 := hz.cell 0; have z1 := hz.cell 1; have z2 := hz.cell 2; have z3 := hz.cell 3; simp at z0 z1 z2 z3; go_simp)
            simp only [Act.put, List.getElem_toArray, List.getElem_cons_succ, List.getElem_cons_zero, List.setIfInBounds_toArray, List.set_cons_zero, List.set_cons_succ]
            refine wpAnyH_ready (rs := [29]) (by kernel_rfl) (by simp) ?_
            refine (AllReadyH.cons rfl (fun K hK => ?_) AllReadyH.nil)
            · rw [if_pos (by kernel_rfl)]
              go_simp
              go_at_call 21
              (with_reducible refine (rsame_c (R := true) (by simp) HB.out.2.2.2.1 HB.out.2.2.2.1 _ _ _ (v17.read.below hS).p (v20.below hS).p).mono ?_)
              rintro _ u4 ⟨rfl, hb4⟩
              replace hS := Below.step hS hb4
              (repeat (first | go_skip | go_guarded | go_step | go_upon))
              refine hK.out _ _ hS (fun _ => ?_)
              clear hK K
              (try simp only [Act.put, List.getElem_toArray, List.getElem_cons_succ, List.getElem_cons_zero, List.setIfInBounds_toArray, List.set_cons_zero, List.set_cons_succ])
              refine wpAnyH_takeS HNS (i := 30) (v := .bool true) rfl (by kernel_rfl) (by kernel_rfl) (fun _ _ _ h => h) (Or.inl ⟨by kernel_rfl, fun W hW => ?_⟩) hS ?_
              · go_simp
              simp only [Act.put, List.getElem_toArray, List.getElem_cons_succ, List.getElem_cons_zero, List.setIfInBounds_toArray, List.set_cons_zero, List.set_cons_succ]
              refine wpAnyH_takeS HNS (i := 31) (v := .bool true) rfl (by kernel_rfl) (by kernel_rfl) (fun _ _ _ h => h) (Or.inl ⟨by kernel_rfl, fun W hW => ?_⟩) hS ?_
              · go_simp
              simp only [Act.put, List.getElem_toArray, List.getElem_cons_succ, List.getElem_cons_zero, List.setIfInBounds_toArray, List.set_cons_zero, List.set_cons_succ]
              refine wpAnyH_takeS HNS (i := 32) (v := .agg #[.int .i64 ya, .int .i64 yb]) rfl (by kernel_rfl) (by kernel_rfl) (fun _ _ _ h => h) (Or.inl ⟨by kernel_rfl, fun W hW => ?_⟩) hS ?_
              · (have hz := Held.below r18 hW; have z0 := hz.cell 0; have z1 := hz.cell 1; simp at z0 z1; go_simp)
              simp only [Act.put, List.getElem_toArray, List.getElem_cons_succ, List.getElem_cons_zero, List.setIfInBounds_toArray, List.set_cons_zero, List.set_cons_succ]
              refine wpAnyH_takeS HNS (i := 33) (v := .agg #[.int .i64 ya, .int .i64 yb]) rfl (by kernel_rfl) (by kernel_rfl) (fun _ _ _ h => h) (Or.inl ⟨by kernel_rfl, fun W hW => ?_⟩) hS ?_
              · (have hz := Held.below r21 hW; have z0 := hz.cell 0; have z1 := hz.cell 1; simp at z0 z1; go_simp)
              simp only [Act.put, List.getElem_toArray, List.getElem_cons_succ, List.getElem_cons_zero, List.setIfInBounds_toArray, List.set_cons_zero, List.set_cons_succ]
              refine wpAnyH_takeS HNS (i := 34) (v := .bool true) rfl (by kernel_rfl) (by kernel_rfl) (fun _ _ _ h => h) (Or.inl ⟨by kernel_rfl, fun W hW => ?_⟩) hS ?_
              · go_simp
              simp only [Act.put, List.getElem_toArray, List.getElem_cons_succ, List.getElem_cons_zero, List.setIfInBounds_toArray, List.set_cons_zero, List.set_cons_succ]
              refine wpAnyH_takeS HNS (i := 35) (v := .bool true) rfl (by kernel_rfl) (by kernel_rfl) (fun _ _ _ h => h) (Or.inl ⟨by kernel_rfl, fun W hW => ?_⟩) hS ?_
              · go_simp
              simp only [Act.put, List.getElem_toArray, List.getElem_cons_succ, List.getElem_cons_zero, List.setIfInBounds_toArray, List.set_cons_zero, List.set_cons_succ]
              refine wpAnyH_takeS HNS (i := 36) (v := .bool true) rfl (by kernel_rfl) (by kernel_rfl) (fun _ _ _ h => h) (Or.inl ⟨by kernel_rfl, fun W hW => ?_⟩) hS ?_
              · go_simp
              simp only [Act.put, List.getElem_toArray, List.getElem_cons_succ, List.getElem_cons_zero, List.setIfInBounds_toArray, List.set_cons_zero, List.set_cons_succ]
              refine wpAnyH_takeS HNS (i := 37) (v := .bool bS2) rfl (by kernel_rfl) (by kernel_rfl) (fun _ _ _ h => h) (Or.inl ⟨by kernel_rfl, fun W hW => ?_⟩) hS ?_
              · go_simp
              simp only [Act.put, List.getElem_toArray, List.getElem_cons_succ, List.getElem_cons_zero, List.setIfInBounds_toArray, List.set_cons_zero, List.set_cons_succ]
              refine wpAnyH_takeS HNS (i := 38) (v := .bool bS2) rfl (by kernel_rfl) (by kernel_rfl) (fun _ _ _ h => h) (Or.inl ⟨by kernel_rfl, fun W hW => ?_⟩) hS ?_
              · go_simp
              simp only [Act.put, List.getElem_toArray, List.getElem_cons_succ, List.getElem_cons_zero, List.setIfInBounds_toArray, List.set_cons_zero, List.set_cons_succ]
              refine wpAnyH_takeS HNS (i := 39) (v := .bool true) rfl (by kernel_rfl) (by kernel_rfl) (fun _ _ _ h => h) (Or.inl ⟨by kernel_rfl, fun W hW => ?_⟩) hS ?_
              · go_simp
              simp only [Act.put, List.getElem_toArray, List.getElem_cons_succ, List.getElem_cons_zero, List.setIfInBounds_toArray, List.set_cons_zero, List.set_cons_succ]
              refine wpAnyH_takeS HNS (i := 40) (v := .bool true) rfl (by kernel_rfl) (by kernel_rfl) (fun _ _ _ h => h) (Or.inl ⟨by kernel_rfl, fun W hW => ?_⟩) hS ?_
              · go_simp
              simp only [Act.put, List.getElem_toArray, List.getElem_cons_succ, List.getElem_cons_zero, List.setIfInBounds_toArray, List.set_cons_zero, List.set_cons_succ]
              refine wpAnyH_takeS HNS (i := 41) (v := .bool true) rfl (by kernel_rfl) (by kernel_rfl) (fun _ _ _ h => h) (Or.inl ⟨by kernel_rfl, fun W hW => ?_⟩) hS ?_
              · go_simp
              simp only [Act.put, List.getElem_toArray, List.getElem_cons_succ, List.getElem_cons_zero, List.setIfInBounds_toArray, List.set_cons_zero, List.set_cons_succ]
              refine wpAnyH_takeS HNS (i := 42) (v := .agg (rgc A23 D.buf.length c23 D.head D.many D.most)) rfl (by kernel_rfl) (by kernel_rfl) (fun _ _ _ h => h) (Or.inl ⟨by kernel_rfl, fun W hW => ?_⟩) hS ?_
              · (have hz := Held.below v23.x hW; have z0 := hz.cell 0; have z1 := hz.cell 1; have z2 := hz.cell 2; have z3 := hz.cell 3; simp at z0 z1 z2 z3; go_simp)
              simp only [Act.put, List.getElem_toArray, List.getElem_cons_succ, List.getElem_cons_zero, List.setIfInBounds_toArray, List.set_cons_zero, List.set_cons_succ]
              refine wpAnyH_takeS HNS (i := 43) (v := .agg (rgc A25 D.buf.length c25 D.head D.many D.most)) rfl (by kernel_rfl) (by kernel_rfl) (fun _ _ _ h => h) (Or.inl ⟨by kernel_rfl, fun W hW => ?_⟩) hS ?_
              · (have hz := Held.below v25.x hW; have z0 := hz.cell 0; have z1 := hz.cell 1; have z2 := hz.cell 2; have z3 := hz.cell 3; simp at z0 z1 z2 z3; go_simp)
              simp only [Act.put, List.getElem_toArray, List.getElem_cons_succ, List.getElem_cons_zero, List.setIfInBounds_toArray, List.set_cons_zero, List.set_cons_succ]
              refine wpAnyH_ready (rs := [44]) (by kernel_rfl) (by simp) ?_
              refine (AllReadyH.cons rfl (fun K hK => ?_) AllReadyH.nil)
              · rw [if_pos (by kernel_rfl)]
                go_simp
                go_at_call 21
                (with_reducible refine (rsame_c (R := true) (by simp) HB.out.2.2.2.2.1 HB.out.2.2.2.2.1 _ _ _ (v23.read.below hS).p (v25.below hS).p).mono ?_)
                rintro _ u5 ⟨rfl, hb5⟩
                replace hS := Below.step hS hb5
                (repeat (first | go_skip | go_guarded | go_step | go_upon))
                refine hK.out _ _ hS (fun _ => ?_)
                clear hK K
                (try simp only [Act.put, List.getElem_toArray, List.getElem_cons_succ, List.getElem_cons_zero, List.setIfInBounds_toArray, List.set_cons_zero, List.set_cons_succ])
                refine wpAnyH_takeS HNS (i := 45) (v := .bool true) rfl (by kernel_rfl) (by kernel_rfl) (fun _ _ _ h => h) (Or.inl ⟨by kernel_rfl, fun W hW => ?_⟩) hS ?_
                · go_simp
                simp only [Act.put, List.getElem_toArray, List.getElem_cons_succ, List.getElem_cons_zero, List.setIfInBounds_toArray, List.set_cons_zero, List.set_cons_succ]
                refine wpAnyH_takeS HNS (i := 46) (v := .bool true) rfl (by kernel_rfl) (by kernel_rfl) (fun _ _ _ h => h) (Or.inl ⟨by kernel_rfl, fun W hW => ?_⟩) hS ?_
                · go_simp
                simp only [Act.put, List.getElem_toArray, List.getElem_cons_succ, List.getElem_cons_zero, List.setIfInBounds_toArray, List.set_cons_zero, List.set_cons_succ]
                refine wpAnyH_takeS HNS (i := 47) (v := .slice A24 nU c24) rfl (by kernel_rfl) (by kernel_rfl) (fun _ _ _ h => h) (Or.inl ⟨by kernel_rfl, fun W hW => ?_⟩) hS ?_
                · go_simp
                simp only [Act.put, List.getElem_toArray, List.getElem_cons_succ, List.getElem_cons_zero, List.setIfInBounds_toArray, List.set_cons_zero, List.set_cons_succ]
                refine wpAnyH_takeS HNS (i := 48) (v := .slice A26 nU c26) rfl (by kernel_rfl) (by kernel_rfl) (fun _ _ _ h => h) (Or.inl ⟨by kernel_rfl, fun W hW => ?_⟩) hS ?_
                · go_simp
                simp only [Act.put, List.getElem_toArray, List.getElem_cons_succ, List.getElem_cons_zero, List.setIfInBounds_toArray, List.set_cons_zero, List.set_cons_succ]
                refine wpAnyH_ready (rs := [49]) (by kernel_rfl) (by simp) ?_
                refine (AllReadyH.cons rfl (fun K hK => ?_) AllReadyH.nil)
                · rw [if_pos (by kernel_rfl)]
                  go_simp
                  go_at_call 22
                  (with_reducible refine (refs_c (l := U) (k := U) (R := true) HN.out.2.1 HN.out.2.1 (by simp) (by have := HN.out; omega) (by have := HN.out; omega) _ _ _ (pat_later (own2_at w24) hS) (pat_later (own2_at w26) hS)).mono ?_)
                  rintro _ u6 ⟨rfl, hb6⟩
                  replace hS := Below.step hS hb6
                  (repeat (first | go_skip | go_guarded | go_step | go_upon))
                  refine hK.out _ _ hS (fun _ => ?_)
                  clear hK K
                  (try simp only [Act.put, List.getElem_toArray, List.getElem_cons_succ, List.getElem_cons_zero, List.setIfInBounds_toArray, List.set_cons_zero, List.set_cons_succ])
                  refine wpAnyH_takeS HNS (i := 50) (v := .bool true) rfl (by kernel_rfl) (by kernel_rfl) (fun _ _ _ h => h) (Or.inl ⟨by kernel_rfl, fun W hW => ?_⟩) hS ?_
                  · go_simp
                  simp only [Act.put, List.getElem_toArray, List.getElem_cons_succ, List.getElem_cons_zero, List.setIfInBounds_toArray, List.set_cons_zero, List.set_cons_succ]
                  refine wpAnyH_takeS HNS (i := 51) (v := .bool true) rfl (by kernel_rfl) (by kernel_rfl) (fun _ _ _ h => h) (Or.inl ⟨by kernel_rfl, fun W hW => ?_⟩) hS ?_
                  · go_simp
                  simp only [Act.put, List.getElem_toArray, List.getElem_cons_succ, List.getElem_cons_zero, List.setIfInBounds_toArray, List.set_cons_zero, List.set_cons_succ]
                  refine wpAnyH_takeS HNS (i := 52) (v := .agg (rgc A27 N.buf.length c27 N.head N.many N.most)) rfl (by kernel_rfl) (by kernel_rfl) (fun _ _ _ h => h) (Or.inl ⟨by kernel_rfl, fun W hW => ?_⟩) hS ?_
                  · (have hz := Held.below v27.x hW; have z0 := hz.cell 0; have z1 := hz.cell 1; have z2 := hz.cell 2; have z3 := hz.cell 3; simp at z0 z1 z2 z3; go_simp)
                  simp only [Act.put, List.getElem_toArray, List.getElem_cons_succ, List.getElem_cons_zero, List.setIfInBounds_toArray, List.set_cons_zero, List.set_cons_succ]
                  refine wpAnyH_takeS HNS (i := 53) (v := .agg (rgc A29 N.buf.length c29 N.head N.many N.most)) rfl (by kernel_rfl) (by kernel_rfl) (fun _ _ _ h => h) (Or.inl ⟨by kernel_rfl, fun W hW => ?_⟩) hS ?_
                  · (have hz := Held.below v29.x hW; have z0 := hz.cell 0; have z1 := hz.cell 1; have z2 := hz.cell 2; have z3 := hz.cell 3; simp at z0 z1 z2 z3; go_simp)
                  simp only [Act.put, List.getElem_toArray, List.getElem_cons_succ, List.getElem_cons_zero, List.setIfInBounds_toArray, List.set_cons_zero, List.set_cons_succ]
                  refine wpAnyH_ready (rs := [54]) (by kernel_rfl) (by simp) ?_
                  refine (AllReadyH.cons rfl (fun K hK => ?_) AllReadyH.nil)
                  · rw [if_pos (by kernel_rfl)]
                    go_simp
                    go_at_call 21
                    (with_reducible refine (rsame_c (R := true) (by simp) HB.out.2.2.2.2.2 HB.out.2.2.2.2.2 _ _ _ (v27.read.below hS).p (v29.read.below hS).p).mono ?_)
                    rintro _ u7 ⟨rfl, hb7⟩
                    replace hS := Below.step hS hb7
                    (repeat (first | go_skip | go_guarded | go_step | go_upon))
                    refine hK.out _ _ hS (fun _ => ?_)
                    clear hK K
                    (try simp only [Act.put, List.getElem_toArray, List.getElem_cons_succ, List.getElem_cons_zero, List.setIfInBounds_toArray, List.set_cons_zero, List.set_cons_succ])
                    refine wpAnyH_takeS HNS (i := 55) (v := .bool true) rfl (by kernel_rfl) (by kernel_rfl) (fun _ _ _ h => h) (Or.inl ⟨by kernel_rfl, fun W hW => ?_⟩) hS ?_
                    · go_simp
                    simp only [Act.put, List.getElem_toArray, List.getElem_cons_succ, List.getElem_cons_zero, List.setIfInBounds_toArray, List.set_cons_zero, List.set_cons_succ]
                    refine wpAnyH_takeS HNS (i := 56) (v := .bool true) rfl (by kernel_rfl) (by kernel_rfl) (fun _ _ _ h => h) (Or.inl ⟨by kernel_rfl, fun W hW => ?_⟩) hS ?_
                    · go_simp
                    simp only [Act.put, List.getElem_toArray, List.getElem_cons_succ, List.getElem_cons_zero, List.setIfInBounds_toArray, List.set_cons_zero, List.set_cons_succ]
                    refine wpAnyH_takeS HNS (i := 57) (v := .bool bN) rfl (by kernel_rfl) (by kernel_rfl) (fun _ _ _ h => h) (Or.inl ⟨by kernel_rfl, fun W hW => ?_⟩) hS ?_
                    · go_simp
                    simp only [Act.put, List.getElem_toArray, List.getElem_cons_succ, List.getElem_cons_zero, List.setIfInBounds_toArray, List.set_cons_zero, List.set_cons_succ]
                    refine wpAnyH_takeS HNS (i := 58) (v := .bool bN) rfl (by kernel_rfl) (by kernel_rfl) (fun _ _ _ h => h) (Or.inl ⟨by kernel_rfl, fun W hW => ?_⟩) hS ?_
                    · go_simp
                    simp only [Act.put, List.getElem_toArray, List.getElem_cons_succ, List.getElem_cons_zero, List.setIfInBounds_toArray, List.set_cons_zero, List.set_cons_succ]
                    refine wpAnyH_takeS HNS (i := 59) (v := .bool true) rfl (by kernel_rfl) (by kernel_rfl) (fun _ _ _ h => h) (Or.inl ⟨by kernel_rfl, fun W hW => ?_⟩) hS ?_
                    · go_simp
                    simp only [Act.put, List.getElem_toArray, List.getElem_cons_succ, List.getElem_cons_zero, List.setIfInBounds_toArray, List.set_cons_zero, List.set_cons_succ]
                    refine wpAnyH_takeS HNS (i := 60) (v := .bool true) rfl (by kernel_rfl) (by kernel_rfl) (fun _ _ _ h => h) (Or.inl ⟨by kernel_rfl, fun W hW => ?_⟩) hS ?_
                    · go_simp
                    simp only [Act.put, List.getElem_toArray, List.getElem_cons_succ, List.getElem_cons_zero, List.setIfInBounds_toArray, List.set_cons_zero, List.set_cons_succ]
                    refine wpAnyH_takeS HNS (i := 61) (v := .bool true) rfl (by kernel_rfl) (by kernel_rfl) (fun _ _ _ h => h) (Or.inl ⟨by kernel_rfl, fun W hW => ?_⟩) hS ?_
                    · go_simp
                    simp only [Act.put, List.getElem_toArray, List.getElem_cons_succ, List.getElem_cons_zero, List.setIfInBounds_toArray, List.set_cons_zero, List.set_cons_succ]
                    refine wpAnyH_takeS HNS (i := 62) (v := .agg (rgc A r.buf.length c r.head r.many r.most)) rfl (by kernel_rfl) (by kernel_rfl) (fun _ _ _ h => h) (Or.inl ⟨by kernel_rfl, fun W hW => ?_⟩) hS ?_
                    · (have hz := Held.below v1.x hW; have z0 := hz.cell 0; have z1 := hz.cell 1; have z2 := hz.cell 2; have z3 := hz.cell 3; simp at z0 z1 z2 z3; go_simp)
                    simp only [Act.put, List.getElem_toArray, List.getElem_cons_succ, List.getElem_cons_zero, List.setIfInBounds_toArray, List.set_cons_zero, List.set_cons_succ]
                    refine wpAnyH_takeS HNS (i := 64) (v := .agg (rgc A r.buf.length c r.head r.many r.most)) rfl (by kernel_rfl) (by kernel_rfl) (fun _ _ _ h => h) (Or.inl ⟨by kernel_rfl, fun W hW => ?_⟩) hS ?_
                    · (have hz := Held.below v1.x hW; have z0 := hz.cell 0; have z1 := hz.cell 1; have z2 := hz.cell 2; have z3 := hz.cell 3; simp at z0 z1 z2 z3; go_simp)
                    simp only [Act.put, List.getElem_toArray, List.getElem_cons_succ, List.getElem_cons_zero, List.setIfInBounds_toArray, List.set_cons_zero, List.set_cons_succ]
                    refine wpAnyH_ready (rs := [63]) (by kernel_rfl) (by simp) ?_
                    refine (AllReadyH.cons rfl (fun K hK => ?_) AllReadyH.nil)
                    · rw [if_pos (by kernel_rfl)]
                      go_simp
                      go_at_call 23
                      (with_reducible refine (items_c HLQ.out HN.out.1 c _ (v1.below hS).p).mono ?_)
                      rintro _ u8 ⟨Ai8, ci8, rfl, wi8, hb8⟩
                      have hpI := own2_at wi8
                      replace hS := Below.step hS hb8
                      (repeat (first | go_skip | go_guarded | go_step | go_upon))
                      refine hK.out _ _ hS (fun _ => ?_)
                      clear hK K
                      (try simp only [Act.put, List.getElem_toArray, List.getElem_cons_succ, List.getElem_cons_zero, List.setIfInBounds_toArray, List.set_cons_zero, List.set_cons_succ])
                      refine wpAnyH_ready (rs := [65]) (by kernel_rfl) (by simp) ?_
                      refine (AllReadyH.cons rfl (fun K hK => ?_) AllReadyH.nil)
                      · rw [if_pos (by kernel_rfl)]
                        go_simp
                        go_at_call 24
                        (with_reducible refine (ritems_c HLQ.out HN.out.1 c _ (v1.below hS).p).mono ?_)
                        rintro _ u9 ⟨Ai9, ci9, rfl, wi9, hb9⟩
                        replace hpI := pat_later hpI hb9
                        have hpJ := own2_at wi9
                        replace hS := Below.step hS hb9
                        (repeat (first | go_skip | go_guarded | go_step | go_upon))
                        refine hK.out _ _ hS (fun _ => ?_)
                        clear hK K
                        (try simp only [Act.put, List.getElem_toArray, List.getElem_cons_succ, List.getElem_cons_zero, List.setIfInBounds_toArray, List.set_cons_zero, List.set_cons_succ])
                        refine wpAnyH_ready (rs := [66]) (by kernel_rfl) (by simp) ?_
                        refine (AllReadyH.cons rfl (fun K hK => ?_) AllReadyH.nil)
                        · rw [if_pos (by kernel_rfl)]
                          go_simp
                          go_at_call 22
                          (with_reducible refine (refs_c (l := L) (k := L) (R := true) HN.out.1 HN.out.1 (by simp) (by have := HN.out; omega) (by have := HN.out; omega) _ _ _ hpI hpJ).mono ?_)
                          rintro _ u10 ⟨rfl, hb10⟩
                          replace hpI := pat_later hpI hb10
                          replace hpJ := pat_later hpJ hb10
                          clear hpI
                          clear hpJ
                          replace hS := Below.step hS hb10
                          (repeat (first | go_skip | go_guarded | go_step | go_upon))
                          refine hK.out _ _ hS (fun _ => ?_)
                          clear hK K
                          (try simp only [Act.put, List.getElem_toArray, List.getElem_cons_succ, List.getElem_cons_zero, List.setIfInBounds_toArray, List.set_cons_zero, List.set_cons_succ])
                          refine wpAnyH_takeS HNS (i := 67) (v := .bool true) rfl (by kernel_rfl) (by kernel_rfl) (fun _ _ _ h => h) (Or.inl ⟨by kernel_rfl, fun W hW => ?_⟩) hS ?_
                          · go_simp
                          simp only [Act.put, List.getElem_toArray, List.getElem_cons_succ, List.getElem_cons_zero, List.setIfInBounds_toArray, List.set_cons_zero, List.set_cons_succ]
                          refine wpAnyH_takeS HNS (i := 68) (v := .bool true) rfl (by kernel_rfl) (by kernel_rfl) (fun _ _ _ h => h) (Or.inl ⟨by kernel_rfl, fun W hW => ?_⟩) hS ?_
                          · go_simp
                          simp only [Act.put, List.getElem_toArray, List.getElem_cons_succ, List.getElem_cons_zero, List.setIfInBounds_toArray, List.set_cons_zero, List.set_cons_succ]
                          refine wpAnyH_takeS HNS (i := 69) (v := .agg (rgc A r.buf.length c r.head r.many r.most)) rfl (by kernel_rfl) (by kernel_rfl) (fun _ _ _ h => h) (Or.inl ⟨by kernel_rfl, fun W hW => ?_⟩) hS ?_
                          · (have hz := Held.below v1.x hW; have z0 := hz.cell 0; have z1 := hz.cell 1; have z2 := hz.cell 2; have z3 := hz.cell 3; simp at z0 z1 z2 z3; go_simp)
                          simp only [Act.put, List.getElem_toArray, List.getElem_cons_succ, List.getElem_cons_zero, List.setIfInBounds_toArray, List.set_cons_zero, List.set_cons_succ]
                          refine wpAnyH_takeS HNS (i := 71) (v := .agg (rgc A r.buf.length c r.head r.many r.most)) rfl (by kernel_rfl) (by kernel_rfl) (fun _ _ _ h => h) (Or.inl ⟨by kernel_rfl, fun W hW => ?_⟩) hS ?_
                          · (have hz := Held.below v1.x hW; have z0 := hz.cell 0; have z1 := hz.cell 1; have z2 := hz.cell 2; have z3 := hz.cell 3; simp at z0 z1 z2 z3; go_simp)
                          simp only [Act.put, List.getElem_toArray, List.getElem_cons_succ, List.getElem_cons_zero, List.setIfInBounds_toArray, List.set_cons_zero, List.set_cons_succ]
                          refine wpAnyH_ready (rs := [70]) (by kernel_rfl) (by simp) ?_
                          refine (AllReadyH.cons rfl (fun K hK => ?_) AllReadyH.nil)
                          · rw [if_pos (by kernel_rfl)]
                            go_simp
                            go_at_call 25
                            (with_reducible refine (may_c HMY.out A c _).mono ?_)
                            rintro _ u11 ⟨rfl, hb11⟩
                            replace hS := Below.step hS hb11
                            (repeat (first | go_skip | go_guarded | go_step | go_upon))
                            refine hK.out _ _ hS (fun _ => ?_)
                            clear hK K
                            (try simp only [Act.put, List.getElem_toArray, List.getElem_cons_succ, List.getElem_cons_zero, List.setIfInBounds_toArray, List.set_cons_zero, List.set_cons_succ])
                            refine wpAnyH_ready (rs := [72]) (by kernel_rfl) (by simp) ?_
                            refine (AllReadyH.cons rfl (fun K hK => ?_) AllReadyH.nil)
                            · rw [if_pos (by kernel_rfl)]
                              go_simp
                              go_at_call 26
                              (with_reducible refine (rmay_c HMY.out A c _).mono ?_)
                              rintro _ u12 ⟨rfl, hb12⟩
                              replace hS := Below.step hS hb12
                              (repeat (first | go_skip | go_guarded | go_step | go_upon))
                              refine hK.out _ _ hS (fun _ => ?_)
                              clear hK K
                              (try simp only [Act.put, List.getElem_toArray, List.getElem_cons_succ, List.getElem_cons_zero, List.setIfInBounds_toArray, List.set_cons_zero, List.set_cons_succ])
                              refine wpAnyH_takeS HNS (i := 73) (v := .bool true) rfl (by kernel_rfl) (by kernel_rfl) (fun _ _ _ h => h) (Or.inl ⟨by kernel_rfl, fun W hW => ?_⟩) hS ?_
                              · (cases my <;> go_simp)
                              simp only [Act.put, List.getElem_toArray, List.getElem_cons_succ, List.getElem_cons_zero, List.setIfInBounds_toArray, List.set_cons_zero, List.set_cons_succ]
                              refine wpAnyH_takeS HNS (i := 74) (v := .bool true) rfl (by kernel_rfl) (by kernel_rfl) (fun _ _ _ h => h) (Or.inl ⟨by kernel_rfl, fun W hW => ?_⟩) hS ?_
                              · go_simp
                              simp only [Act.put, List.getElem_toArray, List.getElem_cons_succ, List.getElem_cons_zero, List.setIfInBounds_toArray, List.set_cons_zero, List.set_cons_succ]
                              refine wpAnyH_takeS HNS (i := 75) (v := .bool true) rfl (by kernel_rfl) (by kernel_rfl) (fun _ _ _ h => h) (Or.inl ⟨by kernel_rfl, fun W hW => ?_⟩) hS ?_
                              · go_simp
                              simp only [Act.put, List.getElem_toArray, List.getElem_cons_succ, List.getElem_cons_zero, List.setIfInBounds_toArray, List.set_cons_zero, List.set_cons_succ]
                              refine wpAnyH_done (by kernel_rfl) ?_ _
                              (repeat (first | go_skip | go_guarded | go_step | go_upon))
                              go_ret
                              exact ⟨rfl, Below.step hW hS⟩
end Go.Proofs.Ythmnaclmbglkdaa.ringTells
