/- RingList. -/
import Derived.Test.YthmnaclmbglkdaaJm
import Derived.Test.YthmnaclmbglkdaaNl
import Derived.Deep.DeepCutAuto
import Derived.Deep.CutBlock
namespace Go.Proofs.Ythmnaclmbglkdaa.ringList
set_option linter.unusedVariables false
set_option linter.unusedSimpArgs false
open Go.RowKit Go.ChangeShapes Go.WideShapes Go.ChangeAt Go.Sort Go.Proofs.Ythmnaclmbglkdaa

set_option maxHeartbeats 20000000 in
set_option maxRecDepth 100000 in
theorem walk (CF : ∀ w, Calls Try.prog 10 #[] w fun e w' => e = .returned (.bool true) ∧ Below w.heap.size w w') {A A2 : Option Addr} {r : Rng} {l : List P2} {B nl : Nat} (c c2 : Nat) (w : World) (hp : PAt w B A r.buf) (hp2 : PAt w B A2 l) (hB : B ≤ w.heap.size) (hl : l.length = nl) :
    Calls Try.prog 4 #[rgv A r.buf.length c r.head r.many r.most, .slice A2 nl c2] w fun e w' => e = .returned (.bool true) ∧ Below w.heap.size w w' := by
  have hW : Below w.heap.size w (w.alloc (.cells (rgc A r.buf.length c r.head r.many r.most) 24)) := (Below.refl _ _).alloc (Nat.le_refl _) _
  have v1 : RgV (w.alloc (.cells (rgc A r.buf.length c r.head r.many r.most) 24)) w.heap.size r A c := ⟨Held.new w 24 _, (hp.below hW hB).more (Nat.le_trans hB hW.size)⟩
  have pl := (hp2.below hW hB).more (Nat.le_trans hB hW.size)
  obtain ⟨sm, hsm⟩ : ∃ b, decide (r.buf.length ≤ 60) = b := ⟨_, rfl⟩
  obtain ⟨my, hmy⟩ : ∃ b, mayR r = b := ⟨_, rfl⟩
  have HSM := Lib.hid hsm
  have HMY := Lib.hid hmy
  have HL := Lib.hid hl
  clear hsm hmy hl hp hp2 hB
  go_enter Try.func4, Try.ntmps4
  go_upto_region 1 with (fail)
  generalize w.alloc (.cells (rgc A r.buf.length c r.head r.many r.most) 24) = W0 at *
  cases sm with
  | false =>
    go_wp2_with (first
      | (go_at_call 10; go_loud ((with_reducible refine (CF _).mono ?_); rintro _ uf ⟨rfl, hbf⟩; replace v1 := v1.below hbf; replace pl := pat_later pl hbf; replace hW := Below.step hW hbf))
      | (guard_target = wpList _ _ _ (Oper.mk (some 21) _ _ _ _ _ :: _) _ _; refine wpList_doneR rfl ?_; refine wpList_load_row rfl 24 _ rfl w.heap.size rfl _ _ _ _ v1.x Try.underlying24 rfl (by kernel_rfl) ?_)
      | (go_at_call 9; go_loud ((with_reducible refine (rsmall_c HSM.out A c _).mono ?_); rintro _ us ⟨rfl, hbs⟩; replace v1 := v1.below hbs; replace pl := pat_later pl hbs; replace hW := Below.step hW hbs))
      | (guard_target = wpList _ _ _ (Oper.mk (some 31) _ _ _ _ _ :: _) _ _; refine wpList_doneR rfl ?_; refine wpList_load_row rfl 24 _ rfl w.heap.size rfl _ _ _ _ v1.x Try.underlying24 rfl (by kernel_rfl) ?_)
      | (go_at_call 26; go_loud ((with_reducible refine (rmay_c HMY.out A c _).mono ?_); rintro _ um ⟨rfl, hbm⟩; replace v1 := v1.below hbm; replace pl := pat_later pl hbm; replace hW := Below.step hW hbm)))
    go_ret
    exact ⟨rfl, hW⟩
  | true =>
    by_cases hg1 : (20 : Int) < nl
    · have q1 : decide ((20 : Int) < nl) = true := decide_eq_true hg1
      go_wp2_with (first
        | (go_at_call 10; go_loud ((with_reducible refine (CF _).mono ?_); rintro _ uf ⟨rfl, hbf⟩; replace v1 := v1.below hbf; replace pl := pat_later pl hbf; replace hW := Below.step hW hbf))
        | (guard_target = wpList _ _ _ (Oper.mk (some 21) _ _ _ _ _ :: _) _ _; refine wpList_doneR rfl ?_; refine wpList_load_row rfl 24 _ rfl w.heap.size rfl _ _ _ _ v1.x Try.underlying24 rfl (by kernel_rfl) ?_)
        | (go_at_call 9; go_loud ((with_reducible refine (rsmall_c HSM.out A c _).mono ?_); rintro _ us ⟨rfl, hbs⟩; replace v1 := v1.below hbs; replace pl := pat_later pl hbs; replace hW := Below.step hW hbs))
        | (guard_target = wpList _ _ _ (Oper.mk (some 31) _ _ _ _ _ :: _) _ _; refine wpList_doneR rfl ?_; refine wpList_load_row rfl 24 _ rfl w.heap.size rfl _ _ _ _ v1.x Try.underlying24 rfl (by kernel_rfl) ?_)
        | (go_at_call 26; go_loud ((with_reducible refine (rmay_c HMY.out A c _).mono ?_); rintro _ um ⟨rfl, hbm⟩; replace v1 := v1.below hbm; replace pl := pat_later pl hbm; replace hW := Below.step hW hbm)))
      go_ret
      exact ⟨rfl, hW⟩
    · have q1 : decide ((20 : Int) < nl) = false := decide_eq_false hg1
      cases my with
      | false =>
        go_wp2_with (first
          | (go_at_call 10; go_loud ((with_reducible refine (CF _).mono ?_); rintro _ uf ⟨rfl, hbf⟩; replace v1 := v1.below hbf; replace pl := pat_later pl hbf; replace hW := Below.step hW hbf))
          | (guard_target = wpList _ _ _ (Oper.mk (some 21) _ _ _ _ _ :: _) _ _; refine wpList_doneR rfl ?_; refine wpList_load_row rfl 24 _ rfl w.heap.size rfl _ _ _ _ v1.x Try.underlying24 rfl (by kernel_rfl) ?_)
          | (go_at_call 9; go_loud ((with_reducible refine (rsmall_c HSM.out A c _).mono ?_); rintro _ us ⟨rfl, hbs⟩; replace v1 := v1.below hbs; replace pl := pat_later pl hbs; replace hW := Below.step hW hbs))
          | (guard_target = wpList _ _ _ (Oper.mk (some 31) _ _ _ _ _ :: _) _ _; refine wpList_doneR rfl ?_; refine wpList_load_row rfl 24 _ rfl w.heap.size rfl _ _ _ _ v1.x Try.underlying24 rfl (by kernel_rfl) ?_)
          | (go_at_call 26; go_loud ((with_reducible refine (rmay_c HMY.out A c _).mono ?_); rintro _ um ⟨rfl, hbm⟩; replace v1 := v1.below hbm; replace pl := pat_later pl hbm; replace hW := Below.step hW hbm)))
        go_ret
        exact ⟨rfl, hW⟩
      | true =>
        have hr60 : r.buf.length ≤ 60 := of_decide_eq_true HSM.out
        have hnl : nl ≤ 20 := by omega
        obtain ⟨L, hLq⟩ : ∃ L, itemsR r = L := ⟨_, rfl⟩
        obtain ⟨nL, hnL⟩ : ∃ n, L.length = n := ⟨_, rfl⟩
        have hmn : (nL : Int) = r.many := by
          have h1 := items_len HMY.out
          rw [hLq, hnL] at h1
          exact h1
        have hnL60 : nL ≤ 60 := by
          have h2 := ((mayR_iff r).1 HMY.out).2.2.2.2
          omega
        have bX := push_len l (r := r) (by omega)
        have hpush : (r.most < r.many + l.length ∧ pushR r l = (r, 110)) ∨ (¬ r.most < r.many + l.length ∧ pushR r l = (manyR r l, 0) ∧ mayR (manyR r l) = true ∧ itemsR (manyR r l) = L ++ l) := by
          have hno : ¬ mayR r = false := by rw [HMY.out]; decide
          by_cases hf : r.most < r.many + l.length
          · exact .inl ⟨hf, by unfold pushR; rw [if_neg hno, if_pos hf]⟩
          · obtain ⟨q1, q2, -⟩ := many_ok l HMY.out (by omega)
            rw [hLq] at q2
            exact .inr ⟨hf, by unfold pushR; rw [if_neg hno, if_neg hf], q1, q2⟩
        obtain ⟨X, eX, hX⟩ : ∃ X e, pushR r l = (X, e) := ⟨_, _, rfl⟩
        rw [hX] at bX hpush
        simp only at bX
        have hpu : (¬ (nL : Int) + (nl : Int) ≤ r.most ∧ X = r ∧ eX = 110) ∨ ((nL : Int) + (nl : Int) ≤ r.most ∧ eX = 0 ∧ mayR X = true ∧ itemsR X = L ++ l) := by
          rcases hpush with ⟨h1, h2⟩ | ⟨h1, h2, h3, h4⟩
          · simp only [Prod.mk.injEq] at h2
            refine .inl ⟨?_, h2⟩
            rw [HL.out] at h1
            omega
          · simp only [Prod.mk.injEq] at h2
            rw [← h2.1] at h3 h4
            refine .inr ⟨?_, h2.2, h3, h4⟩
            rw [HL.out] at h1
            omega
        have em : ((nL : Int) != r.many) = false := by simp; omega
        have HN := Lib.hid (And.intro hnL (And.intro (show nl ≤ 1000 ∧ nL ≤ 60 by omega) (show r.buf.length ≤ 100000 ∧ X.buf.length ≤ 100000 from ⟨by omega, bX⟩)))
        have HX := Lib.hid hX
        have HLQ := Lib.hid hLq
        have HPU := Lib.hid hpu
        clear hg1 hr60 hnl hnL60 hmn bX hpush hX hpu hLq hnL
        go_upto_region 3 with (first
          | (go_at_call 10; go_loud ((with_reducible refine (CF _).mono ?_); rintro _ uf ⟨rfl, hbf⟩; replace v1 := v1.below hbf; replace pl := pat_later pl hbf; replace hW := Below.step hW hbf))
          | (guard_target = wpList _ _ _ (Oper.mk (some 21) _ _ _ _ _ :: _) _ _; refine wpList_doneR rfl ?_; refine wpList_load_row rfl 24 _ rfl w.heap.size rfl _ _ _ _ v1.x Try.underlying24 rfl (by kernel_rfl) ?_)
          | (go_at_call 9; go_loud ((with_reducible refine (rsmall_c HSM.out A c _).mono ?_); rintro _ us ⟨rfl, hbs⟩; replace v1 := v1.below hbs; replace pl := pat_later pl hbs; replace hW := Below.step hW hbs))
          | (guard_target = wpList _ _ _ (Oper.mk (some 31) _ _ _ _ _ :: _) _ _; refine wpList_doneR rfl ?_; refine wpList_load_row rfl 24 _ rfl w.heap.size rfl _ _ _ _ v1.x Try.underlying24 rfl (by kernel_rfl) ?_)
          | (go_at_call 26; go_loud ((with_reducible refine (rmay_c HMY.out A c _).mono ?_); rintro _ um ⟨rfl, hbm⟩; replace v1 := v1.below hbm; replace pl := pat_later pl hbm; replace hW := Below.step hW hbm)))
        clear q1
        go_upto_region 4 with (first
          | (guard_target = wpList _ _ _ (Oper.mk (some 36) _ _ _ _ none :: _) _ _; refine wpList_load_row rfl 24 _ rfl w.heap.size rfl _ _ _ _ v1.x Try.underlying24 rfl (by kernel_rfl) ?_)
          | (go_at_call 23; go_loud ((with_reducible refine (items_c HLQ.out HN.out.1 c _ v1.p).mono ?_); rintro _ u ⟨A5, c5, rfl, wi, hb⟩; replace v1 := v1.below hb; replace pl := pat_later pl hb; replace hW := Below.step hW hb; have w5 : OwnR u 0 (.slice A5 nL c5) L := r_mono wi (Nat.zero_le _); clear wi)))
        generalize u = W3 at *
        clear hb
        go_upto_region 6 with (first
          | (guard_target = wpList _ _ _ (Oper.mk (some 41) _ _ _ _ none :: _) _ _; refine wpList_load_row rfl 24 _ rfl w.heap.size rfl _ _ _ _ v1.x Try.underlying24 rfl (by kernel_rfl) ?_)
          | (go_at_call 11; go_loud ((with_reducible refine (push_c HX.out HL.out HN.out.2.2.1 HN.out.2.1.1 c c2 _ v1.p pl).mono ?_); rintro _ u ⟨v, rfl, ⟨A7, c7, rfl, ho⟩, hb⟩; have hn := Held.new u 24 rz0))
          | (guard_target = wpList _ _ _ (Oper.mk _ (Op.store 24 (.tmp 7) _) _ _ _ none :: _) _ _; refine wpList_store_row rfl 24 _ _ rfl u.heap.size (rgc A7 X.buf.length c7 X.head X.many X.most) rfl rfl _ _ hn (by kernel_rfl) rfl (by simp [Value.oneCell']) ?_))
        obtain ⟨v7, hbW⟩ := new_o1 (r := X) (c := c7) hb ho
        clear hb ho hn
        replace v1 := v1.below hbW
        replace pl := pat_later pl hbW
        replace w5 := own_later w5 hbW
        replace hW := Below.step hW hbW
        clear hbW
        generalize World.setRow _ u.heap.size _ = W5 at *
        generalize u.heap.size = g7 at *
        have hbA : Below W5.heap.size W5 (W5.alloc (.cells #[] 33)) := (Below.refl _ _).alloc (Nat.le_refl _) _
        have wb0 : OwnR (W5.alloc (.cells #[] 33)) W5.heap.size (.slice (some ⟨W5.heap.size, 0, none⟩) 0 0) [] := Own2.made 33 W5
        have HP5 := Lib.hid (own2_at (own_later w5 hbA))
        have HPL := Lib.hid (fun W (h : Below W5.heap.size W5 W) => pat_later pl h)
        have HSZ := Lib.hid hbA.size
        go_upto_region 7 with (first
          | (guard_target = wpList _ _ _ (Oper.mk (some 48) _ _ _ _ none :: _) _ _; refine wpList_append_r rfl _ _ rfl W5.heap.size (l := []) (k := L) rfl wb0 HN.out.1 rfl HP5.out (by have := HN.out; omega) HSZ.out ?_; intro Aa ca ua wa hba; obtain ⟨na, hna⟩ : ∃ z, z = 0 + nL := ⟨_, rfl⟩; rw [← hna] at wa ⊢; have HNA := Lib.hid hna; clear hna; have hBa := Below.trans hbA hba; have HPa := Lib.hid (HPL.out ua hBa); have HSa := Lib.hid hBa.size)
          | (guard_target = wpList _ _ _ (Oper.mk (some 50) _ _ _ _ none :: _) _ _; refine wpList_append_r rfl _ _ rfl W5.heap.size (l := [] ++ L) (k := l) rfl wa HL.out rfl HPa.out (by have := HN.out; have := HNA.out; omega) HSa.out ?_; intro A9 c9 ub w9 hbb; obtain ⟨nb, hnb⟩ : ∃ z, z = na + nl := ⟨_, rfl⟩; rw [← hnb] at w9 ⊢; have HNB := Lib.hid (show nb = nL + nl by have := HNA.out; omega); clear hnb; have hBb := Below.trans hBa hbb))
        rw [List.nil_append] at w9
        replace w9 : OwnR ub 0 (.slice A9 nb c9) (L ++ l) := r_mono w9 (Nat.zero_le _)
        replace v1 := v1.below hBb
        replace pl := pat_later pl hBb
        replace w5 := own_later w5 hBb
        replace v7 := v7.below hBb
        replace hW := Below.step hW hBb
        clear hbA wb0 HP5 HPL HSZ hba hbb hBa hBb wa
        generalize ub = W6 at *
        have x2 := v1.x.cell 2
        have x3 := v1.x.cell 3
        simp at x2 x3
        have HBL := Lib.hid (show (L ++ l).length = nb by rw [List.length_append, HN.out.1, HL.out, HNB.out])
        rcases HPU.out with ⟨hle, hXr, hE⟩ | ⟨hle, hE, hXm, hXi⟩
        · subst hE hXr
          have q62 : decide ((nb : Int) ≤ X.most) = false := decide_eq_false (by have := HNB.out; omega)
          clear hle
          go_upto_region 9 with (first
            | (guard_target = wpList _ _ _ (Oper.mk (some 85) _ _ _ _ _ :: _) _ _; refine wpList_doneR rfl ?_; refine wpList_load_row rfl 24 _ rfl g7 rfl _ _ _ _ v7.x Try.underlying24 rfl (by kernel_rfl) ?_)
            | (guard_target = wpList _ _ _ (Oper.mk (some 86) _ _ _ _ _ :: _) _ _; refine wpList_doneR rfl ?_; refine wpList_load_row rfl 24 _ rfl w.heap.size rfl _ _ _ _ v1.x Try.underlying24 rfl (by kernel_rfl) ?_)
            | (go_at_call 21; go_loud ((with_reducible refine (rsame_c (R := true) (by simp) HN.out.2.2.1 HN.out.2.2.1 _ _ _ v7.read.p v1.p).mono ?_); rintro _ ur ⟨rfl, hbr⟩; replace v1 := v1.below hbr; replace pl := pat_later pl hbr; replace w5 := own_later w5 hbr; replace v7 := v7.below hbr; replace w9 := own_later w9 hbr; replace hW := Below.step hW hbr)))
          clear x2 x3 q62
          have HF := Lib.hid (show True from trivial)
          generalize ur = W7 at *
          have bP := pop_buf X
          have bS := steal_buf X
          have bH : (halfR X).1.buf = X.buf := stealN_buf _ _
          have hhf := half_all HMY.out
          have hst := stealN_ok 0 HMY.out (Nat.zero_le _)
          have hsok := fun h0 => steal_ok HMY.out h0
          have hpok := fun h0 => pop_ok HMY.out h0
          obtain ⟨C, x, bC, hC⟩ : ∃ C x b, popR X = (C, x, b) := ⟨_, _, _, rfl⟩
          obtain ⟨S, y, bS2, hS2⟩ : ∃ C x b, stealR X = (C, x, b) := ⟨_, _, _, rfl⟩
          obtain ⟨D, U, hD⟩ : ∃ D U, halfR X = (D, U) := ⟨_, _, rfl⟩
          obtain ⟨hh, hhh⟩ : ∃ z, z = halfN X := ⟨_, rfl⟩
          have hU : U = L.take hh := by
            have h9 : (halfR X).2 = (itemsR X).take (halfN X) := rfl
            rw [hD, HLQ.out, ← hhh] at h9
            exact h9
          have hhL : hh = (nL + 1) / 2 := by
            rw [hhh]
            unfold halfN
            rw [HLQ.out, HN.out.1]
          rw [hC] at bP hpok
          rw [hS2] at bS hsok
          rw [hD, HLQ.out, ← hhh] at hhf
          rw [hD] at bH
          rw [HLQ.out] at hpok hsok
          simp only at bP bS bH hhf hpok hsok
          obtain ⟨hf1, -, hf3, hf4, hf5⟩ := hhf
          obtain ⟨xa, xb⟩ := x
          obtain ⟨ya, yb⟩ := y
          have HC := Lib.hid hC
          have HS := Lib.hid hS2
          have HD := Lib.hid hD
          have HH := Lib.hid (And.intro hhL (And.intro hU (And.intro hf1 (And.intro hf3 hf5))))
          have HPO := Lib.hid hpok
          have HSO := Lib.hid hsok
          have HB := Lib.hid (show C.buf.length ≤ 100000 ∧ S.buf.length ≤ 100000 ∧ D.buf.length ≤ 100000 from ⟨by rw [bP]; exact HN.out.2.2.1, by rw [bS]; exact HN.out.2.2.1, by rw [bH]; exact HN.out.2.2.1⟩)
          clear bP bS bH hst hpok hsok hC hS2 hD hU hhL hhh hf1 hf3 hf4 hf5
          go_upto_region 10 with (first
            | (guard_target = wpList _ _ _ (Oper.mk (some 92) _ _ _ _ none :: _) _ _; refine wpList_load_row rfl 24 _ rfl w.heap.size rfl _ _ _ _ v1.x Try.underlying24 rfl (by kernel_rfl) ?_)
            | (go_at_call 13; go_loud ((with_reducible refine (pop_c HC.out HN.out.2.2.1 c _ v1.p).mono ?_); rintro _ u ⟨v, rfl, ⟨A10, c10, rfl, ho⟩, hb⟩; have hn := (Held.new u 24 rz0).alloc (.cells rf0 33); have hm := Held.new1 u (.cells rz0 24) 33 rf0))
            | (guard_target = wpList _ _ _ (Oper.mk _ (Op.store 24 (.tmp 10) _) _ _ _ none :: _) _ _; refine wpList_store_row rfl 24 _ _ rfl u.heap.size (rgc A10 C.buf.length c10 C.head C.many C.most) rfl rfl _ _ hn (by kernel_rfl) rfl (by simp [Value.oneCell']) ?_; have hm2 := held_row hm (Nat.succ_ne_self u.heap.size) (rgc A10 C.buf.length c10 C.head C.many C.most))
            | (guard_target = wpList _ _ _ (Oper.mk _ (Op.store 33 (.tmp 11) _) _ _ _ none :: _) _ _; refine wpList_store_row rfl 33 _ _ rfl (u.heap.size + 1) (rfc (xa, xb)) rfl rfl _ _ hm2 (by kernel_rfl) rfl (by simp [Value.oneCell']) ?_))
          obtain ⟨v10, r11, hbW⟩ := new_o2 (r := C) (c := c10) (x := (xa, xb)) hb ho
          clear hb ho hn hm hm2
          replace v1 := v1.below hbW
          replace pl := pat_later pl hbW
          replace w5 := own_later w5 hbW
          replace v7 := v7.below hbW
          replace w9 := own_later w9 hbW
          replace hW := Below.step hW hbW
          clear hbW
          generalize World.setRow _ (u.heap.size + 1) _ = W9 at *
          generalize u.heap.size + 1 = g10r at *
          generalize u.heap.size = g10 at *
          go_upto_region 11 with (first
            | (guard_target = wpList _ _ _ (Oper.mk (some 98) _ _ _ _ none :: _) _ _; refine wpList_load_row rfl 24 _ rfl w.heap.size rfl _ _ _ _ v1.x Try.underlying24 rfl (by kernel_rfl) ?_)
            | (go_at_call 15; go_loud ((with_reducible refine (steal_c HS.out HN.out.2.2.1 c _ v1.p).mono ?_); rintro _ u ⟨v, rfl, ⟨A13, c13, rfl, ho⟩, hb⟩; have hn := (Held.new u 24 rz0).alloc (.cells rf0 33); have hm := Held.new1 u (.cells rz0 24) 33 rf0))
            | (guard_target = wpList _ _ _ (Oper.mk _ (Op.store 24 (.tmp 13) _) _ _ _ none :: _) _ _; refine wpList_store_row rfl 24 _ _ rfl u.heap.size (rgc A13 S.buf.length c13 S.head S.many S.most) rfl rfl _ _ hn (by kernel_rfl) rfl (by simp [Value.oneCell']) ?_; have hm2 := held_row hm (Nat.succ_ne_self u.heap.size) (rgc A13 S.buf.length c13 S.head S.many S.most))
            | (guard_target = wpList _ _ _ (Oper.mk _ (Op.store 33 (.tmp 14) _) _ _ _ none :: _) _ _; refine wpList_store_row rfl 33 _ _ rfl (u.heap.size + 1) (rfc (ya, yb)) rfl rfl _ _ hm2 (by kernel_rfl) rfl (by simp [Value.oneCell']) ?_))
          obtain ⟨v13, r14, hbW⟩ := new_o2 (r := S) (c := c13) (x := (ya, yb)) hb ho
          clear hb ho hn hm hm2
          replace v1 := v1.below hbW
          replace pl := pat_later pl hbW
          replace w5 := own_later w5 hbW
          replace v7 := v7.below hbW
          replace w9 := own_later w9 hbW
          replace r11 := Held.below r11 hbW
          replace v10 := v10.below hbW
          replace hW := Below.step hW hbW
          clear hbW
          generalize World.setRow _ (u.heap.size + 1) _ = W10 at *
          generalize u.heap.size + 1 = g13r at *
          generalize u.heap.size = g13 at *
          go_upto_region 12 with (first
            | (guard_target = wpList _ _ _ (Oper.mk (some 104) _ _ _ _ none :: _) _ _; refine wpList_load_row rfl 24 _ rfl w.heap.size rfl _ _ _ _ v1.x Try.underlying24 rfl (by kernel_rfl) ?_)
            | (go_at_call 17; go_loud ((with_reducible refine (half_c HD.out HH.out.2.2.2.1 HN.out.2.2.1 c _ v1.p).mono ?_); rintro _ u ⟨v, A17, c17, rfl, ⟨A16, c16, rfl, ho⟩, hol, hb⟩; have hn := Held.new u 24 rz0))
            | (guard_target = wpList _ _ _ (Oper.mk _ (Op.store 24 (.tmp 16) _) _ _ _ none :: _) _ _; refine wpList_store_row rfl 24 _ _ rfl u.heap.size (rgc A16 D.buf.length c16 D.head D.many D.most) rfl rfl _ _ hn (by kernel_rfl) rfl (by simp [Value.oneCell']) ?_))
          obtain ⟨v16, hbW⟩ := new_o1 (r := D) (c := c16) hb ho
          have w17 := own_later (r_mono hol (Nat.zero_le _) : OwnR u 0 (.slice A17 hh c17) U) (below_new1 (Below.refl _ u) rz0 (rgc A16 D.buf.length c16 D.head D.many D.most) 24)
          clear hol
          clear hb ho hn
          replace v1 := v1.below hbW
          replace pl := pat_later pl hbW
          replace w5 := own_later w5 hbW
          replace v7 := v7.below hbW
          replace w9 := own_later w9 hbW
          replace r11 := Held.below r11 hbW
          replace v10 := v10.below hbW
          replace r14 := Held.below r14 hbW
          replace v13 := v13.below hbW
          replace hW := Below.step hW hbW
          clear hbW
          generalize World.setRow _ u.heap.size _ = W11 at *
          generalize u.heap.size = g16 at *
          by_cases h0 : nL = 0
          · have HL0 := Lib.hid (show (itemsR X).length = 0 by rw [HLQ.out, HN.out.1]; exact h0)
            have e1 : bC = false := by
              have := HC.out
              rw [pop_no HL0.out] at this
              simp only [Prod.mk.injEq] at this
              exact this.2.2.symm
            have e2 : bS2 = false := by
              have := HS.out
              rw [steal_no HL0.out] at this
              simp only [Prod.mk.injEq] at this
              exact this.2.2.symm
            have e3 : hh = 0 := by rw [HH.out.1, h0]
            subst e1 e2
            have q1 : ((nL : Int) == 0) = true := by simp; omega
            have q2 : ((hh : Int) == 0) = true := by simp; omega
            clear h0 e3
            go_wp2_with fail
            go_ret
            exact ⟨rfl, hW⟩
          · obtain ⟨m, hm⟩ : ∃ m, nL = m + 1 := ⟨nL - 1, by omega⟩
            obtain ⟨p1, p2, p3, p4, -, -⟩ := HPO.out (by rw [HN.out.1]; omega)
            obtain ⟨s1, s2, s3, -, -⟩ := HSO.out (by rw [HN.out.1]; omega)
            subst p4 s3
            have q1 : ((nL : Int) == 0) = false := by simp; omega
            have hmL : m < L.length := by rw [HN.out.1]; omega
            have h0L : 0 < L.length := by rw [HN.out.1]; omega
            have hpx : L[m] = (xa, xb) := by
              rw [HN.out.1, hm, Nat.add_sub_cancel, List.getD_eq_getElem?_getD, List.getElem?_eq_getElem hmL] at p3
              exact p3.symm
            have hsy : L[0] = (ya, yb) := by
              have : L[0]? = some (ya, yb) := by rw [s2]; rfl
              rw [List.getElem?_eq_getElem h0L] at this
              exact Option.some.inj this
            have hCi : itemsR C = L.take m := by
              rw [p2, List.dropLast_eq_take, HN.out.1, hm, Nat.add_sub_cancel]
            have hSi : itemsR S = L.drop 1 := by rw [s2]; rfl
            have EX : ∀ W, (binOp .neq 33 (gv xa xb) (gv xa xb)).run Try.prog W = .ok (.bool false) W := fun W => by rw [neqr_run]; simp
            have EY : ∀ W, (binOp .neq 33 (gv ya yb) (gv ya yb)).run Try.prog W = .ok (.bool false) W := fun W => by rw [neqr_run]; simp
            have hcap : nL ≤ c5 := by
              rcases w5.2 with ⟨e, h9⟩ | ⟨g, cap, cur, e, _, _, hle, _⟩
              · have := HN.out.1
                omega
              · simp only [Value.slice.injEq] at e
                have := HN.out.1
                omega
            obtain ⟨gL, cL, eL⟩ := r_form w5 h0L
            simp only [Value.slice.injEq] at eL
            obtain ⟨rfl, -, rfl⟩ := eL
            have HI := Lib.hid (And.intro hpx (And.intro hsy (And.intro hCi (And.intro hSi (And.intro p1 (And.intro s1 (And.intro hmL h0L)))))))
            have HM := Lib.hid hm
            have HCP := Lib.hid hcap
            have hLb0 : (0 : Int) ≤ nL := Int.natCast_nonneg nL
            have hLb1 : (nL : Int) ≤ 60 := by have := HN.out.2.1.2; omega
            have hm0 : (0 : Int) ≤ m := Int.natCast_nonneg m
            have hmI : (m : Int) < nL := by omega
            have hmN : m < nL := by omega
            have h0N : 0 < nL := by omega
            have h0I : (0 : Int) < nL := by omega
            have hs2 : (nL : Int) - 1 = (m : Int) := by omega
            clear p1 p2 p3 s1 s2 hpx hsy hCi hSi hm hcap h0
            go_upto_region 14 with (fail)
            clear q1
            replace r11 : Held W11 g10r 33 #[.int .i64 xa, .int .i64 xb] := r11
            replace r14 : Held W11 g13r 33 #[.int .i64 ya, .int .i64 yb] := r14
            have hdr := (Below.refl W11.heap.size W11).drew
            replace v1 := v1.below hdr
            replace pl := pat_later pl hdr
            replace w5 := own_later w5 hdr
            replace v7 := v7.below hdr
            replace w9 := own_later w9 hdr
            replace r11 := Held.below r11 hdr
            replace v10 := v10.below hdr
            replace r14 := Held.below r14 hdr
            replace v13 := v13.below hdr
            replace v16 := v16.below hdr
            replace w17 := own_later w17 hdr
            replace hW := Below.step hW hdr
            clear hdr
            refine wp_region_held_drew (S := fun W => Below W11.drew.heap.size W11.drew W) (by kernel_rfl) (Below.refl _ _) (fun hS => ?_)
            generalize W11.drew = W12 at *
            show wpAnyH _ _ _ _ _ 37 #[false, false, false, false, false, false, false, false, false, false, false, false, false, false, false, false, false, false, false, false, false, false, false, false, false, false, false, false, false, false, false, false, false, false, false, false, false] _ _
            refine wpAnyH_begin (by kernel_rfl) (fun HNS => ?_)
            obtain ⟨y0, y1, -, -⟩ := own2_cells w5 (k := m) HI.out.2.2.2.2.2.2.1
            obtain ⟨z0, z1, -, -⟩ := own2_cells w5 (k := 0) HI.out.2.2.2.2.2.2.2
            rw [HI.out.1] at y0 y1
            rw [HI.out.2.1] at z0 z1
            try simp only at y0 y1
            simp at z0 z1
            have hb2w := block_lt_of_cell y0
            try simp only at hb2w
            refine wpAnyH_takeS HNS (i := 0) (v := .bool true) rfl (by kernel_rfl) (by kernel_rfl) (fun _ _ _ h => h) (Or.inl ⟨by kernel_rfl, fun W hW => ?_⟩) hS ?_
            · go_simp
            simp only [Act.put, List.getElem_toArray, List.getElem_cons_succ, List.getElem_cons_zero, List.setIfInBounds_toArray, List.set_cons_zero, List.set_cons_succ]
            refine wpAnyH_takeS HNS (i := 1) (v := .bool false) rfl (by kernel_rfl) (by kernel_rfl) (fun _ _ _ h => h) (Or.inl ⟨by kernel_rfl, fun W hW => ?_⟩) hS ?_
            · go_simp
            simp only [Act.put, List.getElem_toArray, List.getElem_cons_succ, List.getElem_cons_zero, List.setIfInBounds_toArray, List.set_cons_zero, List.set_cons_succ]
            refine wpAnyH_takeS HNS (i := 2) (v := .bool false) rfl (by kernel_rfl) (by kernel_rfl) (fun _ _ _ h => h) (Or.inl ⟨by kernel_rfl, fun W hW => ?_⟩) hS ?_
            · go_simp
            simp only [Act.put, List.getElem_toArray, List.getElem_cons_succ, List.getElem_cons_zero, List.setIfInBounds_toArray, List.set_cons_zero, List.set_cons_succ]
            refine wpAnyH_takeS HNS (i := 3) (v := .bool true) rfl (by kernel_rfl) (by kernel_rfl) (fun _ _ _ h => h) (Or.inl ⟨by kernel_rfl, fun W hW => ?_⟩) hS ?_
            · go_simp
            simp only [Act.put, List.getElem_toArray, List.getElem_cons_succ, List.getElem_cons_zero, List.setIfInBounds_toArray, List.set_cons_zero, List.set_cons_succ]
            refine wpAnyH_takeS HNS (i := 4) (v := .bool false) rfl (by kernel_rfl) (by kernel_rfl) (fun _ _ _ h => h) (Or.inl ⟨by kernel_rfl, fun W hW => ?_⟩) hS ?_
            · go_simp
            simp only [Act.put, List.getElem_toArray, List.getElem_cons_succ, List.getElem_cons_zero, List.setIfInBounds_toArray, List.set_cons_zero, List.set_cons_succ]
            refine wpAnyH_takeS HNS (i := 5) (v := .bool false) rfl (by kernel_rfl) (by kernel_rfl) (fun _ _ _ h => h) (Or.inl ⟨by kernel_rfl, fun W hW => ?_⟩) hS ?_
            · go_simp
            simp only [Act.put, List.getElem_toArray, List.getElem_cons_succ, List.getElem_cons_zero, List.setIfInBounds_toArray, List.set_cons_zero, List.set_cons_succ]
            refine wpAnyH_takeS HNS (i := 6) (v := .bool false) rfl (by kernel_rfl) (by kernel_rfl) (fun _ _ _ h => h) (Or.inl ⟨by kernel_rfl, fun W hW => ?_⟩) hS ?_
            · go_simp
            simp only [Act.put, List.getElem_toArray, List.getElem_cons_succ, List.getElem_cons_zero, List.setIfInBounds_toArray, List.set_cons_zero, List.set_cons_succ]
            refine wpAnyH_takeS HNS (i := 7) (v := .agg #[.int .i64 xa, .int .i64 xb]) rfl (by kernel_rfl) (by kernel_rfl) (fun _ _ _ h => h) (Or.inl ⟨by kernel_rfl, fun W hW => ?_⟩) hS ?_
            · (have hz := Held.below r11 hW; have z0 := hz.cell 0; have z1 := hz.cell 1; simp at z0 z1; go_simp)
            simp only [Act.put, List.getElem_toArray, List.getElem_cons_succ, List.getElem_cons_zero, List.setIfInBounds_toArray, List.set_cons_zero, List.set_cons_succ]
            refine wpAnyH_takeS HNS (i := 8) (v := .slice (some ⟨gL, 0, none⟩) nL c5) rfl (by kernel_rfl) (by kernel_rfl) (fun _ _ _ h => h) (Or.inl ⟨by kernel_rfl, fun W hW => ?_⟩) hS ?_
            · go_simp
            simp only [Act.put, List.getElem_toArray, List.getElem_cons_succ, List.getElem_cons_zero, List.setIfInBounds_toArray, List.set_cons_zero, List.set_cons_succ]
            refine wpAnyH_takeS HNS (i := 9) (v := .int .i64 (nL : Int)) rfl (by kernel_rfl) (by kernel_rfl) (fun _ _ _ h => h) (Or.inl ⟨by kernel_rfl, fun W hW => ?_⟩) hS ?_
            · go_simp
            simp only [Act.put, List.getElem_toArray, List.getElem_cons_succ, List.getElem_cons_zero, List.setIfInBounds_toArray, List.set_cons_zero, List.set_cons_succ]
            refine wpAnyH_takeS HNS (i := 10) (v := .int .i64 (m : Int)) rfl (by kernel_rfl) (by kernel_rfl) (fun _ _ _ h => h) (Or.inl ⟨by kernel_rfl, fun W hW => ?_⟩) hS ?_
            · (rw [← hs2]; clear hs2; have hwr : IntKind.i64.wrap ((nL : Int) - 1) = (nL : Int) - 1 := (by rw [IntKind.wrap_i64]; omega); go_simp)
            simp only [Act.put, List.getElem_toArray, List.getElem_cons_succ, List.getElem_cons_zero, List.setIfInBounds_toArray, List.set_cons_zero, List.set_cons_succ]
            refine wpAnyH_takeS HNS (i := 11) (v := .pointer (some ⟨gL, m * 2, none⟩)) rfl (by kernel_rfl) (by kernel_rfl) (fun _ _ _ h => h) (Or.inl ⟨by kernel_rfl, fun W hW => ?_⟩) hS ?_
            · go_simp
            simp only [Act.put, List.getElem_toArray, List.getElem_cons_succ, List.getElem_cons_zero, List.setIfInBounds_toArray, List.set_cons_zero, List.set_cons_succ]
            refine wpAnyH_takeS HNS (i := 12) (v := .agg #[.int .i64 xa, .int .i64 xb]) rfl (by kernel_rfl) (by kernel_rfl) (fun _ _ _ h => h) (Or.inl ⟨by kernel_rfl, fun W hW => ?_⟩) hS ?_
            · (have s0 := (hW.cell (p := ⟨gL, _, none⟩) hb2w).trans y0; have s1 := (hW.cell (p := ⟨gL, _, none⟩) hb2w).trans y1; go_simp)
            simp only [Act.put, List.getElem_toArray, List.getElem_cons_succ, List.getElem_cons_zero, List.setIfInBounds_toArray, List.set_cons_zero, List.set_cons_succ]
            refine wpAnyH_takeS HNS (i := 13) (v := .bool false) rfl (by kernel_rfl) (by kernel_rfl) (fun _ _ _ h => h) (Or.inl ⟨by kernel_rfl, fun W hW => ?_⟩) hS ?_
            · go_simp
            simp only [Act.put, List.getElem_toArray, List.getElem_cons_succ, List.getElem_cons_zero, List.setIfInBounds_toArray, List.set_cons_zero, List.set_cons_succ]
            refine wpAnyH_takeS HNS (i := 14) (v := .bool false) rfl (by kernel_rfl) (by kernel_rfl) (fun _ _ _ h => h) (Or.inl ⟨by kernel_rfl, fun W hW => ?_⟩) hS ?_
            · go_simp
            simp only [Act.put, List.getElem_toArray, List.getElem_cons_succ, List.getElem_cons_zero, List.setIfInBounds_toArray, List.set_cons_zero, List.set_cons_succ]
            refine wpAnyH_takeS HNS (i := 15) (v := .bool false) rfl (by kernel_rfl) (by kernel_rfl) (fun _ _ _ h => h) (Or.inl ⟨by kernel_rfl, fun W hW => ?_⟩) hS ?_
            · go_simp
            simp only [Act.put, List.getElem_toArray, List.getElem_cons_succ, List.getElem_cons_zero, List.setIfInBounds_toArray, List.set_cons_zero, List.set_cons_succ]
            refine wpAnyH_takeS HNS (i := 16) (v := .agg #[.int .i64 ya, .int .i64 yb]) rfl (by kernel_rfl) (by kernel_rfl) (fun _ _ _ h => h) (Or.inl ⟨by kernel_rfl, fun W hW => ?_⟩) hS ?_
            · (have hz := Held.below r14 hW; have z0 := hz.cell 0; have z1 := hz.cell 1; simp at z0 z1; go_simp)
            simp only [Act.put, List.getElem_toArray, List.getElem_cons_succ, List.getElem_cons_zero, List.setIfInBounds_toArray, List.set_cons_zero, List.set_cons_succ]
            refine wpAnyH_takeS HNS (i := 17) (v := .slice (some ⟨gL, 0, none⟩) nL c5) rfl (by kernel_rfl) (by kernel_rfl) (fun _ _ _ h => h) (Or.inl ⟨by kernel_rfl, fun W hW => ?_⟩) hS ?_
            · go_simp
            simp only [Act.put, List.getElem_toArray, List.getElem_cons_succ, List.getElem_cons_zero, List.setIfInBounds_toArray, List.set_cons_zero, List.set_cons_succ]
            refine wpAnyH_takeS HNS (i := 18) (v := .pointer (some ⟨gL, 0, none⟩)) rfl (by kernel_rfl) (by kernel_rfl) (fun _ _ _ h => h) (Or.inl ⟨by kernel_rfl, fun W hW => ?_⟩) hS ?_
            · go_simp
            simp only [Act.put, List.getElem_toArray, List.getElem_cons_succ, List.getElem_cons_zero, List.setIfInBounds_toArray, List.set_cons_zero, List.set_cons_succ]
            refine wpAnyH_takeS HNS (i := 19) (v := .agg #[.int .i64 ya, .int .i64 yb]) rfl (by kernel_rfl) (by kernel_rfl) (fun _ _ _ h => h) (Or.inl ⟨by kernel_rfl, fun W hW => ?_⟩) hS ?_
            · (have s0 := (hW.cell (p := ⟨gL, _, none⟩) hb2w).trans z0; have s1 := (hW.cell (p := ⟨gL, _, none⟩) hb2w).trans z1; go_simp)
            simp only [Act.put, List.getElem_toArray, List.getElem_cons_succ, List.getElem_cons_zero, List.setIfInBounds_toArray, List.set_cons_zero, List.set_cons_succ]
            refine wpAnyH_takeS HNS (i := 20) (v := .bool false) rfl (by kernel_rfl) (by kernel_rfl) (fun _ _ _ h => h) (Or.inl ⟨by kernel_rfl, fun W hW => ?_⟩) hS ?_
            · go_simp
            simp only [Act.put, List.getElem_toArray, List.getElem_cons_succ, List.getElem_cons_zero, List.setIfInBounds_toArray, List.set_cons_zero, List.set_cons_succ]
            refine wpAnyH_takeS HNS (i := 21) (v := .bool false) rfl (by kernel_rfl) (by kernel_rfl) (fun _ _ _ h => h) (Or.inl ⟨by kernel_rfl, fun W hW => ?_⟩) hS ?_
            · go_simp
            simp only [Act.put, List.getElem_toArray, List.getElem_cons_succ, List.getElem_cons_zero, List.setIfInBounds_toArray, List.set_cons_zero, List.set_cons_succ]
            refine wpAnyH_takeS HNS (i := 22) (v := .bool false) rfl (by kernel_rfl) (by kernel_rfl) (fun _ _ _ h => h) (Or.inl ⟨by kernel_rfl, fun W hW => ?_⟩) hS ?_
            · go_simp
            simp only [Act.put, List.getElem_toArray, List.getElem_cons_succ, List.getElem_cons_zero, List.setIfInBounds_toArray, List.set_cons_zero, List.set_cons_succ]
            refine wpAnyH_takeS HNS (i := 23) (v := .agg (rgc A10 C.buf.length c10 C.head C.many C.most)) rfl (by kernel_rfl) (by kernel_rfl) (fun _ _ _ h => h) (Or.inl ⟨by kernel_rfl, fun W hW => ?_⟩) hS ?_
            · (have hz := Held.below v10.x hW; have z0 := hz.cell 0; have z1 := hz.cell 1; have z2 := hz.cell 2; have z3 := hz.cell 3; simp at z0 z1 z2 z3; go_simp)
            simp only [Act.put, List.getElem_toArray, List.getElem_cons_succ, List.getElem_cons_zero, List.setIfInBounds_toArray, List.set_cons_zero, List.set_cons_succ]
            refine wpAnyH_ready (rs := [24]) (by kernel_rfl) (by simp) ?_
            refine (AllReadyH.cons rfl (fun K hK => ?_) AllReadyH.nil)
            · rw [if_pos (by kernel_rfl)]
              go_simp
              go_at_call 25
              (with_reducible refine (may_c HI.out.2.2.2.2.1 _ _ _).mono ?_)
              rintro _ u1 ⟨rfl, hb1⟩
              replace hS := Below.step hS hb1
              (repeat (first | go_skip | go_guarded | go_step | go_upon))
              refine hK.out _ _ hS (fun _ => ?_)
              clear hK K
              (try simp only [Act.put, List.getElem_toArray, List.getElem_cons_succ, List.getElem_cons_zero, List.setIfInBounds_toArray, List.set_cons_zero, List.set_cons_succ])
              refine wpAnyH_takeS HNS (i := 25) (v := .bool false) rfl (by kernel_rfl) (by kernel_rfl) (fun _ _ _ h => h) (Or.inl ⟨by kernel_rfl, fun W hW => ?_⟩) hS ?_
              · go_simp
              simp only [Act.put, List.getElem_toArray, List.getElem_cons_succ, List.getElem_cons_zero, List.setIfInBounds_toArray, List.set_cons_zero, List.set_cons_succ]
              refine wpAnyH_takeS HNS (i := 26) (v := .bool false) rfl (by kernel_rfl) (by kernel_rfl) (fun _ _ _ h => h) (Or.inl ⟨by kernel_rfl, fun W hW => ?_⟩) hS ?_
              · go_simp
              simp only [Act.put, List.getElem_toArray, List.getElem_cons_succ, List.getElem_cons_zero, List.setIfInBounds_toArray, List.set_cons_zero, List.set_cons_succ]
              refine wpAnyH_takeS HNS (i := 27) (v := .bool false) rfl (by kernel_rfl) (by kernel_rfl) (fun _ _ _ h => h) (Or.inl ⟨by kernel_rfl, fun W hW => ?_⟩) hS ?_
              · go_simp
              simp only [Act.put, List.getElem_toArray, List.getElem_cons_succ, List.getElem_cons_zero, List.setIfInBounds_toArray, List.set_cons_zero, List.set_cons_succ]
              refine wpAnyH_takeS HNS (i := 28) (v := .agg (rgc A13 S.buf.length c13 S.head S.many S.most)) rfl (by kernel_rfl) (by kernel_rfl) (fun _ _ _ h => h) (Or.inl ⟨by kernel_rfl, fun W hW => ?_⟩) hS ?_
              · (have hz := Held.below v13.x hW; have z0 := hz.cell 0; have z1 := hz.cell 1; have z2 := hz.cell 2; have z3 := hz.cell 3; simp at z0 z1 z2 z3; go_simp)
              simp only [Act.put, List.getElem_toArray, List.getElem_cons_succ, List.getElem_cons_zero, List.setIfInBounds_toArray, List.set_cons_zero, List.set_cons_succ]
              refine wpAnyH_ready (rs := [29]) (by kernel_rfl) (by simp) ?_
              refine (AllReadyH.cons rfl (fun K hK => ?_) AllReadyH.nil)
              · rw [if_pos (by kernel_rfl)]
                go_simp
                go_at_call 25
                (with_reducible refine (may_c HI.out.2.2.2.2.2.1 _ _ _).mono ?_)
                rintro _ u2 ⟨rfl, hb2⟩
                replace hS := Below.step hS hb2
                (repeat (first | go_skip | go_guarded | go_step | go_upon))
                refine hK.out _ _ hS (fun _ => ?_)
                clear hK K
                (try simp only [Act.put, List.getElem_toArray, List.getElem_cons_succ, List.getElem_cons_zero, List.setIfInBounds_toArray, List.set_cons_zero, List.set_cons_succ])
                refine wpAnyH_takeS HNS (i := 30) (v := .bool false) rfl (by kernel_rfl) (by kernel_rfl) (fun _ _ _ h => h) (Or.inl ⟨by kernel_rfl, fun W hW => ?_⟩) hS ?_
                · go_simp
                simp only [Act.put, List.getElem_toArray, List.getElem_cons_succ, List.getElem_cons_zero, List.setIfInBounds_toArray, List.set_cons_zero, List.set_cons_succ]
                refine wpAnyH_takeS HNS (i := 31) (v := .bool false) rfl (by kernel_rfl) (by kernel_rfl) (fun _ _ _ h => h) (Or.inl ⟨by kernel_rfl, fun W hW => ?_⟩) hS ?_
                · go_simp
                simp only [Act.put, List.getElem_toArray, List.getElem_cons_succ, List.getElem_cons_zero, List.setIfInBounds_toArray, List.set_cons_zero, List.set_cons_succ]
                refine wpAnyH_takeS HNS (i := 32) (v := .bool false) rfl (by kernel_rfl) (by kernel_rfl) (fun _ _ _ h => h) (Or.inl ⟨by kernel_rfl, fun W hW => ?_⟩) hS ?_
                · go_simp
                simp only [Act.put, List.getElem_toArray, List.getElem_cons_succ, List.getElem_cons_zero, List.setIfInBounds_toArray, List.set_cons_zero, List.set_cons_succ]
                refine wpAnyH_takeS HNS (i := 33) (v := .agg (rgc A16 D.buf.length c16 D.head D.many D.most)) rfl (by kernel_rfl) (by kernel_rfl) (fun _ _ _ h => h) (Or.inl ⟨by kernel_rfl, fun W hW => ?_⟩) hS ?_
                · (have hz := Held.below v16.x hW; have z0 := hz.cell 0; have z1 := hz.cell 1; have z2 := hz.cell 2; have z3 := hz.cell 3; simp at z0 z1 z2 z3; go_simp)
                simp only [Act.put, List.getElem_toArray, List.getElem_cons_succ, List.getElem_cons_zero, List.setIfInBounds_toArray, List.set_cons_zero, List.set_cons_succ]
                refine wpAnyH_ready (rs := [34]) (by kernel_rfl) (by simp) ?_
                refine (AllReadyH.cons rfl (fun K hK => ?_) AllReadyH.nil)
                · rw [if_pos (by kernel_rfl)]
                  go_simp
                  go_at_call 25
                  (with_reducible refine (may_c HH.out.2.2.2.2 _ _ _).mono ?_)
                  rintro _ u3 ⟨rfl, hb3⟩
                  replace hS := Below.step hS hb3
                  (repeat (first | go_skip | go_guarded | go_step | go_upon))
                  refine hK.out _ _ hS (fun _ => ?_)
                  clear hK K
                  (try simp only [Act.put, List.getElem_toArray, List.getElem_cons_succ, List.getElem_cons_zero, List.setIfInBounds_toArray, List.set_cons_zero, List.set_cons_succ])
                  refine wpAnyH_takeS HNS (i := 35) (v := .bool false) rfl (by kernel_rfl) (by kernel_rfl) (fun _ _ _ h => h) (Or.inl ⟨by kernel_rfl, fun W hW => ?_⟩) hS ?_
                  · go_simp
                  simp only [Act.put, List.getElem_toArray, List.getElem_cons_succ, List.getElem_cons_zero, List.setIfInBounds_toArray, List.set_cons_zero, List.set_cons_succ]
                  refine wpAnyH_takeS HNS (i := 36) (v := .bool false) rfl (by kernel_rfl) (by kernel_rfl) (fun _ _ _ h => h) (Or.inl ⟨by kernel_rfl, fun W hW => ?_⟩) hS ?_
                  · go_simp
                  simp only [Act.put, List.getElem_toArray, List.getElem_cons_succ, List.getElem_cons_zero, List.setIfInBounds_toArray, List.set_cons_zero, List.set_cons_succ]
                  refine wpAnyH_done (by kernel_rfl) ?_ _
                  have hz := Below.step hW hS
                  replace v1 := v1.below hS
                  replace pl := pat_later pl hS
                  replace w5 := own_later w5 hS
                  replace v7 := v7.below hS
                  replace w9 := own_later w9 hS
                  replace r11 := Held.below r11 hS
                  replace v10 := v10.below hS
                  replace r14 := Held.below r14 hS
                  replace v13 := v13.below hS
                  replace v16 := v16.below hS
                  replace w17 := own_later w17 hS
                  clear hW
                  have hW := hz
                  clear hz hS
                  clear y0 y1 z0 z1 hb2w EX EY
                  go_upto_region 16 with (fail)
                  have hdr := (Below.refl u3.heap.size u3).drew
                  replace v1 := v1.below hdr
                  replace pl := pat_later pl hdr
                  replace w5 := own_later w5 hdr
                  replace v7 := v7.below hdr
                  replace w9 := own_later w9 hdr
                  replace r11 := Held.below r11 hdr
                  replace v10 := v10.below hdr
                  replace r14 := Held.below r14 hdr
                  replace v13 := v13.below hdr
                  replace v16 := v16.below hdr
                  replace w17 := own_later w17 hdr
                  replace hW := Below.step hW hdr
                  clear hdr
                  refine wp_region_held_drew (S := fun W => Below u3.drew.heap.size u3.drew W) (by kernel_rfl) (Below.refl _ _) (fun hS => ?_)
                  generalize u3.drew = W13 at *
                  show wpAnyH _ _ _ _ _ 34 #[false, false, false, false, false, false, false, false, false, false, false, false, false, false, false, false, false, false, false, false, false, false, false, false, false, false, false, false, false, false, false, false, false, false] _ _
                  refine wpAnyH_begin (by kernel_rfl) (fun HNS => ?_)
                  have hq : Int.tdiv ((nL : Int) + 1) 2 = (hh : Int) := by
                    have := HH.out.1
                    rw [Int.tdiv_eq_ediv_of_nonneg (by omega)]
                    omega
                  have hhb : hh ≤ nL := by have := HH.out.1; omega
                  have hw1 : IntKind.i64.wrap ((nL : Int) + 1) = (nL : Int) + 1 := by rw [IntKind.wrap_i64]; omega
                  have hw2 : IntKind.i64.wrap (hh : Int) = (hh : Int) := by rw [IntKind.wrap_i64]; omega
                  have C1 := fun W => run_cut_head (some ⟨gL, 0, none⟩) nL c5 m (by have := HCP.out; omega) W
                  have C2 : ∀ W, (Instr.slice 22 (.slice (some ⟨gL, 0, none⟩) nL c5) (some (.int .i64 1)) none none).run Try.prog W = .ok (.slice (cutA (some ⟨gL, 0, none⟩) c5 1) (nL - 1) (c5 - 1)) W := fun W => run_cut_tail (some ⟨gL, 0, none⟩) nL c5 1 (by omega) W
                  have C3 := fun W => run_cut_head (some ⟨gL, 0, none⟩) nL c5 hh (by have := HCP.out; omega) W
                  have C4 := fun W => run_cut_tail (some ⟨gL, 0, none⟩) nL c5 hh hhb W
                  have HLC := Lib.hid (show L.length ≤ c5 by rw [HN.out.1]; exact HCP.out)
                  have pw := own2_at w5
                  have HK1 := Lib.hid (show (L.take m).length = m by rw [List.length_take, HN.out.1]; omega)
                  have HK2 := Lib.hid (show (L.drop 1).length = nL - 1 by rw [List.length_drop, HN.out.1])
                  have HK3 := Lib.hid (show (L.take hh).length = hh by rw [List.length_take, HN.out.1]; omega)
                  have HK4 := Lib.hid (show (L.drop hh).length = nL - hh by rw [List.length_drop, HN.out.1])
                  have hUT := HH.out.2.1
                  subst hUT
                  have HLIM := Lib.hid (show m ≤ 100000 ∧ nL - 1 ≤ 100000 ∧ hh ≤ 100000 ∧ nL - hh ≤ 100000 by have := HN.out.2.1.2; omega)
                  refine wpAnyH_takeS HNS (i := 0) (v := .agg (rgc A10 C.buf.length c10 C.head C.many C.most)) rfl (by kernel_rfl) (by kernel_rfl) (fun _ _ _ h => h) (Or.inl ⟨by kernel_rfl, fun W hW => ?_⟩) hS ?_
                  · (have hz := Held.below v10.x hW; have z0 := hz.cell 0; have z1 := hz.cell 1; have z2 := hz.cell 2; have z3 := hz.cell 3; simp at z0 z1 z2 z3; go_simp)
                  simp only [Act.put, List.getElem_toArray, List.getElem_cons_succ, List.getElem_cons_zero, List.setIfInBounds_toArray, List.set_cons_zero, List.set_cons_succ]
                  refine wpAnyH_takeS HNS (i := 2) (v := .slice (some ⟨gL, 0, none⟩) nL c5) rfl (by kernel_rfl) (by kernel_rfl) (fun _ _ _ h => h) (Or.inl ⟨by kernel_rfl, fun W hW => ?_⟩) hS ?_
                  · go_simp
                  simp only [Act.put, List.getElem_toArray, List.getElem_cons_succ, List.getElem_cons_zero, List.setIfInBounds_toArray, List.set_cons_zero, List.set_cons_succ]
                  refine wpAnyH_takeS HNS (i := 3) (v := .int .i64 (nL : Int)) rfl (by kernel_rfl) (by kernel_rfl) (fun _ _ _ h => h) (Or.inl ⟨by kernel_rfl, fun W hW => ?_⟩) hS ?_
                  · go_simp
                  simp only [Act.put, List.getElem_toArray, List.getElem_cons_succ, List.getElem_cons_zero, List.setIfInBounds_toArray, List.set_cons_zero, List.set_cons_succ]
                  refine wpAnyH_takeS HNS (i := 4) (v := .int .i64 (m : Int)) rfl (by kernel_rfl) (by kernel_rfl) (fun _ _ _ h => h) (Or.inl ⟨by kernel_rfl, fun W hW => ?_⟩) hS ?_
                  · (rw [← hs2]; clear hs2; have hwr : IntKind.i64.wrap ((nL : Int) - 1) = (nL : Int) - 1 := (by rw [IntKind.wrap_i64]; omega); go_simp)
                  simp only [Act.put, List.getElem_toArray, List.getElem_cons_succ, List.getElem_cons_zero, List.setIfInBounds_toArray, List.set_cons_zero, List.set_cons_succ]
                  refine wpAnyH_takeS HNS (i := 5) (v := .slice (cutA (some ⟨gL, 0, none⟩) c5 0) m c5) rfl (by kernel_rfl) (by kernel_rfl) (fun _ _ _ h => h) (Or.inl ⟨by kernel_rfl, fun W hW => ?_⟩) hS ?_
                  · (simp only [execOp, Act.eval]; go_simp)
                  simp only [Act.put, List.getElem_toArray, List.getElem_cons_succ, List.getElem_cons_zero, List.setIfInBounds_toArray, List.set_cons_zero, List.set_cons_succ]
                  refine wpAnyH_ready (rs := [1]) (by kernel_rfl) (by simp) ?_
                  refine (AllReadyH.cons rfl (fun K hK => ?_) AllReadyH.nil)
                  · rw [if_pos (by kernel_rfl)]
                    go_simp
                    go_at_call 23
                    (with_reducible refine (items_c HI.out.2.2.1 HK1.out c10 _ (v10.read.below hS).p).mono ?_)
                    rintro _ u4 ⟨Ai4, ci4, rfl, wi4, hb4⟩
                    have hpI := own2_at wi4
                    replace hS := Below.step hS hb4
                    (repeat (first | go_skip | go_guarded | go_step | go_upon))
                    refine hK.out _ _ hS (fun _ => ?_)
                    clear hK K
                    (try simp only [Act.put, List.getElem_toArray, List.getElem_cons_succ, List.getElem_cons_zero, List.setIfInBounds_toArray, List.set_cons_zero, List.set_cons_succ])
                    refine wpAnyH_ready (rs := [6]) (by kernel_rfl) (by simp) ?_
                    refine (AllReadyH.cons rfl (fun K hK => ?_) AllReadyH.nil)
                    · rw [if_pos (by kernel_rfl)]
                      go_simp
                      go_at_call 22
                      (with_reducible refine (refs_c (l := L.take m) (k := L.take m) (R := true) HK1.out HK1.out (by simp) HLIM.out.1 HLIM.out.1 _ _ _ hpI (pat_later (cut_head pw HLC.out m) hS)).mono ?_)
                      rintro _ u5 ⟨rfl, hb5⟩
                      replace hpI := pat_later hpI hb5
                      clear hpI
                      replace hS := Below.step hS hb5
                      (repeat (first | go_skip | go_guarded | go_step | go_upon))
                      refine hK.out _ _ hS (fun _ => ?_)
                      clear hK K
                      (try simp only [Act.put, List.getElem_toArray, List.getElem_cons_succ, List.getElem_cons_zero, List.setIfInBounds_toArray, List.set_cons_zero, List.set_cons_succ])
                      refine wpAnyH_takeS HNS (i := 7) (v := .bool true) rfl (by kernel_rfl) (by kernel_rfl) (fun _ _ _ h => h) (Or.inl ⟨by kernel_rfl, fun W hW => ?_⟩) hS ?_
                      · go_simp
                      simp only [Act.put, List.getElem_toArray, List.getElem_cons_succ, List.getElem_cons_zero, List.setIfInBounds_toArray, List.set_cons_zero, List.set_cons_succ]
                      refine wpAnyH_takeS HNS (i := 8) (v := .agg (rgc A13 S.buf.length c13 S.head S.many S.most)) rfl (by kernel_rfl) (by kernel_rfl) (fun _ _ _ h => h) (Or.inl ⟨by kernel_rfl, fun W hW => ?_⟩) hS ?_
                      · (have hz := Held.below v13.x hW; have z0 := hz.cell 0; have z1 := hz.cell 1; have z2 := hz.cell 2; have z3 := hz.cell 3; simp at z0 z1 z2 z3; go_simp)
                      simp only [Act.put, List.getElem_toArray, List.getElem_cons_succ, List.getElem_cons_zero, List.setIfInBounds_toArray, List.set_cons_zero, List.set_cons_succ]
                      refine wpAnyH_takeS HNS (i := 10) (v := .slice (some ⟨gL, 0, none⟩) nL c5) rfl (by kernel_rfl) (by kernel_rfl) (fun _ _ _ h => h) (Or.inl ⟨by kernel_rfl, fun W hW => ?_⟩) hS ?_
                      · go_simp
                      simp only [Act.put, List.getElem_toArray, List.getElem_cons_succ, List.getElem_cons_zero, List.setIfInBounds_toArray, List.set_cons_zero, List.set_cons_succ]
                      refine wpAnyH_takeS HNS (i := 11) (v := .slice (cutA (some ⟨gL, 0, none⟩) c5 1) (nL - 1) (c5 - 1)) rfl (by kernel_rfl) (by kernel_rfl) (fun _ _ _ h => h) (Or.inl ⟨by kernel_rfl, fun W hW => ?_⟩) hS ?_
                      · (simp only [execOp, Act.eval]; go_simp)
                      simp only [Act.put, List.getElem_toArray, List.getElem_cons_succ, List.getElem_cons_zero, List.setIfInBounds_toArray, List.set_cons_zero, List.set_cons_succ]
                      refine wpAnyH_ready (rs := [9]) (by kernel_rfl) (by simp) ?_
                      refine (AllReadyH.cons rfl (fun K hK => ?_) AllReadyH.nil)
                      · rw [if_pos (by kernel_rfl)]
                        go_simp
                        go_at_call 23
                        (with_reducible refine (items_c HI.out.2.2.2.1 HK2.out c13 _ (v13.read.below hS).p).mono ?_)
                        rintro _ u6 ⟨Ai6, ci6, rfl, wi6, hb6⟩
                        have hpI := own2_at wi6
                        replace hS := Below.step hS hb6
                        (repeat (first | go_skip | go_guarded | go_step | go_upon))
                        refine hK.out _ _ hS (fun _ => ?_)
                        clear hK K
                        (try simp only [Act.put, List.getElem_toArray, List.getElem_cons_succ, List.getElem_cons_zero, List.setIfInBounds_toArray, List.set_cons_zero, List.set_cons_succ])
                        refine wpAnyH_ready (rs := [12]) (by kernel_rfl) (by simp) ?_
                        refine (AllReadyH.cons rfl (fun K hK => ?_) AllReadyH.nil)
                        · rw [if_pos (by kernel_rfl)]
                          go_simp
                          go_at_call 22
                          (with_reducible refine (refs_c (l := L.drop 1) (k := L.drop 1) (R := true) HK2.out HK2.out (by simp) HLIM.out.2.1 HLIM.out.2.1 _ _ _ hpI (pat_later (cut_tail pw HLC.out 1) hS)).mono ?_)
                          rintro _ u7 ⟨rfl, hb7⟩
                          replace hpI := pat_later hpI hb7
                          clear hpI
                          replace hS := Below.step hS hb7
                          (repeat (first | go_skip | go_guarded | go_step | go_upon))
                          refine hK.out _ _ hS (fun _ => ?_)
                          clear hK K
                          (try simp only [Act.put, List.getElem_toArray, List.getElem_cons_succ, List.getElem_cons_zero, List.setIfInBounds_toArray, List.set_cons_zero, List.set_cons_succ])
                          refine wpAnyH_takeS HNS (i := 13) (v := .bool true) rfl (by kernel_rfl) (by kernel_rfl) (fun _ _ _ h => h) (Or.inl ⟨by kernel_rfl, fun W hW => ?_⟩) hS ?_
                          · go_simp
                          simp only [Act.put, List.getElem_toArray, List.getElem_cons_succ, List.getElem_cons_zero, List.setIfInBounds_toArray, List.set_cons_zero, List.set_cons_succ]
                          refine wpAnyH_takeS HNS (i := 14) (v := .bool true) rfl (by kernel_rfl) (by kernel_rfl) (fun _ _ _ h => h) (Or.inl ⟨by kernel_rfl, fun W hW => ?_⟩) hS ?_
                          · go_simp
                          simp only [Act.put, List.getElem_toArray, List.getElem_cons_succ, List.getElem_cons_zero, List.setIfInBounds_toArray, List.set_cons_zero, List.set_cons_succ]
                          refine wpAnyH_takeS HNS (i := 15) (v := .slice A17 hh c17) rfl (by kernel_rfl) (by kernel_rfl) (fun _ _ _ h => h) (Or.inl ⟨by kernel_rfl, fun W hW => ?_⟩) hS ?_
                          · go_simp
                          simp only [Act.put, List.getElem_toArray, List.getElem_cons_succ, List.getElem_cons_zero, List.setIfInBounds_toArray, List.set_cons_zero, List.set_cons_succ]
                          refine wpAnyH_takeS HNS (i := 16) (v := .slice (some ⟨gL, 0, none⟩) nL c5) rfl (by kernel_rfl) (by kernel_rfl) (fun _ _ _ h => h) (Or.inl ⟨by kernel_rfl, fun W hW => ?_⟩) hS ?_
                          · go_simp
                          simp only [Act.put, List.getElem_toArray, List.getElem_cons_succ, List.getElem_cons_zero, List.setIfInBounds_toArray, List.set_cons_zero, List.set_cons_succ]
                          refine wpAnyH_takeS HNS (i := 17) (v := .int .i64 (nL : Int)) rfl (by kernel_rfl) (by kernel_rfl) (fun _ _ _ h => h) (Or.inl ⟨by kernel_rfl, fun W hW => ?_⟩) hS ?_
                          · go_simp
                          simp only [Act.put, List.getElem_toArray, List.getElem_cons_succ, List.getElem_cons_zero, List.setIfInBounds_toArray, List.set_cons_zero, List.set_cons_succ]
                          refine wpAnyH_takeS HNS (i := 18) (v := .int .i64 ((nL : Int) + 1)) rfl (by kernel_rfl) (by kernel_rfl) (fun _ _ _ h => h) (Or.inl ⟨by kernel_rfl, fun W hW => ?_⟩) hS ?_
                          · go_simp
                          simp only [Act.put, List.getElem_toArray, List.getElem_cons_succ, List.getElem_cons_zero, List.setIfInBounds_toArray, List.set_cons_zero, List.set_cons_succ]
                          refine wpAnyH_takeS HNS (i := 19) (v := .int .i64 (hh : Int)) rfl (by kernel_rfl) (by kernel_rfl) (fun _ _ _ h => h) (Or.inl ⟨by kernel_rfl, fun W hW => ?_⟩) hS ?_
                          · go_simp
                          simp only [Act.put, List.getElem_toArray, List.getElem_cons_succ, List.getElem_cons_zero, List.setIfInBounds_toArray, List.set_cons_zero, List.set_cons_succ]
                          refine wpAnyH_takeS HNS (i := 20) (v := .slice (cutA (some ⟨gL, 0, none⟩) c5 0) hh c5) rfl (by kernel_rfl) (by kernel_rfl) (fun _ _ _ h => h) (Or.inl ⟨by kernel_rfl, fun W hW => ?_⟩) hS ?_
                          · (simp only [execOp, Act.eval]; go_simp)
                          simp only [Act.put, List.getElem_toArray, List.getElem_cons_succ, List.getElem_cons_zero, List.setIfInBounds_toArray, List.set_cons_zero, List.set_cons_succ]
                          refine wpAnyH_ready (rs := [21]) (by kernel_rfl) (by simp) ?_
                          refine (AllReadyH.cons rfl (fun K hK => ?_) AllReadyH.nil)
                          · rw [if_pos (by kernel_rfl)]
                            go_simp
                            go_at_call 22
                            (with_reducible refine (refs_c (l := L.take hh) (k := L.take hh) (R := true) HK3.out HK3.out (by simp) HLIM.out.2.2.1 HLIM.out.2.2.1 _ _ _ (pat_later (own2_at w17) hS) (pat_later (cut_head pw HLC.out hh) hS)).mono ?_)
                            rintro _ u8 ⟨rfl, hb8⟩
                            replace hS := Below.step hS hb8
                            (repeat (first | go_skip | go_guarded | go_step | go_upon))
                            refine hK.out _ _ hS (fun _ => ?_)
                            clear hK K
                            (try simp only [Act.put, List.getElem_toArray, List.getElem_cons_succ, List.getElem_cons_zero, List.setIfInBounds_toArray, List.set_cons_zero, List.set_cons_succ])
                            refine wpAnyH_takeS HNS (i := 22) (v := .bool true) rfl (by kernel_rfl) (by kernel_rfl) (fun _ _ _ h => h) (Or.inl ⟨by kernel_rfl, fun W hW => ?_⟩) hS ?_
                            · go_simp
                            simp only [Act.put, List.getElem_toArray, List.getElem_cons_succ, List.getElem_cons_zero, List.setIfInBounds_toArray, List.set_cons_zero, List.set_cons_succ]
                            refine wpAnyH_takeS HNS (i := 23) (v := .bool true) rfl (by kernel_rfl) (by kernel_rfl) (fun _ _ _ h => h) (Or.inl ⟨by kernel_rfl, fun W hW => ?_⟩) hS ?_
                            · go_simp
                            simp only [Act.put, List.getElem_toArray, List.getElem_cons_succ, List.getElem_cons_zero, List.setIfInBounds_toArray, List.set_cons_zero, List.set_cons_succ]
                            refine wpAnyH_takeS HNS (i := 24) (v := .agg (rgc A16 D.buf.length c16 D.head D.many D.most)) rfl (by kernel_rfl) (by kernel_rfl) (fun _ _ _ h => h) (Or.inl ⟨by kernel_rfl, fun W hW => ?_⟩) hS ?_
                            · (have hz := Held.below v16.x hW; have z0 := hz.cell 0; have z1 := hz.cell 1; have z2 := hz.cell 2; have z3 := hz.cell 3; simp at z0 z1 z2 z3; go_simp)
                            simp only [Act.put, List.getElem_toArray, List.getElem_cons_succ, List.getElem_cons_zero, List.setIfInBounds_toArray, List.set_cons_zero, List.set_cons_succ]
                            refine wpAnyH_takeS HNS (i := 26) (v := .slice (some ⟨gL, 0, none⟩) nL c5) rfl (by kernel_rfl) (by kernel_rfl) (fun _ _ _ h => h) (Or.inl ⟨by kernel_rfl, fun W hW => ?_⟩) hS ?_
                            · go_simp
                            simp only [Act.put, List.getElem_toArray, List.getElem_cons_succ, List.getElem_cons_zero, List.setIfInBounds_toArray, List.set_cons_zero, List.set_cons_succ]
                            refine wpAnyH_takeS HNS (i := 27) (v := .int .i64 (nL : Int)) rfl (by kernel_rfl) (by kernel_rfl) (fun _ _ _ h => h) (Or.inl ⟨by kernel_rfl, fun W hW => ?_⟩) hS ?_
                            · go_simp
                            simp only [Act.put, List.getElem_toArray, List.getElem_cons_succ, List.getElem_cons_zero, List.setIfInBounds_toArray, List.set_cons_zero, List.set_cons_succ]
                            refine wpAnyH_takeS HNS (i := 28) (v := .int .i64 ((nL : Int) + 1)) rfl (by kernel_rfl) (by kernel_rfl) (fun _ _ _ h => h) (Or.inl ⟨by kernel_rfl, fun W hW => ?_⟩) hS ?_
                            · go_simp
                            simp only [Act.put, List.getElem_toArray, List.getElem_cons_succ, List.getElem_cons_zero, List.setIfInBounds_toArray, List.set_cons_zero, List.set_cons_succ]
                            refine wpAnyH_takeS HNS (i := 29) (v := .int .i64 (hh : Int)) rfl (by kernel_rfl) (by kernel_rfl) (fun _ _ _ h => h) (Or.inl ⟨by kernel_rfl, fun W hW => ?_⟩) hS ?_
                            · go_simp
                            simp only [Act.put, List.getElem_toArray, List.getElem_cons_succ, List.getElem_cons_zero, List.setIfInBounds_toArray, List.set_cons_zero, List.set_cons_succ]
                            refine wpAnyH_takeS HNS (i := 30) (v := .slice (cutA (some ⟨gL, 0, none⟩) c5 hh) (nL - hh) (c5 - hh)) rfl (by kernel_rfl) (by kernel_rfl) (fun _ _ _ h => h) (Or.inl ⟨by kernel_rfl, fun W hW => ?_⟩) hS ?_
                            · (simp only [execOp, Act.eval]; go_simp)
                            simp only [Act.put, List.getElem_toArray, List.getElem_cons_succ, List.getElem_cons_zero, List.setIfInBounds_toArray, List.set_cons_zero, List.set_cons_succ]
                            refine wpAnyH_ready (rs := [25]) (by kernel_rfl) (by simp) ?_
                            refine (AllReadyH.cons rfl (fun K hK => ?_) AllReadyH.nil)
                            · rw [if_pos (by kernel_rfl)]
                              go_simp
                              go_at_call 23
                              (with_reducible refine (items_c HH.out.2.2.1 HK4.out c16 _ (v16.read.below hS).p).mono ?_)
                              rintro _ u9 ⟨Ai9, ci9, rfl, wi9, hb9⟩
                              have hpI := own2_at wi9
                              replace hS := Below.step hS hb9
                              (repeat (first | go_skip | go_guarded | go_step | go_upon))
                              refine hK.out _ _ hS (fun _ => ?_)
                              clear hK K
                              (try simp only [Act.put, List.getElem_toArray, List.getElem_cons_succ, List.getElem_cons_zero, List.setIfInBounds_toArray, List.set_cons_zero, List.set_cons_succ])
                              refine wpAnyH_ready (rs := [31]) (by kernel_rfl) (by simp) ?_
                              refine (AllReadyH.cons rfl (fun K hK => ?_) AllReadyH.nil)
                              · rw [if_pos (by kernel_rfl)]
                                go_simp
                                go_at_call 22
                                (with_reducible refine (refs_c (l := L.drop hh) (k := L.drop hh) (R := true) HK4.out HK4.out (by simp) HLIM.out.2.2.2 HLIM.out.2.2.2 _ _ _ hpI (pat_later (cut_tail pw HLC.out hh) hS)).mono ?_)
                                rintro _ u10 ⟨rfl, hb10⟩
                                replace hpI := pat_later hpI hb10
                                clear hpI
                                replace hS := Below.step hS hb10
                                (repeat (first | go_skip | go_guarded | go_step | go_upon))
                                refine hK.out _ _ hS (fun _ => ?_)
                                clear hK K
                                (try simp only [Act.put, List.getElem_toArray, List.getElem_cons_succ, List.getElem_cons_zero, List.setIfInBounds_toArray, List.set_cons_zero, List.set_cons_succ])
                                refine wpAnyH_takeS HNS (i := 32) (v := .bool true) rfl (by kernel_rfl) (by kernel_rfl) (fun _ _ _ h => h) (Or.inl ⟨by kernel_rfl, fun W hW => ?_⟩) hS ?_
                                · go_simp
                                simp only [Act.put, List.getElem_toArray, List.getElem_cons_succ, List.getElem_cons_zero, List.setIfInBounds_toArray, List.set_cons_zero, List.set_cons_succ]
                                refine wpAnyH_takeS HNS (i := 33) (v := .bool true) rfl (by kernel_rfl) (by kernel_rfl) (fun _ _ _ h => h) (Or.inl ⟨by kernel_rfl, fun W hW => ?_⟩) hS ?_
                                · go_simp
                                simp only [Act.put, List.getElem_toArray, List.getElem_cons_succ, List.getElem_cons_zero, List.setIfInBounds_toArray, List.set_cons_zero, List.set_cons_succ]
                                refine wpAnyH_done (by kernel_rfl) ?_ _
                                (repeat (first | go_skip | go_guarded | go_step | go_upon))
                                go_ret
                                exact ⟨rfl, Below.step hW hS⟩
        · subst hE
          have q62 : decide ((nb : Int) ≤ r.most) = true := decide_eq_true (by have := HNB.out; omega)
          have HXM := Lib.hid hXm
          have HXI := Lib.hid hXi
          clear hXm hXi hle
          go_upto_region 9 with (first
            | (guard_target = wpList _ _ _ (Oper.mk (some 69) _ _ _ _ _ :: _) _ _; refine wpList_doneR rfl ?_; refine wpList_load_row rfl 24 _ rfl g7 rfl _ _ _ _ v7.x Try.underlying24 rfl (by kernel_rfl) ?_)
            | (go_at_call 25; go_loud ((with_reducible refine (may_c HXM.out _ _ _).mono ?_); rintro _ um ⟨rfl, hbm⟩; replace v1 := v1.below hbm; replace pl := pat_later pl hbm; replace w5 := own_later w5 hbm; replace v7 := v7.below hbm; replace w9 := own_later w9 hbm; replace hW := Below.step hW hbm))
            | (guard_target = wpList _ _ _ (Oper.mk (some 73) _ _ _ _ _ :: _) _ _; refine wpList_doneR rfl ?_; refine wpList_load_row rfl 24 _ rfl g7 rfl _ _ _ _ v7.x Try.underlying24 rfl (by kernel_rfl) ?_)
            | (go_at_call 23; go_loud ((with_reducible refine (items_c HXI.out HBL.out c7 _ v7.read.p).mono ?_); rintro _ ui ⟨Ai, ci, rfl, wi, hbi⟩; replace v1 := v1.below hbi; replace pl := pat_later pl hbi; replace w5 := own_later w5 hbi; replace v7 := v7.below hbi; replace w9 := own_later w9 hbi; replace hW := Below.step hW hbi; have hpI := own2_at wi))
            | (go_at_call 22; go_loud ((with_reducible refine (refs_c (l := L ++ l) (k := L ++ l) (R := true) HBL.out HBL.out (by simp) (by have := HN.out; have := HNB.out; omega) (by have := HN.out; have := HNB.out; omega) _ _ _ hpI (own2_at w9)).mono ?_); rintro _ ur ⟨rfl, hbr⟩; replace v1 := v1.below hbr; replace pl := pat_later pl hbr; replace w5 := own_later w5 hbr; replace v7 := v7.below hbr; replace w9 := own_later w9 hbr; replace hW := Below.step hW hbr; clear hpI)))
          clear x2 x3 q62
          have HF := Lib.hid (show True from trivial)
          generalize ur = W7 at *
          have bP := pop_buf r
          have bS := steal_buf r
          have bH : (halfR r).1.buf = r.buf := stealN_buf _ _
          have hhf := half_all HMY.out
          have hst := stealN_ok 0 HMY.out (Nat.zero_le _)
          have hsok := fun h0 => steal_ok HMY.out h0
          have hpok := fun h0 => pop_ok HMY.out h0
          obtain ⟨C, x, bC, hC⟩ : ∃ C x b, popR r = (C, x, b) := ⟨_, _, _, rfl⟩
          obtain ⟨S, y, bS2, hS2⟩ : ∃ C x b, stealR r = (C, x, b) := ⟨_, _, _, rfl⟩
          obtain ⟨D, U, hD⟩ : ∃ D U, halfR r = (D, U) := ⟨_, _, rfl⟩
          obtain ⟨hh, hhh⟩ : ∃ z, z = halfN r := ⟨_, rfl⟩
          have hU : U = L.take hh := by
            have h9 : (halfR r).2 = (itemsR r).take (halfN r) := rfl
            rw [hD, HLQ.out, ← hhh] at h9
            exact h9
          have hhL : hh = (nL + 1) / 2 := by
            rw [hhh]
            unfold halfN
            rw [HLQ.out, HN.out.1]
          rw [hC] at bP hpok
          rw [hS2] at bS hsok
          rw [hD, HLQ.out, ← hhh] at hhf
          rw [hD] at bH
          rw [HLQ.out] at hpok hsok
          simp only at bP bS bH hhf hpok hsok
          obtain ⟨hf1, -, hf3, hf4, hf5⟩ := hhf
          obtain ⟨xa, xb⟩ := x
          obtain ⟨ya, yb⟩ := y
          have HC := Lib.hid hC
          have HS := Lib.hid hS2
          have HD := Lib.hid hD
          have HH := Lib.hid (And.intro hhL (And.intro hU (And.intro hf1 (And.intro hf3 hf5))))
          have HPO := Lib.hid hpok
          have HSO := Lib.hid hsok
          have HB := Lib.hid (show C.buf.length ≤ 100000 ∧ S.buf.length ≤ 100000 ∧ D.buf.length ≤ 100000 from ⟨by rw [bP]; exact HN.out.2.2.1, by rw [bS]; exact HN.out.2.2.1, by rw [bH]; exact HN.out.2.2.1⟩)
          clear bP bS bH hst hpok hsok hC hS2 hD hU hhL hhh hf1 hf3 hf4 hf5
          go_upto_region 10 with (first
            | (guard_target = wpList _ _ _ (Oper.mk (some 92) _ _ _ _ none :: _) _ _; refine wpList_load_row rfl 24 _ rfl w.heap.size rfl _ _ _ _ v1.x Try.underlying24 rfl (by kernel_rfl) ?_)
            | (go_at_call 13; go_loud ((with_reducible refine (pop_c HC.out HN.out.2.2.1 c _ v1.p).mono ?_); rintro _ u ⟨v, rfl, ⟨A10, c10, rfl, ho⟩, hb⟩; have hn := (Held.new u 24 rz0).alloc (.cells rf0 33); have hm := Held.new1 u (.cells rz0 24) 33 rf0))
            | (guard_target = wpList _ _ _ (Oper.mk _ (Op.store 24 (.tmp 10) _) _ _ _ none :: _) _ _; refine wpList_store_row rfl 24 _ _ rfl u.heap.size (rgc A10 C.buf.length c10 C.head C.many C.most) rfl rfl _ _ hn (by kernel_rfl) rfl (by simp [Value.oneCell']) ?_; have hm2 := held_row hm (Nat.succ_ne_self u.heap.size) (rgc A10 C.buf.length c10 C.head C.many C.most))
            | (guard_target = wpList _ _ _ (Oper.mk _ (Op.store 33 (.tmp 11) _) _ _ _ none :: _) _ _; refine wpList_store_row rfl 33 _ _ rfl (u.heap.size + 1) (rfc (xa, xb)) rfl rfl _ _ hm2 (by kernel_rfl) rfl (by simp [Value.oneCell']) ?_))
          obtain ⟨v10, r11, hbW⟩ := new_o2 (r := C) (c := c10) (x := (xa, xb)) hb ho
          clear hb ho hn hm hm2
          replace v1 := v1.below hbW
          replace pl := pat_later pl hbW
          replace w5 := own_later w5 hbW
          replace v7 := v7.below hbW
          replace w9 := own_later w9 hbW
          replace hW := Below.step hW hbW
          clear hbW
          generalize World.setRow _ (u.heap.size + 1) _ = W9 at *
          generalize u.heap.size + 1 = g10r at *
          generalize u.heap.size = g10 at *
          go_upto_region 11 with (first
            | (guard_target = wpList _ _ _ (Oper.mk (some 98) _ _ _ _ none :: _) _ _; refine wpList_load_row rfl 24 _ rfl w.heap.size rfl _ _ _ _ v1.x Try.underlying24 rfl (by kernel_rfl) ?_)
            | (go_at_call 15; go_loud ((with_reducible refine (steal_c HS.out HN.out.2.2.1 c _ v1.p).mono ?_); rintro _ u ⟨v, rfl, ⟨A13, c13, rfl, ho⟩, hb⟩; have hn := (Held.new u 24 rz0).alloc (.cells rf0 33); have hm := Held.new1 u (.cells rz0 24) 33 rf0))
            | (guard_target = wpList _ _ _ (Oper.mk _ (Op.store 24 (.tmp 13) _) _ _ _ none :: _) _ _; refine wpList_store_row rfl 24 _ _ rfl u.heap.size (rgc A13 S.buf.length c13 S.head S.many S.most) rfl rfl _ _ hn (by kernel_rfl) rfl (by simp [Value.oneCell']) ?_; have hm2 := held_row hm (Nat.succ_ne_self u.heap.size) (rgc A13 S.buf.length c13 S.head S.many S.most))
            | (guard_target = wpList _ _ _ (Oper.mk _ (Op.store 33 (.tmp 14) _) _ _ _ none :: _) _ _; refine wpList_store_row rfl 33 _ _ rfl (u.heap.size + 1) (rfc (ya, yb)) rfl rfl _ _ hm2 (by kernel_rfl) rfl (by simp [Value.oneCell']) ?_))
          obtain ⟨v13, r14, hbW⟩ := new_o2 (r := S) (c := c13) (x := (ya, yb)) hb ho
          clear hb ho hn hm hm2
          replace v1 := v1.below hbW
          replace pl := pat_later pl hbW
          replace w5 := own_later w5 hbW
          replace v7 := v7.below hbW
          replace w9 := own_later w9 hbW
          replace r11 := Held.below r11 hbW
          replace v10 := v10.below hbW
          replace hW := Below.step hW hbW
          clear hbW
          generalize World.setRow _ (u.heap.size + 1) _ = W10 at *
          generalize u.heap.size + 1 = g13r at *
          generalize u.heap.size = g13 at *
          go_upto_region 12 with (first
            | (guard_target = wpList _ _ _ (Oper.mk (some 104) _ _ _ _ none :: _) _ _; refine wpList_load_row rfl 24 _ rfl w.heap.size rfl _ _ _ _ v1.x Try.underlying24 rfl (by kernel_rfl) ?_)
            | (go_at_call 17; go_loud ((with_reducible refine (half_c HD.out HH.out.2.2.2.1 HN.out.2.2.1 c _ v1.p).mono ?_); rintro _ u ⟨v, A17, c17, rfl, ⟨A16, c16, rfl, ho⟩, hol, hb⟩; have hn := Held.new u 24 rz0))
            | (guard_target = wpList _ _ _ (Oper.mk _ (Op.store 24 (.tmp 16) _) _ _ _ none :: _) _ _; refine wpList_store_row rfl 24 _ _ rfl u.heap.size (rgc A16 D.buf.length c16 D.head D.many D.most) rfl rfl _ _ hn (by kernel_rfl) rfl (by simp [Value.oneCell']) ?_))
          obtain ⟨v16, hbW⟩ := new_o1 (r := D) (c := c16) hb ho
          have w17 := own_later (r_mono hol (Nat.zero_le _) : OwnR u 0 (.slice A17 hh c17) U) (below_new1 (Below.refl _ u) rz0 (rgc A16 D.buf.length c16 D.head D.many D.most) 24)
          clear hol
          clear hb ho hn
          replace v1 := v1.below hbW
          replace pl := pat_later pl hbW
          replace w5 := own_later w5 hbW
          replace v7 := v7.below hbW
          replace w9 := own_later w9 hbW
          replace r11 := Held.below r11 hbW
          replace v10 := v10.below hbW
          replace r14 := Held.below r14 hbW
          replace v13 := v13.below hbW
          replace hW := Below.step hW hbW
          clear hbW
          generalize World.setRow _ u.heap.size _ = W11 at *
          generalize u.heap.size = g16 at *
          by_cases h0 : nL = 0
          · have HL0 := Lib.hid (show (itemsR r).length = 0 by rw [HLQ.out, HN.out.1]; exact h0)
            have e1 : bC = false := by
              have := HC.out
              rw [pop_no HL0.out] at this
              simp only [Prod.mk.injEq] at this
              exact this.2.2.symm
            have e2 : bS2 = false := by
              have := HS.out
              rw [steal_no HL0.out] at this
              simp only [Prod.mk.injEq] at this
              exact this.2.2.symm
            have e3 : hh = 0 := by rw [HH.out.1, h0]
            subst e1 e2
            have q1 : ((nL : Int) == 0) = true := by simp; omega
            have q2 : ((hh : Int) == 0) = true := by simp; omega
            clear h0 e3
            go_wp2_with fail
            go_ret
            exact ⟨rfl, hW⟩
          · obtain ⟨m, hm⟩ : ∃ m, nL = m + 1 := ⟨nL - 1, by omega⟩
            obtain ⟨p1, p2, p3, p4, -, -⟩ := HPO.out (by rw [HN.out.1]; omega)
            obtain ⟨s1, s2, s3, -, -⟩ := HSO.out (by rw [HN.out.1]; omega)
            subst p4 s3
            have q1 : ((nL : Int) == 0) = false := by simp; omega
            have hmL : m < L.length := by rw [HN.out.1]; omega
            have h0L : 0 < L.length := by rw [HN.out.1]; omega
            have hpx : L[m] = (xa, xb) := by
              rw [HN.out.1, hm, Nat.add_sub_cancel, List.getD_eq_getElem?_getD, List.getElem?_eq_getElem hmL] at p3
              exact p3.symm
            have hsy : L[0] = (ya, yb) := by
              have : L[0]? = some (ya, yb) := by rw [s2]; rfl
              rw [List.getElem?_eq_getElem h0L] at this
              exact Option.some.inj this
            have hCi : itemsR C = L.take m := by
              rw [p2, List.dropLast_eq_take, HN.out.1, hm, Nat.add_sub_cancel]
            have hSi : itemsR S = L.drop 1 := by rw [s2]; rfl
            have EX : ∀ W, (binOp .neq 33 (gv xa xb) (gv xa xb)).run Try.prog W = .ok (.bool false) W := fun W => by rw [neqr_run]; simp
            have EY : ∀ W, (binOp .neq 33 (gv ya yb) (gv ya yb)).run Try.prog W = .ok (.bool false) W := fun W => by rw [neqr_run]; simp
            have hcap : nL ≤ c5 := by
              rcases w5.2 with ⟨e, h9⟩ | ⟨g, cap, cur, e, _, _, hle, _⟩
              · have := HN.out.1
                omega
              · simp only [Value.slice.injEq] at e
                have := HN.out.1
                omega
            obtain ⟨gL, cL, eL⟩ := r_form w5 h0L
            simp only [Value.slice.injEq] at eL
            obtain ⟨rfl, -, rfl⟩ := eL
            have HI := Lib.hid (And.intro hpx (And.intro hsy (And.intro hCi (And.intro hSi (And.intro p1 (And.intro s1 (And.intro hmL h0L)))))))
            have HM := Lib.hid hm
            have HCP := Lib.hid hcap
            have hLb0 : (0 : Int) ≤ nL := Int.natCast_nonneg nL
            have hLb1 : (nL : Int) ≤ 60 := by have := HN.out.2.1.2; omega
            have hm0 : (0 : Int) ≤ m := Int.natCast_nonneg m
            have hmI : (m : Int) < nL := by omega
            have hmN : m < nL := by omega
            have h0N : 0 < nL := by omega
            have h0I : (0 : Int) < nL := by omega
            have hs2 : (nL : Int) - 1 = (m : Int) := by omega
            clear p1 p2 p3 s1 s2 hpx hsy hCi hSi hm hcap h0
            go_upto_region 14 with (fail)
            clear q1
            replace r11 : Held W11 g10r 33 #[.int .i64 xa, .int .i64 xb] := r11
            replace r14 : Held W11 g13r 33 #[.int .i64 ya, .int .i64 yb] := r14
            have hdr := (Below.refl W11.heap.size W11).drew
            replace v1 := v1.below hdr
            replace pl := pat_later pl hdr
            replace w5 := own_later w5 hdr
            replace v7 := v7.below hdr
            replace w9 := own_later w9 hdr
            replace r11 := Held.below r11 hdr
            replace v10 := v10.below hdr
            replace r14 := Held.below r14 hdr
            replace v13 := v13.below hdr
            replace v16 := v16.below hdr
            replace w17 := own_later w17 hdr
            replace hW := Below.step hW hdr
            clear hdr
            refine wp_region_held_drew (S := fun W => Below W11.drew.heap.size W11.drew W) (by kernel_rfl) (Below.refl _ _) (fun hS => ?_)
            generalize W11.drew = W12 at *
            show wpAnyH _ _ _ _ _ 37 #[false, false, false, false, false, false, false, false, false, false, false, false, false, false, false, false, false, false, false, false, false, false, false, false, false, false, false, false, false, false, false, false, false, false, false, false, false] _ _
            refine wpAnyH_begin (by kernel_rfl) (fun HNS => ?_)
            obtain ⟨y0, y1, -, -⟩ := own2_cells w5 (k := m) HI.out.2.2.2.2.2.2.1
            obtain ⟨z0, z1, -, -⟩ := own2_cells w5 (k := 0) HI.out.2.2.2.2.2.2.2
            rw [HI.out.1] at y0 y1
            rw [HI.out.2.1] at z0 z1
            try simp only at y0 y1
            simp at z0 z1
            have hb2w := block_lt_of_cell y0
            try simp only at hb2w
            refine wpAnyH_takeS HNS (i := 0) (v := .bool true) rfl (by kernel_rfl) (by kernel_rfl) (fun _ _ _ h => h) (Or.inl ⟨by kernel_rfl, fun W hW => ?_⟩) hS ?_
            · go_simp
            simp only [Act.put, List.getElem_toArray, List.getElem_cons_succ, List.getElem_cons_zero, List.setIfInBounds_toArray, List.set_cons_zero, List.set_cons_succ]
            refine wpAnyH_takeS HNS (i := 1) (v := .bool false) rfl (by kernel_rfl) (by kernel_rfl) (fun _ _ _ h => h) (Or.inl ⟨by kernel_rfl, fun W hW => ?_⟩) hS ?_
            · go_simp
            simp only [Act.put, List.getElem_toArray, List.getElem_cons_succ, List.getElem_cons_zero, List.setIfInBounds_toArray, List.set_cons_zero, List.set_cons_succ]
            refine wpAnyH_takeS HNS (i := 2) (v := .bool false) rfl (by kernel_rfl) (by kernel_rfl) (fun _ _ _ h => h) (Or.inl ⟨by kernel_rfl, fun W hW => ?_⟩) hS ?_
            · go_simp
            simp only [Act.put, List.getElem_toArray, List.getElem_cons_succ, List.getElem_cons_zero, List.setIfInBounds_toArray, List.set_cons_zero, List.set_cons_succ]
            refine wpAnyH_takeS HNS (i := 3) (v := .bool true) rfl (by kernel_rfl) (by kernel_rfl) (fun _ _ _ h => h) (Or.inl ⟨by kernel_rfl, fun W hW => ?_⟩) hS ?_
            · go_simp
            simp only [Act.put, List.getElem_toArray, List.getElem_cons_succ, List.getElem_cons_zero, List.setIfInBounds_toArray, List.set_cons_zero, List.set_cons_succ]
            refine wpAnyH_takeS HNS (i := 4) (v := .bool false) rfl (by kernel_rfl) (by kernel_rfl) (fun _ _ _ h => h) (Or.inl ⟨by kernel_rfl, fun W hW => ?_⟩) hS ?_
            · go_simp
            simp only [Act.put, List.getElem_toArray, List.getElem_cons_succ, List.getElem_cons_zero, List.setIfInBounds_toArray, List.set_cons_zero, List.set_cons_succ]
            refine wpAnyH_takeS HNS (i := 5) (v := .bool false) rfl (by kernel_rfl) (by kernel_rfl) (fun _ _ _ h => h) (Or.inl ⟨by kernel_rfl, fun W hW => ?_⟩) hS ?_
            · go_simp
            simp only [Act.put, List.getElem_toArray, List.getElem_cons_succ, List.getElem_cons_zero, List.setIfInBounds_toArray, List.set_cons_zero, List.set_cons_succ]
            refine wpAnyH_takeS HNS (i := 6) (v := .bool false) rfl (by kernel_rfl) (by kernel_rfl) (fun _ _ _ h => h) (Or.inl ⟨by kernel_rfl, fun W hW => ?_⟩) hS ?_
            · go_simp
            simp only [Act.put, List.getElem_toArray, List.getElem_cons_succ, List.getElem_cons_zero, List.setIfInBounds_toArray, List.set_cons_zero, List.set_cons_succ]
            refine wpAnyH_takeS HNS (i := 7) (v := .agg #[.int .i64 xa, .int .i64 xb]) rfl (by kernel_rfl) (by kernel_rfl) (fun _ _ _ h => h) (Or.inl ⟨by kernel_rfl, fun W hW => ?_⟩) hS ?_
            · (have hz := Held.below r11 hW; have z0 := hz.cell 0; have z1 := hz.cell 1; simp at z0 z1; go_simp)
            simp only [Act.put, List.getElem_toArray, List.getElem_cons_succ, List.getElem_cons_zero, List.setIfInBounds_toArray, List.set_cons_zero, List.set_cons_succ]
            refine wpAnyH_takeS HNS (i := 8) (v := .slice (some ⟨gL, 0, none⟩) nL c5) rfl (by kernel_rfl) (by kernel_rfl) (fun _ _ _ h => h) (Or.inl ⟨by kernel_rfl, fun W hW => ?_⟩) hS ?_
            · go_simp
            simp only [Act.put, List.getElem_toArray, List.getElem_cons_succ, List.getElem_cons_zero, List.setIfInBounds_toArray, List.set_cons_zero, List.set_cons_succ]
            refine wpAnyH_takeS HNS (i := 9) (v := .int .i64 (nL : Int)) rfl (by kernel_rfl) (by kernel_rfl) (fun _ _ _ h => h) (Or.inl ⟨by kernel_rfl, fun W hW => ?_⟩) hS ?_
            · go_simp
            simp only [Act.put, List.getElem_toArray, List.getElem_cons_succ, List.getElem_cons_zero, List.setIfInBounds_toArray, List.set_cons_zero, List.set_cons_succ]
            refine wpAnyH_takeS HNS (i := 10) (v := .int .i64 (m : Int)) rfl (by kernel_rfl) (by kernel_rfl) (fun _ _ _ h => h) (Or.inl ⟨by kernel_rfl, fun W hW => ?_⟩) hS ?_
            · (rw [← hs2]; clear hs2; have hwr : IntKind.i64.wrap ((nL : Int) - 1) = (nL : Int) - 1 := (by rw [IntKind.wrap_i64]; omega); go_simp)
            simp only [Act.put, List.getElem_toArray, List.getElem_cons_succ, List.getElem_cons_zero, List.setIfInBounds_toArray, List.set_cons_zero, List.set_cons_succ]
            refine wpAnyH_takeS HNS (i := 11) (v := .pointer (some ⟨gL, m * 2, none⟩)) rfl (by kernel_rfl) (by kernel_rfl) (fun _ _ _ h => h) (Or.inl ⟨by kernel_rfl, fun W hW => ?_⟩) hS ?_
            · go_simp
            simp only [Act.put, List.getElem_toArray, List.getElem_cons_succ, List.getElem_cons_zero, List.setIfInBounds_toArray, List.set_cons_zero, List.set_cons_succ]
            refine wpAnyH_takeS HNS (i := 12) (v := .agg #[.int .i64 xa, .int .i64 xb]) rfl (by kernel_rfl) (by kernel_rfl) (fun _ _ _ h => h) (Or.inl ⟨by kernel_rfl, fun W hW => ?_⟩) hS ?_
            · (have s0 := (hW.cell (p := ⟨gL, _, none⟩) hb2w).trans y0; have s1 := (hW.cell (p := ⟨gL, _, none⟩) hb2w).trans y1; go_simp)
            simp only [Act.put, List.getElem_toArray, List.getElem_cons_succ, List.getElem_cons_zero, List.setIfInBounds_toArray, List.set_cons_zero, List.set_cons_succ]
            refine wpAnyH_takeS HNS (i := 13) (v := .bool false) rfl (by kernel_rfl) (by kernel_rfl) (fun _ _ _ h => h) (Or.inl ⟨by kernel_rfl, fun W hW => ?_⟩) hS ?_
            · go_simp
            simp only [Act.put, List.getElem_toArray, List.getElem_cons_succ, List.getElem_cons_zero, List.setIfInBounds_toArray, List.set_cons_zero, List.set_cons_succ]
            refine wpAnyH_takeS HNS (i := 14) (v := .bool false) rfl (by kernel_rfl) (by kernel_rfl) (fun _ _ _ h => h) (Or.inl ⟨by kernel_rfl, fun W hW => ?_⟩) hS ?_
            · go_simp
            simp only [Act.put, List.getElem_toArray, List.getElem_cons_succ, List.getElem_cons_zero, List.setIfInBounds_toArray, List.set_cons_zero, List.set_cons_succ]
            refine wpAnyH_takeS HNS (i := 15) (v := .bool false) rfl (by kernel_rfl) (by kernel_rfl) (fun _ _ _ h => h) (Or.inl ⟨by kernel_rfl, fun W hW => ?_⟩) hS ?_
            · go_simp
            simp only [Act.put, List.getElem_toArray, List.getElem_cons_succ, List.getElem_cons_zero, List.setIfInBounds_toArray, List.set_cons_zero, List.set_cons_succ]
            refine wpAnyH_takeS HNS (i := 16) (v := .agg #[.int .i64 ya, .int .i64 yb]) rfl (by kernel_rfl) (by kernel_rfl) (fun _ _ _ h => h) (Or.inl ⟨by kernel_rfl, fun W hW => ?_⟩) hS ?_
            · (have hz := Held.below r14 hW; have z0 := hz.cell 0; have z1 := hz.cell 1; simp at z0 z1; go_simp)
            simp only [Act.put, List.getElem_toArray, List.getElem_cons_succ, List.getElem_cons_zero, List.setIfInBounds_toArray, List.set_cons_zero, List.set_cons_succ]
            refine wpAnyH_takeS HNS (i := 17) (v := .slice (some ⟨gL, 0, none⟩) nL c5) rfl (by kernel_rfl) (by kernel_rfl) (fun _ _ _ h => h) (Or.inl ⟨by kernel_rfl, fun W hW => ?_⟩) hS ?_
            · go_simp
            simp only [Act.put, List.getElem_toArray, List.getElem_cons_succ, List.getElem_cons_zero, List.setIfInBounds_toArray, List.set_cons_zero, List.set_cons_succ]
            refine wpAnyH_takeS HNS (i := 18) (v := .pointer (some ⟨gL, 0, none⟩)) rfl (by kernel_rfl) (by kernel_rfl) (fun _ _ _ h => h) (Or.inl ⟨by kernel_rfl, fun W hW => ?_⟩) hS ?_
            · go_simp
            simp only [Act.put, List.getElem_toArray, List.getElem_cons_succ, List.getElem_cons_zero, List.setIfInBounds_toArray, List.set_cons_zero, List.set_cons_succ]
            refine wpAnyH_takeS HNS (i := 19) (v := .agg #[.int .i64 ya, .int .i64 yb]) rfl (by kernel_rfl) (by kernel_rfl) (fun _ _ _ h => h) (Or.inl ⟨by kernel_rfl, fun W hW => ?_⟩) hS ?_
            · (have s0 := (hW.cell (p := ⟨gL, _, none⟩) hb2w).trans z0; have s1 := (hW.cell (p := ⟨gL, _, none⟩) hb2w).trans z1; go_simp)
            simp only [Act.put, List.getElem_toArray, List.getElem_cons_succ, List.getElem_cons_zero, List.setIfInBounds_toArray, List.set_cons_zero, List.set_cons_succ]
            refine wpAnyH_takeS HNS (i := 20) (v := .bool false) rfl (by kernel_rfl) (by kernel_rfl) (fun _ _ _ h => h) (Or.inl ⟨by kernel_rfl, fun W hW => ?_⟩) hS ?_
            · go_simp
            simp only [Act.put, List.getElem_toArray, List.getElem_cons_succ, List.getElem_cons_zero, List.setIfInBounds_toArray, List.set_cons_zero, List.set_cons_succ]
            refine wpAnyH_takeS HNS (i := 21) (v := .bool false) rfl (by kernel_rfl) (by kernel_rfl) (fun _ _ _ h => h) (Or.inl ⟨by kernel_rfl, fun W hW => ?_⟩) hS ?_
            · go_simp
            simp only [Act.put, List.getElem_toArray, List.getElem_cons_succ, List.getElem_cons_zero, List.setIfInBounds_toArray, List.set_cons_zero, List.set_cons_succ]
            refine wpAnyH_takeS HNS (i := 22) (v := .bool false) rfl (by kernel_rfl) (by kernel_rfl) (fun _ _ _ h => h) (Or.inl ⟨by kernel_rfl, fun W hW => ?_⟩) hS ?_
            · go_simp
            simp only [Act.put, List.getElem_toArray, List.getElem_cons_succ, List.getElem_cons_zero, List.setIfInBounds_toArray, List.set_cons_zero, List.set_cons_succ]
            refine wpAnyH_takeS HNS (i := 23) (v := .agg (rgc A10 C.buf.length c10 C.head C.many C.most)) rfl (by kernel_rfl) (by kernel_rfl) (fun _ _ _ h => h) (Or.inl ⟨by kernel_rfl, fun W hW => ?_⟩) hS ?_
            · (have hz := Held.below v10.x hW; have z0 := hz.cell 0; have z1 := hz.cell 1; have z2 := hz.cell 2; have z3 := hz.cell 3; simp at z0 z1 z2 z3; go_simp)
            simp only [Act.put, List.getElem_toArray, List.getElem_cons_succ, List.getElem_cons_zero, List.setIfInBounds_toArray, List.set_cons_zero, List.set_cons_succ]
            refine wpAnyH_ready (rs := [24]) (by kernel_rfl) (by simp) ?_
            refine (AllReadyH.cons rfl (fun K hK => ?_) AllReadyH.nil)
            · rw [if_pos (by kernel_rfl)]
              go_simp
              go_at_call 25
              (with_reducible refine (may_c HI.out.2.2.2.2.1 _ _ _).mono ?_)
              rintro _ u11 ⟨rfl, hb11⟩
              replace hS := Below.step hS hb11
              (repeat (first | go_skip | go_guarded | go_step | go_upon))
              refine hK.out _ _ hS (fun _ => ?_)
              clear hK K
              (try simp only [Act.put, List.getElem_toArray, List.getElem_cons_succ, List.getElem_cons_zero, List.setIfInBounds_toArray, List.set_cons_zero, List.set_cons_succ])
              refine wpAnyH_takeS HNS (i := 25) (v := .bool false) rfl (by kernel_rfl) (by kernel_rfl) (fun _ _ _ h => h) (Or.inl ⟨by kernel_rfl, fun W hW => ?_⟩) hS ?_
              · go_simp
              simp only [Act.put, List.getElem_toArray, List.getElem_cons_succ, List.getElem_cons_zero, List.setIfInBounds_toArray, List.set_cons_zero, List.set_cons_succ]
              refine wpAnyH_takeS HNS (i := 26) (v := .bool false) rfl (by kernel_rfl) (by kernel_rfl) (fun _ _ _ h => h) (Or.inl ⟨by kernel_rfl, fun W hW => ?_⟩) hS ?_
              · go_simp
              simp only [Act.put, List.getElem_toArray, List.getElem_cons_succ, List.getElem_cons_zero, List.setIfInBounds_toArray, List.set_cons_zero, List.set_cons_succ]
              refine wpAnyH_takeS HNS (i := 27) (v := .bool false) rfl (by kernel_rfl) (by kernel_rfl) (fun _ _ _ h => h) (Or.inl ⟨by kernel_rfl, fun W hW => ?_⟩) hS ?_
              · go_simp
              simp only [Act.put, List.getElem_toArray, List.getElem_cons_succ, List.getElem_cons_zero, List.setIfInBounds_toArray, List.set_cons_zero, List.set_cons_succ]
              refine wpAnyH_takeS HNS (i := 28) (v := .agg (rgc A13 S.buf.length c13 S.head S.many S.most)) rfl (by kernel_rfl) (by kernel_rfl) (fun _ _ _ h => h) (Or.inl ⟨by kernel_rfl, fun W hW => ?_⟩) hS ?_
              · (have hz := Held.below v13.x hW; have z0 := hz.cell 0; have z1 := hz.cell 1; have z2 := hz.cell 2; have z3 := hz.cell 3; simp at z0 z1 z2 z3; go_simp)
              simp only [Act.put, List.getElem_toArray, List.getElem_cons_succ, List.getElem_cons_zero, List.setIfInBounds_toArray, List.set_cons_zero, List.set_cons_succ]
              refine wpAnyH_ready (rs := [29]) (by kernel_rfl) (by simp) ?_
              refine (AllReadyH.cons rfl (fun K hK => ?_) AllReadyH.nil)
              · rw [if_pos (by kernel_rfl)]
                go_simp
                go_at_call 25
                (with_reducible refine (may_c HI.out.2.2.2.2.2.1 _ _ _).mono ?_)
                rintro _ u12 ⟨rfl, hb12⟩
                replace hS := Below.step hS hb12
                (repeat (first | go_skip | go_guarded | go_step | go_upon))
                refine hK.out _ _ hS (fun _ => ?_)
                clear hK K
                (try simp only [Act.put, List.getElem_toArray, List.getElem_cons_succ, List.getElem_cons_zero, List.setIfInBounds_toArray, List.set_cons_zero, List.set_cons_succ])
                refine wpAnyH_takeS HNS (i := 30) (v := .bool false) rfl (by kernel_rfl) (by kernel_rfl) (fun _ _ _ h => h) (Or.inl ⟨by kernel_rfl, fun W hW => ?_⟩) hS ?_
                · go_simp
                simp only [Act.put, List.getElem_toArray, List.getElem_cons_succ, List.getElem_cons_zero, List.setIfInBounds_toArray, List.set_cons_zero, List.set_cons_succ]
                refine wpAnyH_takeS HNS (i := 31) (v := .bool false) rfl (by kernel_rfl) (by kernel_rfl) (fun _ _ _ h => h) (Or.inl ⟨by kernel_rfl, fun W hW => ?_⟩) hS ?_
                · go_simp
                simp only [Act.put, List.getElem_toArray, List.getElem_cons_succ, List.getElem_cons_zero, List.setIfInBounds_toArray, List.set_cons_zero, List.set_cons_succ]
                refine wpAnyH_takeS HNS (i := 32) (v := .bool false) rfl (by kernel_rfl) (by kernel_rfl) (fun _ _ _ h => h) (Or.inl ⟨by kernel_rfl, fun W hW => ?_⟩) hS ?_
                · go_simp
                simp only [Act.put, List.getElem_toArray, List.getElem_cons_succ, List.getElem_cons_zero, List.setIfInBounds_toArray, List.set_cons_zero, List.set_cons_succ]
                refine wpAnyH_takeS HNS (i := 33) (v := .agg (rgc A16 D.buf.length c16 D.head D.many D.most)) rfl (by kernel_rfl) (by kernel_rfl) (fun _ _ _ h => h) (Or.inl ⟨by kernel_rfl, fun W hW => ?_⟩) hS ?_
                · (have hz := Held.below v16.x hW; have z0 := hz.cell 0; have z1 := hz.cell 1; have z2 := hz.cell 2; have z3 := hz.cell 3; simp at z0 z1 z2 z3; go_simp)
                simp only [Act.put, List.getElem_toArray, List.getElem_cons_succ, List.getElem_cons_zero, List.setIfInBounds_toArray, List.set_cons_zero, List.set_cons_succ]
                refine wpAnyH_ready (rs := [34]) (by kernel_rfl) (by simp) ?_
                refine (AllReadyH.cons rfl (fun K hK => ?_) AllReadyH.nil)
                · rw [if_pos (by kernel_rfl)]
                  go_simp
                  go_at_call 25
                  (with_reducible refine (may_c HH.out.2.2.2.2 _ _ _).mono ?_)
                  rintro _ u13 ⟨rfl, hb13⟩
                  replace hS := Below.step hS hb13
                  (repeat (first | go_skip | go_guarded | go_step | go_upon))
                  refine hK.out _ _ hS (fun _ => ?_)
                  clear hK K
                  (try simp only [Act.put, List.getElem_toArray, List.getElem_cons_succ, List.getElem_cons_zero, List.setIfInBounds_toArray, List.set_cons_zero, List.set_cons_succ])
                  refine wpAnyH_takeS HNS (i := 35) (v := .bool false) rfl (by kernel_rfl) (by kernel_rfl) (fun _ _ _ h => h) (Or.inl ⟨by kernel_rfl, fun W hW => ?_⟩) hS ?_
                  · go_simp
                  simp only [Act.put, List.getElem_toArray, List.getElem_cons_succ, List.getElem_cons_zero, List.setIfInBounds_toArray, List.set_cons_zero, List.set_cons_succ]
                  refine wpAnyH_takeS HNS (i := 36) (v := .bool false) rfl (by kernel_rfl) (by kernel_rfl) (fun _ _ _ h => h) (Or.inl ⟨by kernel_rfl, fun W hW => ?_⟩) hS ?_
                  · go_simp
                  simp only [Act.put, List.getElem_toArray, List.getElem_cons_succ, List.getElem_cons_zero, List.setIfInBounds_toArray, List.set_cons_zero, List.set_cons_succ]
                  refine wpAnyH_done (by kernel_rfl) ?_ _
                  have hz := Below.step hW hS
                  replace v1 := v1.below hS
                  replace pl := pat_later pl hS
                  replace w5 := own_later w5 hS
                  replace v7 := v7.below hS
                  replace w9 := own_later w9 hS
                  replace r11 := Held.below r11 hS
                  replace v10 := v10.below hS
                  replace r14 := Held.below r14 hS
                  replace v13 := v13.below hS
                  replace v16 := v16.below hS
                  replace w17 := own_later w17 hS
                  clear hW
                  have hW := hz
                  clear hz hS
                  clear y0 y1 z0 z1 hb2w EX EY
                  go_upto_region 16 with (fail)
                  have hdr := (Below.refl u13.heap.size u13).drew
                  replace v1 := v1.below hdr
                  replace pl := pat_later pl hdr
                  replace w5 := own_later w5 hdr
                  replace v7 := v7.below hdr
                  replace w9 := own_later w9 hdr
                  replace r11 := Held.below r11 hdr
                  replace v10 := v10.below hdr
                  replace r14 := Held.below r14 hdr
                  replace v13 := v13.below hdr
                  replace v16 := v16.below hdr
                  replace w17 := own_later w17 hdr
                  replace hW := Below.step hW hdr
                  clear hdr
                  refine wp_region_held_drew (S := fun W => Below u13.drew.heap.size u13.drew W) (by kernel_rfl) (Below.refl _ _) (fun hS => ?_)
                  generalize u13.drew = W13 at *
                  show wpAnyH _ _ _ _ _ 34 #[false, false, false, false, false, false, false, false, false, false, false, false, false, false, false, false, false, false, false, false, false, false, false, false, false, false, false, false, false, false, false, false, false, false] _ _
                  refine wpAnyH_begin (by kernel_rfl) (fun HNS => ?_)
                  have hq : Int.tdiv ((nL : Int) + 1) 2 = (hh : Int) := by
                    have := HH.out.1
                    rw [Int.tdiv_eq_ediv_of_nonneg (by omega)]
                    omega
                  have hhb : hh ≤ nL := by have := HH.out.1; omega
                  have hw1 : IntKind.i64.wrap ((nL : Int) + 1) = (nL : Int) + 1 := by rw [IntKind.wrap_i64]; omega
                  have hw2 : IntKind.i64.wrap (hh : Int) = (hh : Int) := by rw [IntKind.wrap_i64]; omega
                  have C1 := fun W => run_cut_head (some ⟨gL, 0, none⟩) nL c5 m (by have := HCP.out; omega) W
                  have C2 : ∀ W, (Instr.slice 22 (.slice (some ⟨gL, 0, none⟩) nL c5) (some (.int .i64 1)) none none).run Try.prog W = .ok (.slice (cutA (some ⟨gL, 0, none⟩) c5 1) (nL - 1) (c5 - 1)) W := fun W => run_cut_tail (some ⟨gL, 0, none⟩) nL c5 1 (by omega) W
                  have C3 := fun W => run_cut_head (some ⟨gL, 0, none⟩) nL c5 hh (by have := HCP.out; omega) W
                  have C4 := fun W => run_cut_tail (some ⟨gL, 0, none⟩) nL c5 hh hhb W
                  have HLC := Lib.hid (show L.length ≤ c5 by rw [HN.out.1]; exact HCP.out)
                  have pw := own2_at w5
                  have HK1 := Lib.hid (show (L.take m).length = m by rw [List.length_take, HN.out.1]; omega)
                  have HK2 := Lib.hid (show (L.drop 1).length = nL - 1 by rw [List.length_drop, HN.out.1])
                  have HK3 := Lib.hid (show (L.take hh).length = hh by rw [List.length_take, HN.out.1]; omega)
                  have HK4 := Lib.hid (show (L.drop hh).length = nL - hh by rw [List.length_drop, HN.out.1])
                  have hUT := HH.out.2.1
                  subst hUT
                  have HLIM := Lib.hid (show m ≤ 100000 ∧ nL - 1 ≤ 100000 ∧ hh ≤ 100000 ∧ nL - hh ≤ 100000 by have := HN.out.2.1.2; omega)
                  refine wpAnyH_takeS HNS (i := 0) (v := .agg (rgc A10 C.buf.length c10 C.head C.many C.most)) rfl (by kernel_rfl) (by kernel_rfl) (fun _ _ _ h => h) (Or.inl ⟨by kernel_rfl, fun W hW => ?_⟩) hS ?_
                  · (have hz := Held.below v10.x hW; have z0 := hz.cell 0; have z1 := hz.cell 1; have z2 := hz.cell 2; have z3 := hz.cell 3; simp at z0 z1 z2 z3; go_simp)
                  simp only [Act.put, List.getElem_toArray, List.getElem_cons_succ, List.getElem_cons_zero, List.setIfInBounds_toArray, List.set_cons_zero, List.set_cons_succ]
                  refine wpAnyH_takeS HNS (i := 2) (v := .slice (some ⟨gL, 0, none⟩) nL c5) rfl (by kernel_rfl) (by kernel_rfl) (fun _ _ _ h => h) (Or.inl ⟨by kernel_rfl, fun W hW => ?_⟩) hS ?_
                  · go_simp
                  simp only [Act.put, List.getElem_toArray, List.getElem_cons_succ, List.getElem_cons_zero, List.setIfInBounds_toArray, List.set_cons_zero, List.set_cons_succ]
                  refine wpAnyH_takeS HNS (i := 3) (v := .int .i64 (nL : Int)) rfl (by kernel_rfl) (by kernel_rfl) (fun _ _ _ h => h) (Or.inl ⟨by kernel_rfl, fun W hW => ?_⟩) hS ?_
                  · go_simp
                  simp only [Act.put, List.getElem_toArray, List.getElem_cons_succ, List.getElem_cons_zero, List.setIfInBounds_toArray, List.set_cons_zero, List.set_cons_succ]
                  refine wpAnyH_takeS HNS (i := 4) (v := .int .i64 (m : Int)) rfl (by kernel_rfl) (by kernel_rfl) (fun _ _ _ h => h) (Or.inl ⟨by kernel_rfl, fun W hW => ?_⟩) hS ?_
                  · (rw [← hs2]; clear hs2; have hwr : IntKind.i64.wrap ((nL : Int) - 1) = (nL : Int) - 1 := (by rw [IntKind.wrap_i64]; omega); go_simp)
                  simp only [Act.put, List.getElem_toArray, List.getElem_cons_succ, List.getElem_cons_zero, List.setIfInBounds_toArray, List.set_cons_zero, List.set_cons_succ]
                  refine wpAnyH_takeS HNS (i := 5) (v := .slice (cutA (some ⟨gL, 0, none⟩) c5 0) m c5) rfl (by kernel_rfl) (by kernel_rfl) (fun _ _ _ h => h) (Or.inl ⟨by kernel_rfl, fun W hW => ?_⟩) hS ?_
                  · (simp only [execOp, Act.eval]; go_simp)
                  simp only [Act.put, List.getElem_toArray, List.getElem_cons_succ, List.getElem_cons_zero, List.setIfInBounds_toArray, List.set_cons_zero, List.set_cons_succ]
                  refine wpAnyH_ready (rs := [1]) (by kernel_rfl) (by simp) ?_
                  refine (AllReadyH.cons rfl (fun K hK => ?_) AllReadyH.nil)
                  · rw [if_pos (by kernel_rfl)]
                    go_simp
                    go_at_call 23
                    (with_reducible refine (items_c HI.out.2.2.1 HK1.out c10 _ (v10.read.below hS).p).mono ?_)
                    rintro _ u14 ⟨Ai14, ci14, rfl, wi14, hb14⟩
                    have hpI := own2_at wi14
                    replace hS := Below.step hS hb14
                    (repeat (first | go_skip | go_guarded | go_step | go_upon))
                    refine hK.out _ _ hS (fun _ => ?_)
                    clear hK K
                    (try simp only [Act.put, List.getElem_toArray, List.getElem_cons_succ, List.getElem_cons_zero, List.setIfInBounds_toArray, List.set_cons_zero, List.set_cons_succ])
                    refine wpAnyH_ready (rs := [6]) (by kernel_rfl) (by simp) ?_
                    refine (AllReadyH.cons rfl (fun K hK => ?_) AllReadyH.nil)
                    · rw [if_pos (by kernel_rfl)]
                      go_simp
                      go_at_call 22
                      (with_reducible refine (refs_c (l := L.take m) (k := L.take m) (R := true) HK1.out HK1.out (by simp) HLIM.out.1 HLIM.out.1 _ _ _ hpI (pat_later (cut_head pw HLC.out m) hS)).mono ?_)
                      rintro _ u15 ⟨rfl, hb15⟩
                      replace hpI := pat_later hpI hb15
                      clear hpI
                      replace hS := Below.step hS hb15
                      (repeat (first | go_skip | go_guarded | go_step | go_upon))
                      refine hK.out _ _ hS (fun _ => ?_)
                      clear hK K
                      (try simp only [Act.put, List.getElem_toArray, List.getElem_cons_succ, List.getElem_cons_zero, List.setIfInBounds_toArray, List.set_cons_zero, List.set_cons_succ])
                      refine wpAnyH_takeS HNS (i := 7) (v := .bool true) rfl (by kernel_rfl) (by kernel_rfl) (fun _ _ _ h => h) (Or.inl ⟨by kernel_rfl, fun W hW => ?_⟩) hS ?_
                      · go_simp
                      simp only [Act.put, List.getElem_toArray, List.getElem_cons_succ, List.getElem_cons_zero, List.setIfInBounds_toArray, List.set_cons_zero, List.set_cons_succ]
                      refine wpAnyH_takeS HNS (i := 8) (v := .agg (rgc A13 S.buf.length c13 S.head S.many S.most)) rfl (by kernel_rfl) (by kernel_rfl) (fun _ _ _ h => h) (Or.inl ⟨by kernel_rfl, fun W hW => ?_⟩) hS ?_
                      · (have hz := Held.below v13.x hW; have z0 := hz.cell 0; have z1 := hz.cell 1; have z2 := hz.cell 2; have z3 := hz.cell 3; simp at z0 z1 z2 z3; go_simp)
                      simp only [Act.put, List.getElem_toArray, List.getElem_cons_succ, List.getElem_cons_zero, List.setIfInBounds_toArray, List.set_cons_zero, List.set_cons_succ]
                      refine wpAnyH_takeS HNS (i := 10) (v := .slice (some ⟨gL, 0, none⟩) nL c5) rfl (by kernel_rfl) (by kernel_rfl) (fun _ _ _ h => h) (Or.inl ⟨by kernel_rfl, fun W hW => ?_⟩) hS ?_
                      · go_simp
                      simp only [Act.put, List.getElem_toArray, List.getElem_cons_succ, List.getElem_cons_zero, List.setIfInBounds_toArray, List.set_cons_zero, List.set_cons_succ]
                      refine wpAnyH_takeS HNS (i := 11) (v := .slice (cutA (some ⟨gL, 0, none⟩) c5 1) (nL - 1) (c5 - 1)) rfl (by kernel_rfl) (by kernel_rfl) (fun _ _ _ h => h) (Or.inl ⟨by kernel_rfl, fun W hW => ?_⟩) hS ?_
                      · (simp only [execOp, Act.eval]; go_simp)
                      simp only [Act.put, List.getElem_toArray, List.getElem_cons_succ, List.getElem_cons_zero, List.setIfInBounds_toArray, List.set_cons_zero, List.set_cons_succ]
                      refine wpAnyH_ready (rs := [9]) (by kernel_rfl) (by simp) ?_
                      refine (AllReadyH.cons rfl (fun K hK => ?_) AllReadyH.nil)
                      · rw [if_pos (by kernel_rfl)]
                        go_simp
                        go_at_call 23
                        (with_reducible refine (items_c HI.out.2.2.2.1 HK2.out c13 _ (v13.read.below hS).p).mono ?_)
                        rintro _ u16 ⟨Ai16, ci16, rfl, wi16, hb16⟩
                        have hpI := own2_at wi16
                        replace hS := Below.step hS hb16
                        (repeat (first | go_skip | go_guarded | go_step | go_upon))
                        refine hK.out _ _ hS (fun _ => ?_)
                        clear hK K
                        (try simp only [Act.put, List.getElem_toArray, List.getElem_cons_succ, List.getElem_cons_zero, List.setIfInBounds_toArray, List.set_cons_zero, List.set_cons_succ])
                        refine wpAnyH_ready (rs := [12]) (by kernel_rfl) (by simp) ?_
                        refine (AllReadyH.cons rfl (fun K hK => ?_) AllReadyH.nil)
                        · rw [if_pos (by kernel_rfl)]
                          go_simp
                          go_at_call 22
                          (with_reducible refine (refs_c (l := L.drop 1) (k := L.drop 1) (R := true) HK2.out HK2.out (by simp) HLIM.out.2.1 HLIM.out.2.1 _ _ _ hpI (pat_later (cut_tail pw HLC.out 1) hS)).mono ?_)
                          rintro _ u17 ⟨rfl, hb17⟩
                          replace hpI := pat_later hpI hb17
                          clear hpI
                          replace hS := Below.step hS hb17
                          (repeat (first | go_skip | go_guarded | go_step | go_upon))
                          refine hK.out _ _ hS (fun _ => ?_)
                          clear hK K
                          (try simp only [Act.put, List.getElem_toArray, List.getElem_cons_succ, List.getElem_cons_zero, List.setIfInBounds_toArray, List.set_cons_zero, List.set_cons_succ])
                          refine wpAnyH_takeS HNS (i := 13) (v := .bool true) rfl (by kernel_rfl) (by kernel_rfl) (fun _ _ _ h => h) (Or.inl ⟨by kernel_rfl, fun W hW => ?_⟩) hS ?_
                          · go_simp
                          simp only [Act.put, List.getElem_toArray, List.getElem_cons_succ, List.getElem_cons_zero, List.setIfInBounds_toArray, List.set_cons_zero, List.set_cons_succ]
                          refine wpAnyH_takeS HNS (i := 14) (v := .bool true) rfl (by kernel_rfl) (by kernel_rfl) (fun _ _ _ h => h) (Or.inl ⟨by kernel_rfl, fun W hW => ?_⟩) hS ?_
                          · go_simp
                          simp only [Act.put, List.getElem_toArray, List.getElem_cons_succ, List.getElem_cons_zero, List.setIfInBounds_toArray, List.set_cons_zero, List.set_cons_succ]
                          refine wpAnyH_takeS HNS (i := 15) (v := .slice A17 hh c17) rfl (by kernel_rfl) (by kernel_rfl) (fun _ _ _ h => h) (Or.inl ⟨by kernel_rfl, fun W hW => ?_⟩) hS ?_
                          · go_simp
                          simp only [Act.put, List.getElem_toArray, List.getElem_cons_succ, List.getElem_cons_zero, List.setIfInBounds_toArray, List.set_cons_zero, List.set_cons_succ]
                          refine wpAnyH_takeS HNS (i := 16) (v := .slice (some ⟨gL, 0, none⟩) nL c5) rfl (by kernel_rfl) (by kernel_rfl) (fun _ _ _ h => h) (Or.inl ⟨by kernel_rfl, fun W hW => ?_⟩) hS ?_
                          · go_simp
                          simp only [Act.put, List.getElem_toArray, List.getElem_cons_succ, List.getElem_cons_zero, List.setIfInBounds_toArray, List.set_cons_zero, List.set_cons_succ]
                          refine wpAnyH_takeS HNS (i := 17) (v := .int .i64 (nL : Int)) rfl (by kernel_rfl) (by kernel_rfl) (fun _ _ _ h => h) (Or.inl ⟨by kernel_rfl, fun W hW => ?_⟩) hS ?_
                          · go_simp
                          simp only [Act.put, List.getElem_toArray, List.getElem_cons_succ, List.getElem_cons_zero, List.setIfInBounds_toArray, List.set_cons_zero, List.set_cons_succ]
                          refine wpAnyH_takeS HNS (i := 18) (v := .int .i64 ((nL : Int) + 1)) rfl (by kernel_rfl) (by kernel_rfl) (fun _ _ _ h => h) (Or.inl ⟨by kernel_rfl, fun W hW => ?_⟩) hS ?_
                          · go_simp
                          simp only [Act.put, List.getElem_toArray, List.getElem_cons_succ, List.getElem_cons_zero, List.setIfInBounds_toArray, List.set_cons_zero, List.set_cons_succ]
                          refine wpAnyH_takeS HNS (i := 19) (v := .int .i64 (hh : Int)) rfl (by kernel_rfl) (by kernel_rfl) (fun _ _ _ h => h) (Or.inl ⟨by kernel_rfl, fun W hW => ?_⟩) hS ?_
                          · go_simp
                          simp only [Act.put, List.getElem_toArray, List.getElem_cons_succ, List.getElem_cons_zero, List.setIfInBounds_toArray, List.set_cons_zero, List.set_cons_succ]
                          refine wpAnyH_takeS HNS (i := 20) (v := .slice (cutA (some ⟨gL, 0, none⟩) c5 0) hh c5) rfl (by kernel_rfl) (by kernel_rfl) (fun _ _ _ h => h) (Or.inl ⟨by kernel_rfl, fun W hW => ?_⟩) hS ?_
                          · (simp only [execOp, Act.eval]; go_simp)
                          simp only [Act.put, List.getElem_toArray, List.getElem_cons_succ, List.getElem_cons_zero, List.setIfInBounds_toArray, List.set_cons_zero, List.set_cons_succ]
                          refine wpAnyH_ready (rs := [21]) (by kernel_rfl) (by simp) ?_
                          refine (AllReadyH.cons rfl (fun K hK => ?_) AllReadyH.nil)
                          · rw [if_pos (by kernel_rfl)]
                            go_simp
                            go_at_call 22
                            (with_reducible refine (refs_c (l := L.take hh) (k := L.take hh) (R := true) HK3.out HK3.out (by simp) HLIM.out.2.2.1 HLIM.out.2.2.1 _ _ _ (pat_later (own2_at w17) hS) (pat_later (cut_head pw HLC.out hh) hS)).mono ?_)
                            rintro _ u18 ⟨rfl, hb18⟩
                            replace hS := Below.step hS hb18
                            (repeat (first | go_skip | go_guarded | go_step | go_upon))
                            refine hK.out _ _ hS (fun _ => ?_)
                            clear hK K
                            (try simp only [Act.put, List.getElem_toArray, List.getElem_cons_succ, List.getElem_cons_zero, List.setIfInBounds_toArray, List.set_cons_zero, List.set_cons_succ])
                            refine wpAnyH_takeS HNS (i := 22) (v := .bool true) rfl (by kernel_rfl) (by kernel_rfl) (fun _ _ _ h => h) (Or.inl ⟨by kernel_rfl, fun W hW => ?_⟩) hS ?_
                            · go_simp
                            simp only [Act.put, List.getElem_toArray, List.getElem_cons_succ, List.getElem_cons_zero, List.setIfInBounds_toArray, List.set_cons_zero, List.set_cons_succ]
                            refine wpAnyH_takeS HNS (i := 23) (v := .bool true) rfl (by kernel_rfl) (by kernel_rfl) (fun _ _ _ h => h) (Or.inl ⟨by kernel_rfl, fun W hW => ?_⟩) hS ?_
                            · go_simp
                            simp only [Act.put, List.getElem_toArray, List.getElem_cons_succ, List.getElem_cons_zero, List.setIfInBounds_toArray, List.set_cons_zero, List.set_cons_succ]
                            refine wpAnyH_takeS HNS (i := 24) (v := .agg (rgc A16 D.buf.length c16 D.head D.many D.most)) rfl (by kernel_rfl) (by kernel_rfl) (fun _ _ _ h => h) (Or.inl ⟨by kernel_rfl, fun W hW => ?_⟩) hS ?_
                            · (have hz := Held.below v16.x hW; have z0 := hz.cell 0; have z1 := hz.cell 1; have z2 := hz.cell 2; have z3 := hz.cell 3; simp at z0 z1 z2 z3; go_simp)
                            simp only [Act.put, List.getElem_toArray, List.getElem_cons_succ, List.getElem_cons_zero, List.setIfInBounds_toArray, List.set_cons_zero, List.set_cons_succ]
                            refine wpAnyH_takeS HNS (i := 26) (v := .slice (some ⟨gL, 0, none⟩) nL c5) rfl (by kernel_rfl) (by kernel_rfl) (fun _ _ _ h => h) (Or.inl ⟨by kernel_rfl, fun W hW => ?_⟩) hS ?_
                            · go_simp
                            simp only [Act.put, List.getElem_toArray, List.getElem_cons_succ, List.getElem_cons_zero, List.setIfInBounds_toArray, List.set_cons_zero, List.set_cons_succ]
                            refine wpAnyH_takeS HNS (i := 27) (v := .int .i64 (nL : Int)) rfl (by kernel_rfl) (by kernel_rfl) (fun _ _ _ h => h) (Or.inl ⟨by kernel_rfl, fun W hW => ?_⟩) hS ?_
                            · go_simp
                            simp only [Act.put, List.getElem_toArray, List.getElem_cons_succ, List.getElem_cons_zero, List.setIfInBounds_toArray, List.set_cons_zero, List.set_cons_succ]
                            refine wpAnyH_takeS HNS (i := 28) (v := .int .i64 ((nL : Int) + 1)) rfl (by kernel_rfl) (by kernel_rfl) (fun _ _ _ h => h) (Or.inl ⟨by kernel_rfl, fun W hW => ?_⟩) hS ?_
                            · go_simp
                            simp only [Act.put, List.getElem_toArray, List.getElem_cons_succ, List.getElem_cons_zero, List.setIfInBounds_toArray, List.set_cons_zero, List.set_cons_succ]
                            refine wpAnyH_takeS HNS (i := 29) (v := .int .i64 (hh : Int)) rfl (by kernel_rfl) (by kernel_rfl) (fun _ _ _ h => h) (Or.inl ⟨by kernel_rfl, fun W hW => ?_⟩) hS ?_
                            · go_simp
                            simp only [Act.put, List.getElem_toArray, List.getElem_cons_succ, List.getElem_cons_zero, List.setIfInBounds_toArray, List.set_cons_zero, List.set_cons_succ]
                            refine wpAnyH_takeS HNS (i := 30) (v := .slice (cutA (some ⟨gL, 0, none⟩) c5 hh) (nL - hh) (c5 - hh)) rfl (by kernel_rfl) (by kernel_rfl) (fun _ _ _ h => h) (Or.inl ⟨by kernel_rfl, fun W hW => ?_⟩) hS ?_
                            · (simp only [execOp, Act.eval]; go_simp)
                            simp only [Act.put, List.getElem_toArray, List.getElem_cons_succ, List.getElem_cons_zero, List.setIfInBounds_toArray, List.set_cons_zero, List.set_cons_succ]
                            refine wpAnyH_ready (rs := [25]) (by kernel_rfl) (by simp) ?_
                            refine (AllReadyH.cons rfl (fun K hK => ?_) AllReadyH.nil)
                            · rw [if_pos (by kernel_rfl)]
                              go_simp
                              go_at_call 23
                              (with_reducible refine (items_c HH.out.2.2.1 HK4.out c16 _ (v16.read.below hS).p).mono ?_)
                              rintro _ u19 ⟨Ai19, ci19, rfl, wi19, hb19⟩
                              have hpI := own2_at wi19
                              replace hS := Below.step hS hb19
                              (repeat (first | go_skip | go_guarded | go_step | go_upon))
                              refine hK.out _ _ hS (fun _ => ?_)
                              clear hK K
                              (try simp only [Act.put, List.getElem_toArray, List.getElem_cons_succ, List.getElem_cons_zero, List.setIfInBounds_toArray, List.set_cons_zero, List.set_cons_succ])
                              refine wpAnyH_ready (rs := [31]) (by kernel_rfl) (by simp) ?_
                              refine (AllReadyH.cons rfl (fun K hK => ?_) AllReadyH.nil)
                              · rw [if_pos (by kernel_rfl)]
                                go_simp
                                go_at_call 22
                                (with_reducible refine (refs_c (l := L.drop hh) (k := L.drop hh) (R := true) HK4.out HK4.out (by simp) HLIM.out.2.2.2 HLIM.out.2.2.2 _ _ _ hpI (pat_later (cut_tail pw HLC.out hh) hS)).mono ?_)
                                rintro _ u20 ⟨rfl, hb20⟩
                                replace hpI := pat_later hpI hb20
                                clear hpI
                                replace hS := Below.step hS hb20
                                (repeat (first | go_skip | go_guarded | go_step | go_upon))
                                refine hK.out _ _ hS (fun _ => ?_)
                                clear hK K
                                (try simp only [Act.put, List.getElem_toArray, List.getElem_cons_succ, List.getElem_cons_zero, List.setIfInBounds_toArray, List.set_cons_zero, List.set_cons_succ])
                                refine wpAnyH_takeS HNS (i := 32) (v := .bool true) rfl (by kernel_rfl) (by kernel_rfl) (fun _ _ _ h => h) (Or.inl ⟨by kernel_rfl, fun W hW => ?_⟩) hS ?_
                                · go_simp
                                simp only [Act.put, List.getElem_toArray, List.getElem_cons_succ, List.getElem_cons_zero, List.setIfInBounds_toArray, List.set_cons_zero, List.set_cons_succ]
                                refine wpAnyH_takeS HNS (i := 33) (v := .bool true) rfl (by kernel_rfl) (by kernel_rfl) (fun _ _ _ h => h) (Or.inl ⟨by kernel_rfl, fun W hW => ?_⟩) hS ?_
                                · go_simp
                                simp only [Act.put, List.getElem_toArray, List.getElem_cons_succ, List.getElem_cons_zero, List.setIfInBounds_toArray, List.set_cons_zero, List.set_cons_succ]
                                refine wpAnyH_done (by kernel_rfl) ?_ _
                                (repeat (first | go_skip | go_guarded | go_step | go_upon))
                                go_ret
                                exact ⟨rfl, Below.step hW hS⟩
end Go.Proofs.Ythmnaclmbglkdaa.ringList
