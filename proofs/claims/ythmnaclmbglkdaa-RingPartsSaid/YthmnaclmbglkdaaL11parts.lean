/- RingParts. -/
import Derived.Test.YthmnaclmbglkdaaJm
import Derived.Test.YthmnaclmbglkdaaNl
import Derived.Deep.DeepCutAuto
import Derived.Deep.CutBlock
namespace Go.Proofs.Ythmnaclmbglkdaa.ringParts
set_option linter.unusedVariables false
set_option linter.unusedSimpArgs false
open Go.RowKit Go.ChangeShapes Go.WideShapes Go.ChangeAt Go.Sort Go.Proofs.Ythmnaclmbglkdaa

set_option maxHeartbeats 8000000 in
set_option maxRecDepth 100000 in
theorem walk (CF : ∀ w, Calls Try.prog 10 #[] w fun e w' => e = .returned (.bool true) ∧ Below w.heap.size w w') {A A2 : Option Addr} {r : Rng} {l : List P2} {B nl : Nat} (c c2 : Nat) (cut : Int) (w : World) (hp : PAt w B A r.buf) (hp2 : PAt w B A2 l) (hB : B ≤ w.heap.size) (hl : l.length = nl) (hc2 : nl ≤ c2) :
    Calls Try.prog 6 #[rgv A r.buf.length c r.head r.many r.most, .slice A2 nl c2, .int .i64 cut] w fun e w' => e = .returned (.bool true) ∧ Below w.heap.size w w' := by
  have hW : Below w.heap.size w (w.alloc (.cells (rgc A r.buf.length c r.head r.many r.most) 24)) := (Below.refl _ _).alloc (Nat.le_refl _) _
  have v1 : RgV (w.alloc (.cells (rgc A r.buf.length c r.head r.many r.most) 24)) w.heap.size r A c := ⟨Held.new w 24 _, (hp.below hW hB).more (Nat.le_trans hB hW.size)⟩
  have pl := (hp2.below hW hB).more (Nat.le_trans hB hW.size)
  obtain ⟨sm, hsm⟩ : ∃ b, decide (r.buf.length ≤ 60) = b := ⟨_, rfl⟩
  obtain ⟨my, hmy⟩ : ∃ b, mayR r = b := ⟨_, rfl⟩
  have HSM := Lib.hid hsm
  have HMY := Lib.hid hmy
  have HL := Lib.hid hl
  have HC2 := Lib.hid hc2
  clear hsm hmy hp hp2 hB hl hc2
  go_enter Try.func6, Try.ntmps6
  go_upto_region 1 with (fail)
  generalize w.alloc (.cells (rgc A r.buf.length c r.head r.many r.most) 24) = W0 at *
  cases sm with
  | false =>
    go_wp2_with (first
      | (go_at_call 10; (with_reducible refine (CF _).mono ?_); rintro _ uf ⟨rfl, hbf⟩; replace v1 := v1.below hbf; replace pl := pat_later pl hbf; replace hW := Below.step hW hbf)
      | (guard_target = wpList _ _ _ (Oper.mk (some 16) _ _ _ _ _ :: _) _ _; refine wpList_doneR rfl ?_; refine wpList_load_row rfl 24 _ rfl w.heap.size rfl _ _ _ _ v1.x Try.underlying24 rfl (by kernel_rfl) ?_)
      | (go_at_call 9; (with_reducible refine (rsmall_c HSM.out A c _).mono ?_); rintro _ us ⟨rfl, hbs⟩; replace v1 := v1.below hbs; replace pl := pat_later pl hbs; replace hW := Below.step hW hbs)
      | (guard_target = wpList _ _ _ (Oper.mk (some 36) _ _ _ _ _ :: _) _ _; refine wpList_doneR rfl ?_; refine wpList_load_row rfl 24 _ rfl w.heap.size rfl _ _ _ _ v1.x Try.underlying24 rfl (by kernel_rfl) ?_)
      | (go_at_call 26; (with_reducible refine (rmay_c HMY.out A c _).mono ?_); rintro _ um ⟨rfl, hbm⟩; replace v1 := v1.below hbm; replace pl := pat_later pl hbm; replace hW := Below.step hW hbm))
    go_ret
    exact ⟨rfl, hW⟩
  | true =>
    by_cases hg1 : (20 : Int) < nl
    · have q1 : decide ((20 : Int) < nl) = true := decide_eq_true hg1
      go_wp2_with (first
        | (go_at_call 10; (with_reducible refine (CF _).mono ?_); rintro _ uf ⟨rfl, hbf⟩; replace v1 := v1.below hbf; replace pl := pat_later pl hbf; replace hW := Below.step hW hbf)
        | (guard_target = wpList _ _ _ (Oper.mk (some 16) _ _ _ _ _ :: _) _ _; refine wpList_doneR rfl ?_; refine wpList_load_row rfl 24 _ rfl w.heap.size rfl _ _ _ _ v1.x Try.underlying24 rfl (by kernel_rfl) ?_)
        | (go_at_call 9; (with_reducible refine (rsmall_c HSM.out A c _).mono ?_); rintro _ us ⟨rfl, hbs⟩; replace v1 := v1.below hbs; replace pl := pat_later pl hbs; replace hW := Below.step hW hbs)
        | (guard_target = wpList _ _ _ (Oper.mk (some 36) _ _ _ _ _ :: _) _ _; refine wpList_doneR rfl ?_; refine wpList_load_row rfl 24 _ rfl w.heap.size rfl _ _ _ _ v1.x Try.underlying24 rfl (by kernel_rfl) ?_)
        | (go_at_call 26; (with_reducible refine (rmay_c HMY.out A c _).mono ?_); rintro _ um ⟨rfl, hbm⟩; replace v1 := v1.below hbm; replace pl := pat_later pl hbm; replace hW := Below.step hW hbm))
      go_ret
      exact ⟨rfl, hW⟩
    · have q1 : decide ((20 : Int) < nl) = false := decide_eq_false hg1
      by_cases hg2 : cut < 0
      · have q2 : decide (cut < 0) = true := decide_eq_true hg2
        go_wp2_with (first
          | (go_at_call 10; (with_reducible refine (CF _).mono ?_); rintro _ uf ⟨rfl, hbf⟩; replace v1 := v1.below hbf; replace pl := pat_later pl hbf; replace hW := Below.step hW hbf)
          | (guard_target = wpList _ _ _ (Oper.mk (some 16) _ _ _ _ _ :: _) _ _; refine wpList_doneR rfl ?_; refine wpList_load_row rfl 24 _ rfl w.heap.size rfl _ _ _ _ v1.x Try.underlying24 rfl (by kernel_rfl) ?_)
          | (go_at_call 9; (with_reducible refine (rsmall_c HSM.out A c _).mono ?_); rintro _ us ⟨rfl, hbs⟩; replace v1 := v1.below hbs; replace pl := pat_later pl hbs; replace hW := Below.step hW hbs)
          | (guard_target = wpList _ _ _ (Oper.mk (some 36) _ _ _ _ _ :: _) _ _; refine wpList_doneR rfl ?_; refine wpList_load_row rfl 24 _ rfl w.heap.size rfl _ _ _ _ v1.x Try.underlying24 rfl (by kernel_rfl) ?_)
          | (go_at_call 26; (with_reducible refine (rmay_c HMY.out A c _).mono ?_); rintro _ um ⟨rfl, hbm⟩; replace v1 := v1.below hbm; replace pl := pat_later pl hbm; replace hW := Below.step hW hbm))
        go_ret
        exact ⟨rfl, hW⟩
      · have q2 : decide (cut < 0) = false := decide_eq_false hg2
        by_cases hg3 : (nl : Int) < cut
        · have q3 : decide ((nl : Int) < cut) = true := decide_eq_true hg3
          go_wp2_with (first
            | (go_at_call 10; (with_reducible refine (CF _).mono ?_); rintro _ uf ⟨rfl, hbf⟩; replace v1 := v1.below hbf; replace pl := pat_later pl hbf; replace hW := Below.step hW hbf)
            | (guard_target = wpList _ _ _ (Oper.mk (some 16) _ _ _ _ _ :: _) _ _; refine wpList_doneR rfl ?_; refine wpList_load_row rfl 24 _ rfl w.heap.size rfl _ _ _ _ v1.x Try.underlying24 rfl (by kernel_rfl) ?_)
            | (go_at_call 9; (with_reducible refine (rsmall_c HSM.out A c _).mono ?_); rintro _ us ⟨rfl, hbs⟩; replace v1 := v1.below hbs; replace pl := pat_later pl hbs; replace hW := Below.step hW hbs)
            | (guard_target = wpList _ _ _ (Oper.mk (some 36) _ _ _ _ _ :: _) _ _; refine wpList_doneR rfl ?_; refine wpList_load_row rfl 24 _ rfl w.heap.size rfl _ _ _ _ v1.x Try.underlying24 rfl (by kernel_rfl) ?_)
            | (go_at_call 26; (with_reducible refine (rmay_c HMY.out A c _).mono ?_); rintro _ um ⟨rfl, hbm⟩; replace v1 := v1.below hbm; replace pl := pat_later pl hbm; replace hW := Below.step hW hbm))
          go_ret
          exact ⟨rfl, hW⟩
        · have q3 : decide ((nl : Int) < cut) = false := decide_eq_false hg3
          cases my with
          | false =>
            go_wp2_with (first
              | (go_at_call 10; (with_reducible refine (CF _).mono ?_); rintro _ uf ⟨rfl, hbf⟩; replace v1 := v1.below hbf; replace pl := pat_later pl hbf; replace hW := Below.step hW hbf)
              | (guard_target = wpList _ _ _ (Oper.mk (some 16) _ _ _ _ _ :: _) _ _; refine wpList_doneR rfl ?_; refine wpList_load_row rfl 24 _ rfl w.heap.size rfl _ _ _ _ v1.x Try.underlying24 rfl (by kernel_rfl) ?_)
              | (go_at_call 9; (with_reducible refine (rsmall_c HSM.out A c _).mono ?_); rintro _ us ⟨rfl, hbs⟩; replace v1 := v1.below hbs; replace pl := pat_later pl hbs; replace hW := Below.step hW hbs)
              | (guard_target = wpList _ _ _ (Oper.mk (some 36) _ _ _ _ _ :: _) _ _; refine wpList_doneR rfl ?_; refine wpList_load_row rfl 24 _ rfl w.heap.size rfl _ _ _ _ v1.x Try.underlying24 rfl (by kernel_rfl) ?_)
              | (go_at_call 26; (with_reducible refine (rmay_c HMY.out A c _).mono ?_); rintro _ um ⟨rfl, hbm⟩; replace v1 := v1.below hbm; replace pl := pat_later pl hbm; replace hW := Below.step hW hbm))
            go_ret
            exact ⟨rfl, hW⟩
          | true =>
            obtain ⟨k, rfl⟩ : ∃ k : Nat, cut = k := ⟨cut.toNat, by omega⟩
            have hk : k ≤ nl := by omega
            have q4 : decide (nl < k) = false := decide_eq_false (by omega)
            have hnl : nl ≤ 20 := by omega
            have hr60 : r.buf.length ≤ 60 := of_decide_eq_true HSM.out
            obtain ⟨p1, p2⟩ := parts_all (l := l) (cut := k) (by rw [HL.out]; exact hk) HMY.out
            obtain ⟨X, eX, hX⟩ : ∃ X e, pushR r l = (X, e) := ⟨_, _, rfl⟩
            obtain ⟨Y, eY, hY⟩ : ∃ X e, pushR r (l.take k) = (X, e) := ⟨_, _, rfl⟩
            obtain ⟨Z, eZ, hZ⟩ : ∃ X e, pushR Y (l.drop k) = (X, e) := ⟨_, _, rfl⟩
            rw [hX, hY] at p1 p2
            simp only at p1 p2
            rw [hZ] at p2
            have hXl : X.buf.length ≤ 100000 := by
              have := push_len l (r := r) (by omega)
              rwa [hX] at this
            have hYl : Y.buf.length ≤ 100000 := by
              have := push_len (l.take k) (r := r) (by omega)
              rwa [hY] at this
            have hZl : Z.buf.length ≤ 100000 := by
              have := push_len (l.drop k) (r := Y) hYl
              rwa [hZ] at this
            have hfin : eX = 0 → (X.buf.length : Int) ≤ r.most ∧ r.buf.length ≤ X.buf.length ∧ (X.buf.length = r.buf.length ∨ (X.buf.length : Int) ≤ 2 * X.many) ∧ X.most = r.most ∧ 0 ≤ X.many ∧ X.many ≤ 1024 := fun h0 => by
              subst h0
              have hno : ¬ mayR r = false := by rw [HMY.out]; decide
              have hf : ¬ r.most < r.many + l.length := fun hf => by
                unfold pushR at hX
                rw [if_neg hno, if_pos hf] at hX
                simp at hX
              have hX2 : manyR r l = X := by
                unfold pushR at hX
                rw [if_neg hno, if_neg hf] at hX
                simpa using hX
              obtain ⟨q1, -, -, q4, q5, q6⟩ := many_ok l HMY.out (by omega)
              rw [hX2] at q1 q4 q5 q6
              obtain ⟨⟨a1, a2⟩, ⟨b1, b2⟩, -, d1, d2⟩ := (mayR_iff X).1 q1
              exact ⟨by omega, q5, q6, q4, d1, by omega⟩
            have hkc : k ≤ c2 := by have := HC2.out; omega
            have C1 := fun W => run_cut_head A2 nl c2 k hkc W
            have C2 := fun W => run_cut_tail A2 nl c2 k hk W
            have HK1 := Lib.hid (show (l.take k).length = k by rw [List.length_take, HL.out]; omega)
            have HK2 := Lib.hid (show (l.drop k).length = nl - k by rw [List.length_drop, HL.out])
            have HLC := Lib.hid (show l.length ≤ c2 by rw [HL.out]; exact HC2.out)
            have HN := Lib.hid (show nl ≤ 1000 ∧ k ≤ 1000 ∧ nl - k ≤ 1000 by omega)
            have HB := Lib.hid (And.intro (show r.buf.length ≤ 100000 by omega) (And.intro hXl (And.intro hYl hZl)))
            have HX := Lib.hid hX
            have HY := Lib.hid hY
            have HZ := Lib.hid hZ
            have HP1 := Lib.hid p1
            have HP2 := Lib.hid p2
            have HFIN := Lib.hid hfin
            clear hg1 hg2 hg3 hXl hYl hZl hX hY hZ p1 p2 hfin hr60 hkc
            go_upto_region 3 with (first
              | (go_at_call 10; (with_reducible refine (CF _).mono ?_); rintro _ uf ⟨rfl, hbf⟩; replace v1 := v1.below hbf; replace pl := pat_later pl hbf; replace hW := Below.step hW hbf)
              | (guard_target = wpList _ _ _ (Oper.mk (some 16) _ _ _ _ _ :: _) _ _; refine wpList_doneR rfl ?_; refine wpList_load_row rfl 24 _ rfl w.heap.size rfl _ _ _ _ v1.x Try.underlying24 rfl (by kernel_rfl) ?_)
              | (go_at_call 9; (with_reducible refine (rsmall_c HSM.out A c _).mono ?_); rintro _ us ⟨rfl, hbs⟩; replace v1 := v1.below hbs; replace pl := pat_later pl hbs; replace hW := Below.step hW hbs)
              | (guard_target = wpList _ _ _ (Oper.mk (some 36) _ _ _ _ _ :: _) _ _; refine wpList_doneR rfl ?_; refine wpList_load_row rfl 24 _ rfl w.heap.size rfl _ _ _ _ v1.x Try.underlying24 rfl (by kernel_rfl) ?_)
              | (go_at_call 26; (with_reducible refine (rmay_c HMY.out A c _).mono ?_); rintro _ um ⟨rfl, hbm⟩; replace v1 := v1.below hbm; replace pl := pat_later pl hbm; replace hW := Below.step hW hbm))
            go_upto_region 4 with (first
              | (guard_target = wpList _ _ _ (Oper.mk (some 42) _ _ _ _ none :: _) _ _; refine wpList_load_row rfl 24 _ rfl w.heap.size rfl _ _ _ _ v1.x Try.underlying24 rfl (by kernel_rfl) ?_)
              | (go_at_call 11; (with_reducible refine (push_c HX.out HL.out HB.out.1 HN.out.1 c c2 _ v1.p pl).mono ?_); rintro _ u ⟨v, rfl, ⟨A7, c7, rfl, ho⟩, hb⟩; have hn := Held.new u 24 rz0)
              | (guard_target = wpList _ _ _ (Oper.mk _ (Op.store 24 (.tmp 7) _) _ _ _ none :: _) _ _; refine wpList_store_row rfl 24 _ _ rfl u.heap.size (rgc A7 X.buf.length c7 X.head X.many X.most) rfl rfl _ _ hn (by kernel_rfl) rfl (by simp [Value.oneCell']) ?_))
            obtain ⟨v7, hbW⟩ := new_o1 hb ho
            clear hb ho hn
            replace v1 := v1.below hbW
            replace pl := pat_later pl hbW
            replace hW := Below.step hW hbW
            clear hbW
            generalize World.setRow _ u.heap.size _ = W3 at *
            generalize u.heap.size = g7 at *
            clear q1 q2 q3 q4
            have hdr := (Below.refl W3.heap.size W3).drew
            replace v1 := v1.below hdr
            replace pl := pat_later pl hdr
            replace v7 := v7.below hdr
            replace hW := Below.step hW hdr
            clear hdr
            refine wp_region_held_drew (S := fun W => Below W3.drew.heap.size W3.drew W) (by kernel_rfl) (Below.refl _ _) (fun hS => ?_)
            generalize W3.drew = W4 at *
            show wpAnyH _ _ _ _ _ 11 #[false, false, false, false, false, false, false, false, false, false, false] _ _
            refine wpAnyH_begin (by kernel_rfl) (fun HNS => ?_)
            refine wpAnyH_takeS HNS (i := 0) (v := .agg (rgc A r.buf.length c r.head r.many r.most)) rfl (by kernel_rfl) (by kernel_rfl) (fun _ _ _ h => h) (Or.inl ⟨by kernel_rfl, fun W hW => ?_⟩) hS ?_
            · (have hz := Held.below v1.x hW; have z0 := hz.cell 0; have z1 := hz.cell 1; have z2 := hz.cell 2; have z3 := hz.cell 3; simp at z0 z1 z2 z3; go_simp)
            simp only [Act.put, List.getElem_toArray, List.getElem_cons_succ, List.getElem_cons_zero, List.setIfInBounds_toArray, List.set_cons_zero, List.set_cons_succ]
            refine wpAnyH_takeS HNS (i := 1) (v := .slice A2 nl c2) rfl (by kernel_rfl) (by kernel_rfl) (fun _ _ _ h => h) (Or.inl ⟨by kernel_rfl, fun W hW => ?_⟩) hS ?_
            · go_simp
            simp only [Act.put, List.getElem_toArray, List.getElem_cons_succ, List.getElem_cons_zero, List.setIfInBounds_toArray, List.set_cons_zero, List.set_cons_succ]
            refine wpAnyH_takeS HNS (i := 2) (v := .int .i64 (k : Int)) rfl (by kernel_rfl) (by kernel_rfl) (fun _ _ _ h => h) (Or.inl ⟨by kernel_rfl, fun W hW => ?_⟩) hS ?_
            · go_simp
            simp only [Act.put, List.getElem_toArray, List.getElem_cons_succ, List.getElem_cons_zero, List.setIfInBounds_toArray, List.set_cons_zero, List.set_cons_succ]
            refine wpAnyH_takeS HNS (i := 3) (v := .slice (cutA A2 c2 0) k c2) rfl (by kernel_rfl) (by kernel_rfl) (fun _ _ _ h => h) (Or.inl ⟨by kernel_rfl, fun W hW => ?_⟩) hS ?_
            · (simp only [execOp, Act.eval]; go_simp)
            simp only [Act.put, List.getElem_toArray, List.getElem_cons_succ, List.getElem_cons_zero, List.setIfInBounds_toArray, List.set_cons_zero, List.set_cons_succ]
            apply join3 (H := fun Wj1 x1y0 x1y1 x1y2 => Below W4.heap.size W4 Wj1 ∧ (∃ A c g, x1y1 = rgv A Y.buf.length c Y.head Y.many Y.most ∧ x1y2 = .pointer (some ⟨g, 0, none⟩) ∧ RgO Wj1 g Y A c))
            case both =>
              intro key
              refine wpAnyH_ready (rs := [4, 8]) (by kernel_rfl) (by simp) ?_
              refine (AllReadyH.cons rfl (fun K hK => ?_) (AllReadyH.cons rfl (fun K hK => ?_) AllReadyH.nil))
              · go_simp
                go_at_call 11
                (with_reducible refine (push_c HY.out HK1.out HB.out.1 HN.out.2.1 c c2 _ (v1.below hS).p (pat_later (cut_head pl HLC.out k) hS)).mono ?_)
                rintro _ u1 ⟨vx, rfl, ⟨Ax, cx, rfl, ho⟩, hb1⟩
                replace hS := Below.step hS hb1
                (repeat (first | go_skip | go_guarded | go_step | go_upon))
                refine hK.out _ _ hS (fun _ => ?_)
                clear hK K
                (try simp only [Act.put, List.getElem_toArray, List.getElem_cons_succ, List.getElem_cons_zero, List.setIfInBounds_toArray, List.set_cons_zero, List.set_cons_succ])
                refine wpAnyH_takeS HNS (i := 5) (v := .tuple #[rgv Ax Y.buf.length cx Y.head Y.many Y.most, .int .i64 eY]) rfl (by kernel_rfl) (by kernel_rfl) (fun _ _ _ h => h) (Or.inl ⟨by kernel_rfl, fun W hW => ?_⟩) hS ?_
                · go_simp
                simp only [Act.put, List.getElem_toArray, List.getElem_cons_succ, List.getElem_cons_zero, List.setIfInBounds_toArray, List.set_cons_zero, List.set_cons_succ]
                refine wpAnyH_takeS HNS (i := 6) (v := rgv Ax Y.buf.length cx Y.head Y.many Y.most) rfl (by kernel_rfl) (by kernel_rfl) (fun _ _ _ h => h) (Or.inl ⟨by kernel_rfl, fun W hW => ?_⟩) hS ?_
                · go_simp
                simp only [Act.put, List.getElem_toArray, List.getElem_cons_succ, List.getElem_cons_zero, List.setIfInBounds_toArray, List.set_cons_zero, List.set_cons_succ]
                refine wpAnyH_takeS HNS (i := 7) (v := .int .i64 eY) rfl (by kernel_rfl) (by kernel_rfl) (fun _ _ _ h => h) (Or.inl ⟨by kernel_rfl, fun W hW => ?_⟩) hS ?_
                · go_simp
                simp only [Act.put, List.getElem_toArray, List.getElem_cons_succ, List.getElem_cons_zero, List.setIfInBounds_toArray, List.set_cons_zero, List.set_cons_succ]
                refine wpAnyH_ready (rs := [8]) (by kernel_rfl) (by simp) ?_
                refine (AllReadyH.cons rfl (fun K hK => ?_) AllReadyH.nil)
                · rw [if_pos (by kernel_rfl)]
                  refine wp_alloc_R 24 rfl rz0 (by kernel_rfl) ?_
                  have hbA := ((Below.refl _ _).alloc (Nat.le_refl _) _ : Below u1.heap.size u1 (u1.alloc (.cells rz0 24)))
                  replace ho := own_later ho hbA
                  have al := Held.new u1 24 rz0
                  have lal := hS.size
                  replace hS := Below.step hS hbA
                  clear hbA
                  generalize u1.alloc (.cells rz0 24) = u2 at *
                  refine hK.out _ _ hS (fun _ => ?_)
                  clear hK K
                  (try simp only [Act.put, List.getElem_toArray, List.getElem_cons_succ, List.getElem_cons_zero, List.setIfInBounds_toArray, List.set_cons_zero, List.set_cons_succ])
                  refine wpAnyH_ready (rs := [9]) (by kernel_rfl) (by simp) ?_
                  refine (AllReadyH.cons rfl (fun K hK => ?_) AllReadyH.nil)
                  · rw [if_pos (by kernel_rfl)]
                    refine wp_store_row 24 _ _ rfl _ (rgc Ax Y.buf.length cx Y.head Y.many Y.most) (by rfl) (by rfl) _ _ al (by kernel_rfl) (by rfl) (by simp [Value.oneCell']) ?_
                    have vv := rgo_set (r := Y) al ho
                    replace hS := below_setRow hS lal (rgc Ax Y.buf.length cx Y.head Y.many Y.most)
                    generalize World.setRow _ _ (rgc Ax Y.buf.length cx Y.head Y.many Y.most) = u3 at *
                    refine hK.out _ _ hS (fun _ => ?_)
                    clear hK K
                    (try simp only [Act.put, List.getElem_toArray, List.getElem_cons_succ, List.getElem_cons_zero, List.setIfInBounds_toArray, List.set_cons_zero, List.set_cons_succ])
                    have hH : Below W4.heap.size W4 u3 ∧ (∃ A c g, (rgv Ax Y.buf.length cx Y.head Y.many Y.most : Value) = rgv A Y.buf.length c Y.head Y.many Y.most ∧ (.pointer (some ⟨u1.heap.size, 0, none⟩) : Value) = .pointer (some ⟨g, 0, none⟩) ∧ RgO u3 g Y A c) := And.intro hS ⟨_, _, _, rfl, rfl, vv⟩
                    generalize (.tuple #[rgv Ax Y.buf.length cx Y.head Y.many Y.most, .int .i64 eY] : Value) = x1y0 at hH ⊢
                    generalize (rgv Ax Y.buf.length cx Y.head Y.many Y.most : Value) = x1y1 at hH ⊢
                    generalize (.pointer (some ⟨u1.heap.size, 0, none⟩) : Value) = x1y2 at hH ⊢
                    exact key u3 x1y0 x1y1 x1y2 hH
              · rw [if_pos (by kernel_rfl)]
                refine wp_alloc_R 24 rfl rz0 (by kernel_rfl) ?_
                have hbA := ((Below.refl _ _).alloc (Nat.le_refl _) _ : Below W4.heap.size W4 (W4.alloc (.cells rz0 24)))
                have al := Held.new W4 24 rz0
                have lal := hS.size
                replace hS := Below.step hS hbA
                clear hbA
                generalize W4.alloc (.cells rz0 24) = u4 at *
                refine hK.out _ _ hS (fun _ => ?_)
                clear hK K
                (try simp only [Act.put, List.getElem_toArray, List.getElem_cons_succ, List.getElem_cons_zero, List.setIfInBounds_toArray, List.set_cons_zero, List.set_cons_succ])
                refine wpAnyH_ready (rs := [4]) (by kernel_rfl) (by simp) ?_
                refine (AllReadyH.cons rfl (fun K hK => ?_) AllReadyH.nil)
                · go_simp
                  go_at_call 11
                  (with_reducible refine (push_c HY.out HK1.out HB.out.1 HN.out.2.1 c c2 _ (v1.below hS).p (pat_later (cut_head pl HLC.out k) hS)).mono ?_)
                  rintro _ u5 ⟨vx, rfl, ⟨Ax, cx, rfl, ho⟩, hb5⟩
                  replace al := Held.below al hb5
                  replace hS := Below.step hS hb5
                  (repeat (first | go_skip | go_guarded | go_step | go_upon))
                  refine hK.out _ _ hS (fun _ => ?_)
                  clear hK K
                  (try simp only [Act.put, List.getElem_toArray, List.getElem_cons_succ, List.getElem_cons_zero, List.setIfInBounds_toArray, List.set_cons_zero, List.set_cons_succ])
                  refine wpAnyH_takeS HNS (i := 5) (v := .tuple #[rgv Ax Y.buf.length cx Y.head Y.many Y.most, .int .i64 eY]) rfl (by kernel_rfl) (by kernel_rfl) (fun _ _ _ h => h) (Or.inl ⟨by kernel_rfl, fun W hW => ?_⟩) hS ?_
                  · go_simp
                  simp only [Act.put, List.getElem_toArray, List.getElem_cons_succ, List.getElem_cons_zero, List.setIfInBounds_toArray, List.set_cons_zero, List.set_cons_succ]
                  refine wpAnyH_takeS HNS (i := 6) (v := rgv Ax Y.buf.length cx Y.head Y.many Y.most) rfl (by kernel_rfl) (by kernel_rfl) (fun _ _ _ h => h) (Or.inl ⟨by kernel_rfl, fun W hW => ?_⟩) hS ?_
                  · go_simp
                  simp only [Act.put, List.getElem_toArray, List.getElem_cons_succ, List.getElem_cons_zero, List.setIfInBounds_toArray, List.set_cons_zero, List.set_cons_succ]
                  refine wpAnyH_takeS HNS (i := 7) (v := .int .i64 eY) rfl (by kernel_rfl) (by kernel_rfl) (fun _ _ _ h => h) (Or.inl ⟨by kernel_rfl, fun W hW => ?_⟩) hS ?_
                  · go_simp
                  simp only [Act.put, List.getElem_toArray, List.getElem_cons_succ, List.getElem_cons_zero, List.setIfInBounds_toArray, List.set_cons_zero, List.set_cons_succ]
                  refine wpAnyH_ready (rs := [9]) (by kernel_rfl) (by simp) ?_
                  refine (AllReadyH.cons rfl (fun K hK => ?_) AllReadyH.nil)
                  · rw [if_pos (by kernel_rfl)]
                    refine wp_store_row 24 _ _ rfl _ (rgc Ax Y.buf.length cx Y.head Y.many Y.most) (by rfl) (by rfl) _ _ al (by kernel_rfl) (by rfl) (by simp [Value.oneCell']) ?_
                    have vv := rgo_set (r := Y) al ho
                    replace hS := below_setRow hS lal (rgc Ax Y.buf.length cx Y.head Y.many Y.most)
                    generalize World.setRow _ _ (rgc Ax Y.buf.length cx Y.head Y.many Y.most) = u6 at *
                    refine hK.out _ _ hS (fun _ => ?_)
                    clear hK K
                    (try simp only [Act.put, List.getElem_toArray, List.getElem_cons_succ, List.getElem_cons_zero, List.setIfInBounds_toArray, List.set_cons_zero, List.set_cons_succ])
                    have hH : Below W4.heap.size W4 u6 ∧ (∃ A c g, (rgv Ax Y.buf.length cx Y.head Y.many Y.most : Value) = rgv A Y.buf.length c Y.head Y.many Y.most ∧ (.pointer (some ⟨W4.heap.size, 0, none⟩) : Value) = .pointer (some ⟨g, 0, none⟩) ∧ RgO u6 g Y A c) := And.intro hS ⟨_, _, _, rfl, rfl, vv⟩
                    generalize (.tuple #[rgv Ax Y.buf.length cx Y.head Y.many Y.most, .int .i64 eY] : Value) = x1y0 at hH ⊢
                    generalize (rgv Ax Y.buf.length cx Y.head Y.many Y.most : Value) = x1y1 at hH ⊢
                    generalize (.pointer (some ⟨W4.heap.size, 0, none⟩) : Value) = x1y2 at hH ⊢
                    exact key u6 x1y0 x1y1 x1y2 hH
            case key =>
              intro Wj1 x1y0 x1y1 x1y2 hH
              obtain ⟨hS, A9, c9, g9, rfl, rfl, v9⟩ := hH
              refine wpAnyH_takeS HNS (i := 10) (v := .int .i64 eY) rfl (by kernel_rfl) (by kernel_rfl) (fun _ _ _ h => h) (Or.inl ⟨by kernel_rfl, fun W hW => ?_⟩) hS ?_
              · go_simp
              simp only [Act.put, List.getElem_toArray, List.getElem_cons_succ, List.getElem_cons_zero, List.setIfInBounds_toArray, List.set_cons_zero, List.set_cons_succ]
              refine wpAnyH_done (by kernel_rfl) ?_ _
              have hz := Below.step hW hS
              replace v1 := v1.below hS
              replace pl := pat_later pl hS
              replace v7 := v7.below hS
              clear hW
              have hW := hz
              clear hz hS
              by_cases h0 : eY = 0
              · subst h0
                have e9 := HP2.out rfl
                simp only [Prod.mk.injEq] at e9
                obtain ⟨e91, e92⟩ := e9
                have e93 := e92.symm
                subst e93
                have HE := Lib.hid e91
                clear e91
                go_upto_region 7 with (fail)
                have hdr := (Below.refl Wj1.heap.size Wj1).drew
                replace v1 := v1.below hdr
                replace pl := pat_later pl hdr
                replace v7 := v7.below hdr
                replace v9 := v9.below hdr
                replace hW := Below.step hW hdr
                clear hdr
                refine wp_region_held_drew (S := fun W => Below Wj1.drew.heap.size Wj1.drew W) (by kernel_rfl) (Below.refl _ _) (fun hS => ?_)
                generalize Wj1.drew = W6 at *
                show wpAnyH _ _ _ _ _ 11 #[false, false, false, false, false, false, false, false, false, false, false] _ _
                refine wpAnyH_begin (by kernel_rfl) (fun HNS => ?_)
                refine wpAnyH_takeS HNS (i := 0) (v := .agg (rgc A9 Y.buf.length c9 Y.head Y.many Y.most)) rfl (by kernel_rfl) (by kernel_rfl) (fun _ _ _ h => h) (Or.inl ⟨by kernel_rfl, fun W hW => ?_⟩) hS ?_
                · (have hz := Held.below v9.x hW; have z0 := hz.cell 0; have z1 := hz.cell 1; have z2 := hz.cell 2; have z3 := hz.cell 3; simp at z0 z1 z2 z3; go_simp)
                simp only [Act.put, List.getElem_toArray, List.getElem_cons_succ, List.getElem_cons_zero, List.setIfInBounds_toArray, List.set_cons_zero, List.set_cons_succ]
                refine wpAnyH_takeS HNS (i := 1) (v := .slice A2 nl c2) rfl (by kernel_rfl) (by kernel_rfl) (fun _ _ _ h => h) (Or.inl ⟨by kernel_rfl, fun W hW => ?_⟩) hS ?_
                · go_simp
                simp only [Act.put, List.getElem_toArray, List.getElem_cons_succ, List.getElem_cons_zero, List.setIfInBounds_toArray, List.set_cons_zero, List.set_cons_succ]
                refine wpAnyH_takeS HNS (i := 2) (v := .int .i64 (k : Int)) rfl (by kernel_rfl) (by kernel_rfl) (fun _ _ _ h => h) (Or.inl ⟨by kernel_rfl, fun W hW => ?_⟩) hS ?_
                · go_simp
                simp only [Act.put, List.getElem_toArray, List.getElem_cons_succ, List.getElem_cons_zero, List.setIfInBounds_toArray, List.set_cons_zero, List.set_cons_succ]
                refine wpAnyH_takeS HNS (i := 3) (v := .slice (cutA A2 c2 k) (nl - k) (c2 - k)) rfl (by kernel_rfl) (by kernel_rfl) (fun _ _ _ h => h) (Or.inl ⟨by kernel_rfl, fun W hW => ?_⟩) hS ?_
                · (simp only [execOp, Act.eval]; go_simp)
                simp only [Act.put, List.getElem_toArray, List.getElem_cons_succ, List.getElem_cons_zero, List.setIfInBounds_toArray, List.set_cons_zero, List.set_cons_succ]
                apply join3 (H := fun Wj1 x1y0 x1y1 x1y2 => Below W6.heap.size W6 Wj1 ∧ (∃ A c g, x1y1 = rgv A Z.buf.length c Z.head Z.many Z.most ∧ x1y2 = .pointer (some ⟨g, 0, none⟩) ∧ RgO Wj1 g Z A c))
                case both =>
                  intro key
                  refine wpAnyH_ready (rs := [4, 8]) (by kernel_rfl) (by simp) ?_
                  refine (AllReadyH.cons rfl (fun K hK => ?_) (AllReadyH.cons rfl (fun K hK => ?_) AllReadyH.nil))
                  · go_simp
                    go_at_call 11
                    (with_reducible refine (push_c HZ.out HK2.out HB.out.2.2.1 HN.out.2.2 c9 (c2 - k) _ (v9.read.below hS).p (pat_later (cut_tail pl HLC.out k) hS)).mono ?_)
                    rintro _ u7 ⟨vx, rfl, ⟨Ax, cx, rfl, ho⟩, hb7⟩
                    replace hS := Below.step hS hb7
                    (repeat (first | go_skip | go_guarded | go_step | go_upon))
                    refine hK.out _ _ hS (fun _ => ?_)
                    clear hK K
                    (try simp only [Act.put, List.getElem_toArray, List.getElem_cons_succ, List.getElem_cons_zero, List.setIfInBounds_toArray, List.set_cons_zero, List.set_cons_succ])
                    refine wpAnyH_takeS HNS (i := 5) (v := .tuple #[rgv Ax Z.buf.length cx Z.head Z.many Z.most, .int .i64 eX]) rfl (by kernel_rfl) (by kernel_rfl) (fun _ _ _ h => h) (Or.inl ⟨by kernel_rfl, fun W hW => ?_⟩) hS ?_
                    · go_simp
                    simp only [Act.put, List.getElem_toArray, List.getElem_cons_succ, List.getElem_cons_zero, List.setIfInBounds_toArray, List.set_cons_zero, List.set_cons_succ]
                    refine wpAnyH_takeS HNS (i := 6) (v := rgv Ax Z.buf.length cx Z.head Z.many Z.most) rfl (by kernel_rfl) (by kernel_rfl) (fun _ _ _ h => h) (Or.inl ⟨by kernel_rfl, fun W hW => ?_⟩) hS ?_
                    · go_simp
                    simp only [Act.put, List.getElem_toArray, List.getElem_cons_succ, List.getElem_cons_zero, List.setIfInBounds_toArray, List.set_cons_zero, List.set_cons_succ]
                    refine wpAnyH_takeS HNS (i := 7) (v := .int .i64 eX) rfl (by kernel_rfl) (by kernel_rfl) (fun _ _ _ h => h) (Or.inl ⟨by kernel_rfl, fun W hW => ?_⟩) hS ?_
                    · go_simp
                    simp only [Act.put, List.getElem_toArray, List.getElem_cons_succ, List.getElem_cons_zero, List.setIfInBounds_toArray, List.set_cons_zero, List.set_cons_succ]
                    refine wpAnyH_ready (rs := [8]) (by kernel_rfl) (by simp) ?_
                    refine (AllReadyH.cons rfl (fun K hK => ?_) AllReadyH.nil)
                    · rw [if_pos (by kernel_rfl)]
                      refine wp_alloc_R 24 rfl rz0 (by kernel_rfl) ?_
                      have hbA := ((Below.refl _ _).alloc (Nat.le_refl _) _ : Below u7.heap.size u7 (u7.alloc (.cells rz0 24)))
                      replace ho := own_later ho hbA
                      have al := Held.new u7 24 rz0
                      have lal := hS.size
                      replace hS := Below.step hS hbA
                      clear hbA
                      generalize u7.alloc (.cells rz0 24) = u8 at *
                      refine hK.out _ _ hS (fun _ => ?_)
                      clear hK K
                      (try simp only [Act.put, List.getElem_toArray, List.getElem_cons_succ, List.getElem_cons_zero, List.setIfInBounds_toArray, List.set_cons_zero, List.set_cons_succ])
                      refine wpAnyH_ready (rs := [9]) (by kernel_rfl) (by simp) ?_
                      refine (AllReadyH.cons rfl (fun K hK => ?_) AllReadyH.nil)
                      · rw [if_pos (by kernel_rfl)]
                        refine wp_store_row 24 _ _ rfl _ (rgc Ax Z.buf.length cx Z.head Z.many Z.most) (by rfl) (by rfl) _ _ al (by kernel_rfl) (by rfl) (by simp [Value.oneCell']) ?_
                        have vv := rgo_set (r := Z) al ho
                        replace hS := below_setRow hS lal (rgc Ax Z.buf.length cx Z.head Z.many Z.most)
                        generalize World.setRow _ _ (rgc Ax Z.buf.length cx Z.head Z.many Z.most) = u9 at *
                        refine hK.out _ _ hS (fun _ => ?_)
                        clear hK K
                        (try simp only [Act.put, List.getElem_toArray, List.getElem_cons_succ, List.getElem_cons_zero, List.setIfInBounds_toArray, List.set_cons_zero, List.set_cons_succ])
                        have hH : Below W6.heap.size W6 u9 ∧ (∃ A c g, (rgv Ax Z.buf.length cx Z.head Z.many Z.most : Value) = rgv A Z.buf.length c Z.head Z.many Z.most ∧ (.pointer (some ⟨u7.heap.size, 0, none⟩) : Value) = .pointer (some ⟨g, 0, none⟩) ∧ RgO u9 g Z A c) := And.intro hS ⟨_, _, _, rfl, rfl, vv⟩
                        generalize (.tuple #[rgv Ax Z.buf.length cx Z.head Z.many Z.most, .int .i64 eX] : Value) = x1y0 at hH ⊢
                        generalize (rgv Ax Z.buf.length cx Z.head Z.many Z.most : Value) = x1y1 at hH ⊢
                        generalize (.pointer (some ⟨u7.heap.size, 0, none⟩) : Value) = x1y2 at hH ⊢
                        exact key u9 x1y0 x1y1 x1y2 hH
                  · rw [if_pos (by kernel_rfl)]
                    refine wp_alloc_R 24 rfl rz0 (by kernel_rfl) ?_
                    have hbA := ((Below.refl _ _).alloc (Nat.le_refl _) _ : Below W6.heap.size W6 (W6.alloc (.cells rz0 24)))
                    have al := Held.new W6 24 rz0
                    have lal := hS.size
                    replace hS := Below.step hS hbA
                    clear hbA
                    generalize W6.alloc (.cells rz0 24) = u10 at *
                    refine hK.out _ _ hS (fun _ => ?_)
                    clear hK K
                    (try simp only [Act.put, List.getElem_toArray, List.getElem_cons_succ, List.getElem_cons_zero, List.setIfInBounds_toArray, List.set_cons_zero, List.set_cons_succ])
                    refine wpAnyH_ready (rs := [4]) (by kernel_rfl) (by simp) ?_
                    refine (AllReadyH.cons rfl (fun K hK => ?_) AllReadyH.nil)
                    · go_simp
                      go_at_call 11
                      (with_reducible refine (push_c HZ.out HK2.out HB.out.2.2.1 HN.out.2.2 c9 (c2 - k) _ (v9.read.below hS).p (pat_later (cut_tail pl HLC.out k) hS)).mono ?_)
                      rintro _ u11 ⟨vx, rfl, ⟨Ax, cx, rfl, ho⟩, hb11⟩
                      replace al := Held.below al hb11
                      replace hS := Below.step hS hb11
                      (repeat (first | go_skip | go_guarded | go_step | go_upon))
                      refine hK.out _ _ hS (fun _ => ?_)
                      clear hK K
                      (try simp only [Act.put, List.getElem_toArray, List.getElem_cons_succ, List.getElem_cons_zero, List.setIfInBounds_toArray, List.set_cons_zero, List.set_cons_succ])
                      refine wpAnyH_takeS HNS (i := 5) (v := .tuple #[rgv Ax Z.buf.length cx Z.head Z.many Z.most, .int .i64 eX]) rfl (by kernel_rfl) (by kernel_rfl) (fun _ _ _ h => h) (Or.inl ⟨by kernel_rfl, fun W hW => ?_⟩) hS ?_
                      · go_simp
                      simp only [Act.put, List.getElem_toArray, List.getElem_cons_succ, List.getElem_cons_zero, List.setIfInBounds_toArray, List.set_cons_zero, List.set_cons_succ]
                      refine wpAnyH_takeS HNS (i := 6) (v := rgv Ax Z.buf.length cx Z.head Z.many Z.most) rfl (by kernel_rfl) (by kernel_rfl) (fun _ _ _ h => h) (Or.inl ⟨by kernel_rfl, fun W hW => ?_⟩) hS ?_
                      · go_simp
                      simp only [Act.put, List.getElem_toArray, List.getElem_cons_succ, List.getElem_cons_zero, List.setIfInBounds_toArray, List.set_cons_zero, List.set_cons_succ]
                      refine wpAnyH_takeS HNS (i := 7) (v := .int .i64 eX) rfl (by kernel_rfl) (by kernel_rfl) (fun _ _ _ h => h) (Or.inl ⟨by kernel_rfl, fun W hW => ?_⟩) hS ?_
                      · go_simp
                      simp only [Act.put, List.getElem_toArray, List.getElem_cons_succ, List.getElem_cons_zero, List.setIfInBounds_toArray, List.set_cons_zero, List.set_cons_succ]
                      refine wpAnyH_ready (rs := [9]) (by kernel_rfl) (by simp) ?_
                      refine (AllReadyH.cons rfl (fun K hK => ?_) AllReadyH.nil)
                      · rw [if_pos (by kernel_rfl)]
                        refine wp_store_row 24 _ _ rfl _ (rgc Ax Z.buf.length cx Z.head Z.many Z.most) (by rfl) (by rfl) _ _ al (by kernel_rfl) (by rfl) (by simp [Value.oneCell']) ?_
                        have vv := rgo_set (r := Z) al ho
                        replace hS := below_setRow hS lal (rgc Ax Z.buf.length cx Z.head Z.many Z.most)
                        generalize World.setRow _ _ (rgc Ax Z.buf.length cx Z.head Z.many Z.most) = u12 at *
                        refine hK.out _ _ hS (fun _ => ?_)
                        clear hK K
                        (try simp only [Act.put, List.getElem_toArray, List.getElem_cons_succ, List.getElem_cons_zero, List.setIfInBounds_toArray, List.set_cons_zero, List.set_cons_succ])
                        have hH : Below W6.heap.size W6 u12 ∧ (∃ A c g, (rgv Ax Z.buf.length cx Z.head Z.many Z.most : Value) = rgv A Z.buf.length c Z.head Z.many Z.most ∧ (.pointer (some ⟨W6.heap.size, 0, none⟩) : Value) = .pointer (some ⟨g, 0, none⟩) ∧ RgO u12 g Z A c) := And.intro hS ⟨_, _, _, rfl, rfl, vv⟩
                        generalize (.tuple #[rgv Ax Z.buf.length cx Z.head Z.many Z.most, .int .i64 eX] : Value) = x1y0 at hH ⊢
                        generalize (rgv Ax Z.buf.length cx Z.head Z.many Z.most : Value) = x1y1 at hH ⊢
                        generalize (.pointer (some ⟨W6.heap.size, 0, none⟩) : Value) = x1y2 at hH ⊢
                        exact key u12 x1y0 x1y1 x1y2 hH
                case key =>
                  intro Wj1 x1y0 x1y1 x1y2 hH
                  obtain ⟨hS, A11, c11, g11, rfl, rfl, v11⟩ := hH
                  refine wpAnyH_takeS HNS (i := 10) (v := .int .i64 eX) rfl (by kernel_rfl) (by kernel_rfl) (fun _ _ _ h => h) (Or.inl ⟨by kernel_rfl, fun W hW => ?_⟩) hS ?_
                  · go_simp
                  simp only [Act.put, List.getElem_toArray, List.getElem_cons_succ, List.getElem_cons_zero, List.setIfInBounds_toArray, List.set_cons_zero, List.set_cons_succ]
                  refine wpAnyH_done (by kernel_rfl) ?_ _
                  have hz := Below.step hW hS
                  replace v1 := v1.below hS
                  replace pl := pat_later pl hS
                  replace v7 := v7.below hS
                  replace v9 := v9.below hS
                  clear hW
                  have hW := hz
                  clear hz hS
                  by_cases h1 : eX = 0
                  · subst h1
                    have hZX : Z = X := by rw [HE.out, if_pos rfl]
                    subst hZX
                    obtain ⟨f1, f2, f3, f4, f5, f6⟩ := HFIN.out rfl
                    have e4 : (Z.most == r.most) = true := by simpa using f4
                    have HF3 := Lib.hid f3
                    clear f3 f4 e92
                    rcases Decidable.em (Z.buf.length = r.buf.length) with f3 | f3
                    · have e1 : ((Z.buf.length : Int) == (r.buf.length : Int)) = true := by simp; omega
                      have e2 : (Z.buf.length == r.buf.length) = true := by simpa using f3
                      clear f3 f5 f6
                      go_wp2_with (first
                        | (guard_target = wpList _ _ _ (Oper.mk (some 77) _ _ _ _ none :: _) _ _; refine wpList_load_row rfl 24 _ rfl g7 rfl _ _ _ _ v7.x Try.underlying24 rfl (by kernel_rfl) ?_)
                        | (guard_target = wpList _ _ _ (Oper.mk (some 78) _ _ _ _ none :: _) _ _; refine wpList_load_row rfl 24 _ rfl g11 rfl _ _ _ _ v11.x Try.underlying24 rfl (by kernel_rfl) ?_)
                        | (go_at_call 21; (with_reducible refine (rsame_c (R := true) (by simp) HB.out.2.1 HB.out.2.1 c7 c11 _ v7.read.p v11.read.p).mono ?_); rintro _ us ⟨rfl, hbs⟩; replace v1 := v1.below hbs; replace pl := pat_later pl hbs; replace v7 := v7.below hbs; replace v9 := v9.below hbs; replace v11 := v11.below hbs; replace hW := Below.step hW hbs; have x0 := v7.x.cell 0; have x2 := v7.x.cell 2; have x3 := v7.x.cell 3; have z0 := v1.x.cell 0; have z3 := v1.x.cell 3; simp at x0 x2 x3 z0 z3))
                      go_ret
                      exact ⟨rfl, hW⟩
                    · have e1 : ((Z.buf.length : Int) == (r.buf.length : Int)) = false := by simp; omega
                      have e2 : (Z.buf.length == r.buf.length) = false := by simpa using f3
                      have f7 : (Z.buf.length : Int) ≤ 2 * Z.many := HF3.out.resolve_left f3
                      clear f3
                      go_wp2_with (first
                        | (guard_target = wpList _ _ _ (Oper.mk (some 77) _ _ _ _ none :: _) _ _; refine wpList_load_row rfl 24 _ rfl g7 rfl _ _ _ _ v7.x Try.underlying24 rfl (by kernel_rfl) ?_)
                        | (guard_target = wpList _ _ _ (Oper.mk (some 78) _ _ _ _ none :: _) _ _; refine wpList_load_row rfl 24 _ rfl g11 rfl _ _ _ _ v11.x Try.underlying24 rfl (by kernel_rfl) ?_)
                        | (go_at_call 21; (with_reducible refine (rsame_c (R := true) (by simp) HB.out.2.1 HB.out.2.1 c7 c11 _ v7.read.p v11.read.p).mono ?_); rintro _ us ⟨rfl, hbs⟩; replace v1 := v1.below hbs; replace pl := pat_later pl hbs; replace v7 := v7.below hbs; replace v9 := v9.below hbs; replace v11 := v11.below hbs; replace hW := Below.step hW hbs; have x0 := v7.x.cell 0; have x2 := v7.x.cell 2; have x3 := v7.x.cell 3; have z0 := v1.x.cell 0; have z3 := v1.x.cell 3; simp at x0 x2 x3 z0 z3))
                      go_ret
                      exact ⟨rfl, hW⟩
                  · have q2 : (eX != 0) = true := by simpa using h1
                    go_wp2_with fail
                    go_ret
                    exact ⟨by simp, hW⟩
              · have q1 := HP1.out h0
                have q2 : (eY != 0) = true := by simpa using h0
                go_wp2_with fail
                go_ret
                rw [q1]
                exact ⟨rfl, hW⟩
end Go.Proofs.Ythmnaclmbglkdaa.ringParts
