/- RingEnds. -/
import Derived.Test.YthmnaclmbglkdaaJm
import Derived.Test.YthmnaclmbglkdaaNl
import Derived.Deep.DeepCutAuto
import Derived.Deep.CutBlock
namespace Go.Proofs.Ythmnaclmbglkdaa.ringEnds
set_option linter.unusedVariables false
set_option linter.unusedSimpArgs false
open Go.RowKit Go.ChangeShapes Go.WideShapes Go.ChangeAt Go.Sort Go.Proofs.Ythmnaclmbglkdaa

/-- Up to the push. -/
def Pre (P : Prop) : Prop := P
set_option maxHeartbeats 20000000 in
set_option maxRecDepth 100000 in
theorem walk (CF : ∀ w, Calls Try.prog 10 #[] w fun e w' => e = .returned (.bool true) ∧ Below w.heap.size w w') {A A2 : Option Addr} {r : Rng} {l : List P2} {B nl : Nat} (c c2 : Nat) (w : World) (hp : PAt w B A r.buf) (hp2 : PAt w B A2 l) (hB : B ≤ w.heap.size) (hl : l.length = nl) :
    Calls Try.prog 5 #[rgv A r.buf.length c r.head r.many r.most, .slice A2 nl c2] w fun e w' => e = .returned (.bool true) ∧ Below w.heap.size w w' := by
  have hW : Below w.heap.size w (w.alloc (.cells (rgc A r.buf.length c r.head r.many r.most) 24)) := (Below.refl _ _).alloc (Nat.le_refl _) _
  have v1 : RgV (w.alloc (.cells (rgc A r.buf.length c r.head r.many r.most) 24)) w.heap.size r A c := ⟨Held.new w 24 _, (hp.below hW hB).more (Nat.le_trans hB hW.size)⟩
  obtain ⟨sm, hsm⟩ : ∃ b, decide (r.buf.length ≤ 60) = b := ⟨_, rfl⟩
  obtain ⟨my, hmy⟩ : ∃ b, mayR r = b := ⟨_, rfl⟩
  have HSM := Lib.hid hsm
  have HMY := Lib.hid hmy
  have HL := Lib.hid hl
  have HP := Lib.hid (fun W (h : Below w.heap.size w W) => ((hp2.below h hB).more (Nat.le_trans hB h.size) : PAt W W.heap.size A2 l))
  have HPR := Lib.hid (fun W (h : Below w.heap.size w W) => ((hp.below h hB).more (Nat.le_trans hB h.size) : PAt W W.heap.size A r.buf))
  clear hsm hmy hl hp hp2 hB
  go_enter Try.func5, Try.ntmps5
  go_upto_region 1 with (fail)
  generalize w.alloc (.cells (rgc A r.buf.length c r.head r.many r.most) 24) = W0 at *
  cases sm with
  | false =>
    go_wp2_with (first
      | (go_at_call 10; (with_reducible refine (CF _).mono ?_); rintro _ uf ⟨rfl, hbf⟩; replace v1 := v1.below hbf; replace hW := Below.step hW hbf)
      | (guard_target = wpList _ _ _ (Oper.mk (some 24) _ _ _ _ _ :: _) _ _; refine wpList_doneR rfl ?_; refine wpList_load_row rfl 24 _ rfl w.heap.size rfl _ _ _ _ v1.x Try.underlying24 rfl (by kernel_rfl) ?_)
      | (go_at_call 9; (with_reducible refine (rsmall_c HSM.out A c _).mono ?_); rintro _ us ⟨rfl, hbs⟩; replace v1 := v1.below hbs; replace hW := Below.step hW hbs)
      | (guard_target = wpList _ _ _ (Oper.mk (some 34) _ _ _ _ _ :: _) _ _; refine wpList_doneR rfl ?_; refine wpList_load_row rfl 24 _ rfl w.heap.size rfl _ _ _ _ v1.x Try.underlying24 rfl (by kernel_rfl) ?_)
      | (go_at_call 26; (with_reducible refine (rmay_c HMY.out A c _).mono ?_); rintro _ um ⟨rfl, hbm⟩; replace v1 := v1.below hbm; replace hW := Below.step hW hbm))
    go_ret
    exact ⟨rfl, hW⟩
  | true =>
    by_cases hg1 : (20 : Int) < nl
    · have q1 : decide ((20 : Int) < nl) = true := decide_eq_true hg1
      go_wp2_with (first
        | (go_at_call 10; (with_reducible refine (CF _).mono ?_); rintro _ uf ⟨rfl, hbf⟩; replace v1 := v1.below hbf; replace hW := Below.step hW hbf)
        | (guard_target = wpList _ _ _ (Oper.mk (some 24) _ _ _ _ _ :: _) _ _; refine wpList_doneR rfl ?_; refine wpList_load_row rfl 24 _ rfl w.heap.size rfl _ _ _ _ v1.x Try.underlying24 rfl (by kernel_rfl) ?_)
        | (go_at_call 9; (with_reducible refine (rsmall_c HSM.out A c _).mono ?_); rintro _ us ⟨rfl, hbs⟩; replace v1 := v1.below hbs; replace hW := Below.step hW hbs)
        | (guard_target = wpList _ _ _ (Oper.mk (some 34) _ _ _ _ _ :: _) _ _; refine wpList_doneR rfl ?_; refine wpList_load_row rfl 24 _ rfl w.heap.size rfl _ _ _ _ v1.x Try.underlying24 rfl (by kernel_rfl) ?_)
        | (go_at_call 26; (with_reducible refine (rmay_c HMY.out A c _).mono ?_); rintro _ um ⟨rfl, hbm⟩; replace v1 := v1.below hbm; replace hW := Below.step hW hbm))
      go_ret
      exact ⟨rfl, hW⟩
    · have q1 : decide ((20 : Int) < nl) = false := decide_eq_false hg1
      cases my with
      | false =>
        go_wp2_with (first
          | (go_at_call 10; (with_reducible refine (CF _).mono ?_); rintro _ uf ⟨rfl, hbf⟩; replace v1 := v1.below hbf; replace hW := Below.step hW hbf)
          | (guard_target = wpList _ _ _ (Oper.mk (some 24) _ _ _ _ _ :: _) _ _; refine wpList_doneR rfl ?_; refine wpList_load_row rfl 24 _ rfl w.heap.size rfl _ _ _ _ v1.x Try.underlying24 rfl (by kernel_rfl) ?_)
          | (go_at_call 9; (with_reducible refine (rsmall_c HSM.out A c _).mono ?_); rintro _ us ⟨rfl, hbs⟩; replace v1 := v1.below hbs; replace hW := Below.step hW hbs)
          | (guard_target = wpList _ _ _ (Oper.mk (some 34) _ _ _ _ _ :: _) _ _; refine wpList_doneR rfl ?_; refine wpList_load_row rfl 24 _ rfl w.heap.size rfl _ _ _ _ v1.x Try.underlying24 rfl (by kernel_rfl) ?_)
          | (go_at_call 26; (with_reducible refine (rmay_c HMY.out A c _).mono ?_); rintro _ um ⟨rfl, hbm⟩; replace v1 := v1.below hbm; replace hW := Below.step hW hbm))
        go_ret
        exact ⟨rfl, hW⟩
      | true =>
        have hr60 : r.buf.length ≤ 60 := of_decide_eq_true HSM.out
        have hnl : nl ≤ 20 := by omega
        obtain ⟨X, eX, hX⟩ : ∃ X e, pushR r l = (X, e) := ⟨_, _, rfl⟩
        obtain ⟨L, hLq⟩ : ∃ L, itemsR r = L := ⟨_, rfl⟩
        obtain ⟨nL, hnL⟩ : ∃ n, L.length = n := ⟨_, rfl⟩
        have hnL60 : nL ≤ 60 := by
          have h1 := items_len HMY.out
          have h2 := ((mayR_iff r).1 HMY.out).2.2.2.2
          rw [hLq] at h1
          omega
        have hXl : X.buf.length ≤ 100000 := by
          have := push_len l (r := r) (by omega)
          rwa [hX] at this
        have hfin : eX = 0 → mayR X = true ∧ itemsR X = L ++ l ∧ (∀ k, k < nl → (popR (popN k X)).2.1 = l.getD (nl - 1 - k) (0, 0) ∧ (popR (popN k X)).2.2 = true) ∧ itemsR (popN nl X) = L := fun h0 => by
          subst h0
          have hno : ¬ mayR r = false := by rw [HMY.out]; decide
          have hf : ¬ r.most < r.many + l.length := fun hf => by
            unfold pushR at hX
            rw [if_neg hno, if_pos hf] at hX
            simp at hX
          have hX2 : manyR r l = X := by
            unfold pushR at hX
            rw [if_neg hno, if_neg hf] at hX
            simpa using hX
          obtain ⟨q1, q2, -, -, -, -⟩ := many_ok l HMY.out (by omega)
          obtain ⟨e1, e2⟩ := ends_pop HMY.out (l := l) (by omega)
          rw [hX2] at q1 q2 e2
          rw [hX2, HL.out] at e1
          rw [HL.out] at e2
          rw [hLq] at q2 e2
          exact ⟨q1, q2, e1, e2⟩
        have HN := Lib.hid (And.intro hnl (And.intro hnL60 (And.intro hnL (And.intro (show r.buf.length ≤ 100000 by omega) hXl))))
        have HX := Lib.hid hX
        have HLQ := Lib.hid hLq
        have HFIN := Lib.hid hfin
        clear hg1 hnl hnL60 hnL hXl hfin hX hLq hr60
        go_upto_region 3 with (first
          | (go_at_call 10; (with_reducible refine (CF _).mono ?_); rintro _ uf ⟨rfl, hbf⟩; replace v1 := v1.below hbf; replace hW := Below.step hW hbf)
          | (guard_target = wpList _ _ _ (Oper.mk (some 24) _ _ _ _ _ :: _) _ _; refine wpList_doneR rfl ?_; refine wpList_load_row rfl 24 _ rfl w.heap.size rfl _ _ _ _ v1.x Try.underlying24 rfl (by kernel_rfl) ?_)
          | (go_at_call 9; (with_reducible refine (rsmall_c HSM.out A c _).mono ?_); rintro _ us ⟨rfl, hbs⟩; replace v1 := v1.below hbs; replace hW := Below.step hW hbs)
          | (guard_target = wpList _ _ _ (Oper.mk (some 34) _ _ _ _ _ :: _) _ _; refine wpList_doneR rfl ?_; refine wpList_load_row rfl 24 _ rfl w.heap.size rfl _ _ _ _ v1.x Try.underlying24 rfl (by kernel_rfl) ?_)
          | (go_at_call 26; (with_reducible refine (rmay_c HMY.out A c _).mono ?_); rintro _ um ⟨rfl, hbm⟩; replace v1 := v1.below hbm; replace hW := Below.step hW hbm))
        clear q1
        have hW3 := hW.size
        generalize hum : um = W2 at *
        clear hum
        have hbA : Below W2.heap.size W2 (W2.alloc (.cells #[] 33)) := (Below.refl _ _).alloc (Nat.le_refl _) _
        have wb0 : OwnR (W2.alloc (.cells #[] 33)) W2.heap.size (.slice (some ⟨W2.heap.size, 0, none⟩) 0 0) [] := Own2.made 33 W2
        have hlt1 := v1.x.lt
        replace v1 := v1.below hbA
        have hWa := Below.step hW hbA
        have HSZ := Lib.hid hbA.size
        go_upto_region 4 with (first
          | (guard_target = wpList _ _ _ (Oper.mk (some 40) _ _ _ _ none :: _) _ _; refine wpList_load_row rfl 24 _ rfl w.heap.size rfl _ _ _ _ v1.x Try.underlying24 rfl (by kernel_rfl) ?_)
          | (go_at_call 23; (with_reducible refine (items_c HLQ.out HN.out.2.2.1 c _ v1.p).mono ?_); rintro _ u ⟨Ai, ci, rfl, wi, hb⟩; have v2 := v1.below hb; have wb := own_later wb0 hb; have hWb := Below.step hWa hb; have HI := Lib.hid (own2_at wi); have HSZ2 := Lib.hid (Nat.le_trans HSZ.out hb.size))
          | (at_builtin; refine wpList_append_r rfl _ _ rfl W2.heap.size (l := []) (k := L) rfl wb HN.out.2.2.1 rfl HI.out (by have := HN.out; omega) HSZ2.out ?_; intro A5 c5 u6 w5 hb5))
        rw [List.nil_append, Nat.zero_add] at w5
        have hW6 : Below w.heap.size w u6 := hWb.trans (hb5.mono (Nat.le_of_lt hlt1))
        have hx6 : Held u6 w.heap.size 24 (rgc A r.buf.length c r.head r.many r.most) := (hb5.block _ hlt1).trans v2.x
        have v3 : RgV u6 w.heap.size r A c := ⟨hx6, HPR.out u6 hW6⟩
        replace w5 : OwnR u6 0 (.slice A5 nL c5) L := r_mono w5 (Nat.zero_le _)
        clear v1 v2 wb0 wb hWa hWb hbA hb hb5 wi hW hlt1 hx6 hW3
        have hW := hW6
        clear hW6
        go_upto_region 5 with (first
          | (guard_target = wpList _ _ _ (Oper.mk (some 44) _ _ _ _ none :: _) _ _; refine wpList_load_row rfl 24 _ rfl w.heap.size rfl _ _ _ _ v3.x Try.underlying24 rfl (by kernel_rfl) ?_)
          | (go_at_call 11; (with_reducible refine (push_c HX.out HL.out HN.out.2.2.2.1 (by have := HN.out; omega) c c2 _ v3.p (HP.out _ hW)).mono ?_); rintro _ u ⟨v, rfl, ⟨A6, c6, rfl, ho⟩, hb⟩; have hn := Held.new u 24 rz0)
          | (guard_target = wpList _ _ _ (Oper.mk _ (Op.store 24 (.tmp 6) _) _ _ _ none :: _) _ _; refine wpList_store_row rfl 24 _ _ rfl u.heap.size (rgc A6 X.buf.length c6 X.head X.many X.most) rfl rfl _ _ hn (by kernel_rfl) rfl (by simp [Value.oneCell']) ?_))
        obtain ⟨v6, hbW⟩ := new_o1 hb ho
        have hG6 := Nat.le_trans hW.size hb.size
        clear hb ho hn
        replace v3 := v3.below hbW
        replace w5 := own_later w5 hbW
        replace hW := Below.step hW hbW
        clear hbW
        generalize World.setRow _ u.heap.size _ = W4 at *
        generalize u.heap.size = g6 at *
        by_cases h0 : eX = 0
        · subst h0
          obtain ⟨f1, f2, f3, f4⟩ := HFIN.out rfl
          have HF1 := Lib.hid f1
          have HF2 := Lib.hid f2
          have HF3 := Lib.hid f3
          have HF4 := Lib.hid f4
          clear f1 f2 f3 f4
          go_upto_region 7 with (fail)
          have hdr := (Below.refl W4.heap.size W4).drew
          replace v3 := v3.below hdr
          replace w5 := own_later w5 hdr
          replace v6 := v6.below hdr
          replace hW := Below.step hW hdr
          clear hdr
          refine wp_region_held_drew (S := fun W => Below W4.drew.heap.size W4.drew W) (by kernel_rfl) (Below.refl _ _) (fun hS => ?_)
          generalize W4.drew = W7 at *
          show wpAnyH _ _ _ _ _ 6 #[false, false, false, false, false, false] _ _
          refine wpAnyH_begin (by kernel_rfl) (fun HNS => ?_)
          refine wpAnyH_takeS HNS (i := 0) (v := .agg (rgc A6 X.buf.length c6 X.head X.many X.most)) rfl (by kernel_rfl) (by kernel_rfl) (fun _ _ _ h => h) (Or.inl ⟨by kernel_rfl, fun W hW => ?_⟩) hS ?_
          · (have hz := Held.below v6.x hW; have z0 := hz.cell 0; have z1 := hz.cell 1; have z2 := hz.cell 2; have z3 := hz.cell 3; simp at z0 z1 z2 z3; go_simp)
          simp only [Act.put, List.getElem_toArray, List.getElem_cons_succ, List.getElem_cons_zero, List.setIfInBounds_toArray, List.set_cons_zero, List.set_cons_succ]
          refine wpAnyH_takeS HNS (i := 1) (v := .agg (rgc A6 X.buf.length c6 X.head X.many X.most)) rfl (by kernel_rfl) (by kernel_rfl) (fun _ _ _ h => h) (Or.inl ⟨by kernel_rfl, fun W hW => ?_⟩) hS ?_
          · (have hz := Held.below v6.x hW; have z0 := hz.cell 0; have z1 := hz.cell 1; have z2 := hz.cell 2; have z3 := hz.cell 3; simp at z0 z1 z2 z3; go_simp)
          simp only [Act.put, List.getElem_toArray, List.getElem_cons_succ, List.getElem_cons_zero, List.setIfInBounds_toArray, List.set_cons_zero, List.set_cons_succ]
          apply join2 (H := fun Wj1 x1y0 x1y1 => Below W7.heap.size W7 Wj1 ∧ (∃ g8 g9, x1y0 = .pointer (some ⟨g8, 0, none⟩) ∧ x1y1 = .pointer (some ⟨g9, 0, none⟩) ∧ RgO Wj1 g8 X A6 c6 ∧ RgO Wj1 g9 X A6 c6 ∧ W7.heap.size ≤ g8 ∧ W7.heap.size ≤ g9 ∧ g8 ≠ g9))
          case both =>
            intro key
            refine wpAnyH_ready (rs := [2, 3]) (by kernel_rfl) (by simp) ?_
            refine (AllReadyH.cons rfl (fun K hK => ?_) (AllReadyH.cons rfl (fun K hK => ?_) AllReadyH.nil))
            · rw [if_pos (by kernel_rfl)]
              refine wp_alloc_R 24 rfl rz0 (by kernel_rfl) ?_
              have hbA := ((Below.refl _ _).alloc (Nat.le_refl _) _ : Below W7.heap.size W7 (W7.alloc (.cells rz0 24)))
              have al8 := Held.new W7 24 rz0
              have lal8 := hS.size
              replace hS := Below.step hS hbA
              clear hbA
              generalize W7.alloc (.cells rz0 24) = u1 at *
              refine hK.out _ _ hS (fun _ => ?_)
              clear hK K
              (try simp only [Act.put, List.getElem_toArray, List.getElem_cons_succ, List.getElem_cons_zero, List.setIfInBounds_toArray, List.set_cons_zero, List.set_cons_succ])
              refine wpAnyH_ready (rs := [3]) (by kernel_rfl) (by simp) ?_
              refine (AllReadyH.cons rfl (fun K hK => ?_) AllReadyH.nil)
              · rw [if_pos (by kernel_rfl)]
                refine wp_alloc_R 24 rfl rz0 (by kernel_rfl) ?_
                have hbA := ((Below.refl _ _).alloc (Nat.le_refl _) _ : Below u1.heap.size u1 (u1.alloc (.cells rz0 24)))
                have hne := Nat.ne_of_lt al8.lt
                replace al8 := Held.below al8 hbA
                have al9 := Held.new u1 24 rz0
                have lal9 := hS.size
                replace hS := Below.step hS hbA
                clear hbA
                generalize u1.alloc (.cells rz0 24) = u2 at *
                refine hK.out _ _ hS (fun _ => ?_)
                clear hK K
                (try simp only [Act.put, List.getElem_toArray, List.getElem_cons_succ, List.getElem_cons_zero, List.setIfInBounds_toArray, List.set_cons_zero, List.set_cons_succ])
                refine wpAnyH_ready (rs := [4]) (by kernel_rfl) (by simp) ?_
                refine (AllReadyH.cons rfl (fun K hK => ?_) AllReadyH.nil)
                · rw [if_pos (by kernel_rfl)]
                  refine wp_store_row 24 _ _ rfl _ (rgc A6 X.buf.length c6 X.head X.many X.most) (by rfl) (by rfl) _ _ al8 (by kernel_rfl) (by rfl) (by simp [Value.oneCell']) ?_
                  have v8 := rgo_set (r := X) al8 (v6.below hS).o
                  replace al9 := held_row al9 (by first | exact hne | exact Ne.symm hne) (rgc A6 X.buf.length c6 X.head X.many X.most)
                  replace hS := below_setRow hS lal8 (rgc A6 X.buf.length c6 X.head X.many X.most)
                  generalize World.setRow _ _ (rgc A6 X.buf.length c6 X.head X.many X.most) = u3 at *
                  refine hK.out _ _ hS (fun _ => ?_)
                  clear hK K
                  (try simp only [Act.put, List.getElem_toArray, List.getElem_cons_succ, List.getElem_cons_zero, List.setIfInBounds_toArray, List.set_cons_zero, List.set_cons_succ])
                  refine wpAnyH_ready (rs := [5]) (by kernel_rfl) (by simp) ?_
                  refine (AllReadyH.cons rfl (fun K hK => ?_) AllReadyH.nil)
                  · rw [if_pos (by kernel_rfl)]
                    refine wp_store_row 24 _ _ rfl _ (rgc A6 X.buf.length c6 X.head X.many X.most) (by rfl) (by rfl) _ _ al9 (by kernel_rfl) (by rfl) (by simp [Value.oneCell']) ?_
                    have v9 := rgo_set (r := X) al9 (v6.below hS).o
                    replace v8 := v8.row al9 (by first | exact hne | exact Ne.symm hne) (rgc A6 X.buf.length c6 X.head X.many X.most)
                    replace hS := below_setRow hS lal9 (rgc A6 X.buf.length c6 X.head X.many X.most)
                    generalize World.setRow _ _ (rgc A6 X.buf.length c6 X.head X.many X.most) = u4 at *
                    refine hK.out _ _ hS (fun _ => ?_)
                    clear hK K
                    (try simp only [Act.put, List.getElem_toArray, List.getElem_cons_succ, List.getElem_cons_zero, List.setIfInBounds_toArray, List.set_cons_zero, List.set_cons_succ])
                    have hH : Below W7.heap.size W7 u4 ∧ (∃ g8 g9, (.pointer (some ⟨W7.heap.size, 0, none⟩) : Value) = .pointer (some ⟨g8, 0, none⟩) ∧ (.pointer (some ⟨u1.heap.size, 0, none⟩) : Value) = .pointer (some ⟨g9, 0, none⟩) ∧ RgO u4 g8 X A6 c6 ∧ RgO u4 g9 X A6 c6 ∧ W7.heap.size ≤ g8 ∧ W7.heap.size ≤ g9 ∧ g8 ≠ g9) := And.intro hS ⟨_, _, rfl, rfl, v8, v9, lal8, lal9, by first | exact hne | exact Ne.symm hne⟩
                    generalize (.pointer (some ⟨W7.heap.size, 0, none⟩) : Value) = x1y0 at hH ⊢
                    generalize (.pointer (some ⟨u1.heap.size, 0, none⟩) : Value) = x1y1 at hH ⊢
                    exact key u4 x1y0 x1y1 hH
            · rw [if_pos (by kernel_rfl)]
              refine wp_alloc_R 24 rfl rz0 (by kernel_rfl) ?_
              have hbA := ((Below.refl _ _).alloc (Nat.le_refl _) _ : Below W7.heap.size W7 (W7.alloc (.cells rz0 24)))
              have al9 := Held.new W7 24 rz0
              have lal9 := hS.size
              replace hS := Below.step hS hbA
              clear hbA
              generalize W7.alloc (.cells rz0 24) = u5 at *
              refine hK.out _ _ hS (fun _ => ?_)
              clear hK K
              (try simp only [Act.put, List.getElem_toArray, List.getElem_cons_succ, List.getElem_cons_zero, List.setIfInBounds_toArray, List.set_cons_zero, List.set_cons_succ])
              refine wpAnyH_ready (rs := [2]) (by kernel_rfl) (by simp) ?_
              refine (AllReadyH.cons rfl (fun K hK => ?_) AllReadyH.nil)
              · rw [if_pos (by kernel_rfl)]
                refine wp_alloc_R 24 rfl rz0 (by kernel_rfl) ?_
                have hbA := ((Below.refl _ _).alloc (Nat.le_refl _) _ : Below u5.heap.size u5 (u5.alloc (.cells rz0 24)))
                have hne := Nat.ne_of_lt al9.lt
                replace al9 := Held.below al9 hbA
                have al8 := Held.new u5 24 rz0
                have lal8 := hS.size
                replace hS := Below.step hS hbA
                clear hbA
                generalize u5.alloc (.cells rz0 24) = u6 at *
                refine hK.out _ _ hS (fun _ => ?_)
                clear hK K
                (try simp only [Act.put, List.getElem_toArray, List.getElem_cons_succ, List.getElem_cons_zero, List.setIfInBounds_toArray, List.set_cons_zero, List.set_cons_succ])
                refine wpAnyH_ready (rs := [4]) (by kernel_rfl) (by simp) ?_
                refine (AllReadyH.cons rfl (fun K hK => ?_) AllReadyH.nil)
                · rw [if_pos (by kernel_rfl)]
                  refine wp_store_row 24 _ _ rfl _ (rgc A6 X.buf.length c6 X.head X.many X.most) (by rfl) (by rfl) _ _ al8 (by kernel_rfl) (by rfl) (by simp [Value.oneCell']) ?_
                  have v8 := rgo_set (r := X) al8 (v6.below hS).o
                  replace al9 := held_row al9 (by first | exact hne | exact Ne.symm hne) (rgc A6 X.buf.length c6 X.head X.many X.most)
                  replace hS := below_setRow hS lal8 (rgc A6 X.buf.length c6 X.head X.many X.most)
                  generalize World.setRow _ _ (rgc A6 X.buf.length c6 X.head X.many X.most) = u7 at *
                  refine hK.out _ _ hS (fun _ => ?_)
                  clear hK K
                  (try simp only [Act.put, List.getElem_toArray, List.getElem_cons_succ, List.getElem_cons_zero, List.setIfInBounds_toArray, List.set_cons_zero, List.set_cons_succ])
                  refine wpAnyH_ready (rs := [5]) (by kernel_rfl) (by simp) ?_
                  refine (AllReadyH.cons rfl (fun K hK => ?_) AllReadyH.nil)
                  · rw [if_pos (by kernel_rfl)]
                    refine wp_store_row 24 _ _ rfl _ (rgc A6 X.buf.length c6 X.head X.many X.most) (by rfl) (by rfl) _ _ al9 (by kernel_rfl) (by rfl) (by simp [Value.oneCell']) ?_
                    have v9 := rgo_set (r := X) al9 (v6.below hS).o
                    replace v8 := v8.row al9 (by first | exact hne | exact Ne.symm hne) (rgc A6 X.buf.length c6 X.head X.many X.most)
                    replace hS := below_setRow hS lal9 (rgc A6 X.buf.length c6 X.head X.many X.most)
                    generalize World.setRow _ _ (rgc A6 X.buf.length c6 X.head X.many X.most) = u8 at *
                    refine hK.out _ _ hS (fun _ => ?_)
                    clear hK K
                    (try simp only [Act.put, List.getElem_toArray, List.getElem_cons_succ, List.getElem_cons_zero, List.setIfInBounds_toArray, List.set_cons_zero, List.set_cons_succ])
                    have hH : Below W7.heap.size W7 u8 ∧ (∃ g8 g9, (.pointer (some ⟨u5.heap.size, 0, none⟩) : Value) = .pointer (some ⟨g8, 0, none⟩) ∧ (.pointer (some ⟨W7.heap.size, 0, none⟩) : Value) = .pointer (some ⟨g9, 0, none⟩) ∧ RgO u8 g8 X A6 c6 ∧ RgO u8 g9 X A6 c6 ∧ W7.heap.size ≤ g8 ∧ W7.heap.size ≤ g9 ∧ g8 ≠ g9) := And.intro hS ⟨_, _, rfl, rfl, v8, v9, lal8, lal9, by first | exact hne | exact Ne.symm hne⟩
                    generalize (.pointer (some ⟨u5.heap.size, 0, none⟩) : Value) = x1y0 at hH ⊢
                    generalize (.pointer (some ⟨W7.heap.size, 0, none⟩) : Value) = x1y1 at hH ⊢
                    exact key u8 x1y0 x1y1 hH
          case key =>
            intro Wj1 x1y0 x1y1 hH
            obtain ⟨hS, g8, g9, rfl, rfl, v8, v9, hg8, hg9, hne89⟩ := hH
            refine wpAnyH_done (by kernel_rfl) ?_ _
            have hl6 := v6.x.lt
            have hl3 := v3.x.lt
            have hw7 := hW.size
            have hz := Below.step hW hS
            replace v3 := v3.below hS
            replace w5 := own_later w5 hS
            replace v6 := v6.below hS
            clear hW
            have hW := hz
            clear hz hS
            have h3 := v3.x
            have HNE := Lib.hid (show (g9 ≠ g8 ∧ g6 ≠ g8 ∧ w.heap.size ≠ g8) ∧ (g8 ≠ g9 ∧ g6 ≠ g9 ∧ w.heap.size ≠ g9) ∧ w.heap.size ≤ g8 ∧ w.heap.size ≤ g9 from ⟨⟨Ne.symm hne89, by omega, by omega⟩, ⟨hne89, by omega, by omega⟩, by omega, by omega⟩)
            clear v3 hl6 hl3 hw7 hg8 hg9 hne89
            generalize hWx : Wj1 = W8 at *
            clear hWx
            have hnb0 : (0 : Int) ≤ nl := Int.natCast_nonneg nl
            have hnb1 : (nl : Int) ≤ 20 := by have := HN.out.1; omega
            go_wp2_with fail
            go_loopw [10] (fun iv wr => ∃ (z : Int) (k : Nat) (A8 : Option Addr) (c8 : Nat), iv = .int .i64 z ∧ z = (nl : Int) - 1 - k ∧ k ≤ nl ∧ RgO wr g8 (popN k X) A8 c8 ∧ RgO wr g9 X A6 c6 ∧ RgO wr g6 X A6 c6 ∧ OwnR wr 0 (.slice A5 nL c5) L ∧ Held wr w.heap.size 24 (rgc A r.buf.length c r.head r.many r.most) ∧ Below w.heap.size w wr) (fun iv _ => (intOf iv + 1).toNat)
            case atStart => exact ⟨_, 0, A6, c6, rfl, by simp, Nat.zero_le _, v8, v9, v6, w5, h3, hW⟩
            case round =>
              obtain ⟨z, k, A8, c8, rfl, hz, hk, v8, v9, v6, w5, h3, hW⟩ := hrel
              by_cases hlt : k < nl
              · obtain ⟨m, hm⟩ : ∃ m : Nat, m = nl - 1 - k := ⟨_, rfl⟩
                obtain rfl : z = (m : Int) := by omega
                have hml : m < l.length := by rw [HL.out]; omega
                obtain ⟨b2, off2, rfl, -, -⟩ := HP.out _ hW (by omega)
                obtain ⟨p1, p2⟩ := HF3.out k hlt
                rw [← hm, List.getD_eq_getElem?_getD, List.getElem?_eq_getElem hml] at p1
                have hil : nl ≤ (itemsR X).length := by rw [HF2.out, List.length_append, HL.out]; omega
                have hbuf := (popN_ok HF1.out k (by omega)).2.2.2
                have hbuf2 := (popN_ok HF1.out (k + 1) (by omega)).2.2.2
                have hpo : popR (popN k X) = (popN (k + 1) X, l[m], true) := by
                  rw [← p2]
                  have p1' : (popR (popN k X)).2.1 = l[m] := p1
                  rw [← p1']
                  rfl
                have HCL := Lib.hid (fun W (h : Below w.heap.size w W) => pat_at (HP.out W h) hml)
                generalize hD : popN (k + 1) X = D at *
                generalize popN k X = R at *
                generalize l[m] = x at *
                obtain ⟨xa, xb⟩ := x
                have EN : ∀ W, (binOp .neq 33 (gv xa xb) (gv xa xb)).run Try.prog W = .ok (.bool false) W := fun W => by rw [neqr_run]; simp
                have HPO := Lib.hid hpo
                have HD := Lib.hid hD
                have HM := Lib.hid hm
                have HBU := Lib.hid (show R.buf.length ≤ 100000 ∧ D.buf.length ≤ 100000 by rw [hbuf, hbuf2]; exact ⟨HN.out.2.2.2.2, HN.out.2.2.2.2⟩)
                have hm0 : (0 : Int) ≤ m := Int.natCast_nonneg m
                have hmn : (m : Int) < nl := by omega
                have hmn2 : m < nl := by omega
                clear p1 p2 hil hbuf hbuf2 hpo hD hm hz hml
                go_upto_region 12 with (first
                  | (guard_target = wpList _ _ _ (Oper.mk (some 61) _ _ _ _ none :: _) _ _; refine wpList_load_row rfl 24 _ rfl g8 rfl _ _ _ _ v8.x Try.underlying24 rfl (by kernel_rfl) ?_)
                  | (go_at_call 13; (with_reducible refine (pop_c HPO.out HBU.out.1 c8 _ v8.read.p).mono ?_); rintro _ u ⟨v, rfl, ⟨A11, c11, rfl, ho⟩, hb⟩; have hn := (Held.new u 24 rz0).alloc (.cells rf0 33); have hm := Held.new1 u (.cells rz0 24) 33 rf0)
                  | (guard_target = wpList _ _ _ (Oper.mk _ (Op.store 24 (.tmp 11) _) _ _ _ none :: _) _ _; refine wpList_store_row rfl 24 _ _ rfl u.heap.size (rgc A11 D.buf.length c11 D.head D.many D.most) rfl rfl _ _ hn (by kernel_rfl) rfl (by simp [Value.oneCell']) ?_; have hm2 := held_row hm (Nat.succ_ne_self u.heap.size) (rgc A11 D.buf.length c11 D.head D.many D.most))
                  | (guard_target = wpList _ _ _ (Oper.mk _ (Op.store 33 (.tmp 12) _) _ _ _ none :: _) _ _; refine wpList_store_row rfl 33 _ _ rfl (u.heap.size + 1) (rfc (xa, xb)) rfl rfl _ _ hm2 (by kernel_rfl) rfl (by simp [Value.oneCell']) ?_))
                obtain ⟨v11, rx, hbW⟩ := new_o2 (x := (xa, xb)) hb ho
                clear hb ho hn hm hm2
                replace v8 := v8.below hbW
                replace v9 := v9.below hbW
                replace v6 := v6.below hbW
                replace w5 := own_later w5 hbW
                replace h3 := Held.below h3 hbW
                replace hW := Below.step hW hbW
                clear hbW
                generalize World.setRow _ (u.heap.size + 1) _ = W11 at *
                generalize u.heap.size + 1 = g11r at *
                generalize u.heap.size = g11 at *
                replace rx : Held W11 g11r 33 #[.int .i64 xa, .int .i64 xb] := rx
                have hdr := (Below.refl W11.heap.size W11).drew
                replace v8 := v8.below hdr
                replace v9 := v9.below hdr
                replace v6 := v6.below hdr
                replace w5 := own_later w5 hdr
                replace h3 := Held.below h3 hdr
                replace rx := Held.below rx hdr
                replace v11 := v11.below hdr
                replace hW := Below.step hW hdr
                clear hdr
                refine wp_region_held_drew (S := fun W => Below W11.drew.heap.size W11.drew W) (by kernel_rfl) (Below.refl _ _) (fun hS => ?_)
                generalize W11.drew = W12 at *
                show wpAnyH _ _ _ _ _ 10 #[false, false, false, false, false, false, false, false, false, false] _ _
                refine wpAnyH_begin (by kernel_rfl) (fun HNS => ?_)
                obtain ⟨y0, y1, hb2w⟩ := HCL.out W12 hW
                try simp only at y0 y1
                refine wpAnyH_takeS HNS (i := 0) (v := .bool true) rfl (by kernel_rfl) (by kernel_rfl) (fun _ _ _ h => h) (Or.inl ⟨by kernel_rfl, fun W hW => ?_⟩) hS ?_
                · go_simp
                simp only [Act.put, List.getElem_toArray, List.getElem_cons_succ, List.getElem_cons_zero, List.setIfInBounds_toArray, List.set_cons_zero, List.set_cons_succ]
                refine wpAnyH_takeS HNS (i := 1) (v := .bool false) rfl (by kernel_rfl) (by kernel_rfl) (fun _ _ _ h => h) (Or.inl ⟨by kernel_rfl, fun W hW => ?_⟩) hS ?_
                · go_simp
                simp only [Act.put, List.getElem_toArray, List.getElem_cons_succ, List.getElem_cons_zero, List.setIfInBounds_toArray, List.set_cons_zero, List.set_cons_succ]
                refine wpAnyH_takeS HNS (i := 2) (v := .bool false) rfl (by kernel_rfl) (by kernel_rfl) (fun _ _ _ h => h) (Or.inl ⟨by kernel_rfl, fun W hW => ?_⟩) hS ?_
                · go_simp
                simp only [Act.put, List.getElem_toArray, List.getElem_cons_succ, List.getElem_cons_zero, List.setIfInBounds_toArray, List.set_cons_zero, List.set_cons_succ]
                refine wpAnyH_takeS HNS (i := 3) (v := .agg #[.int .i64 xa, .int .i64 xb]) rfl (by kernel_rfl) (by kernel_rfl) (fun _ _ _ h => h) (Or.inl ⟨by kernel_rfl, fun W hW => ?_⟩) hS ?_
                · (have hz := Held.below rx hW; have z0 := hz.cell 0; have z1 := hz.cell 1; simp at z0 z1; go_simp)
                simp only [Act.put, List.getElem_toArray, List.getElem_cons_succ, List.getElem_cons_zero, List.setIfInBounds_toArray, List.set_cons_zero, List.set_cons_succ]
                refine wpAnyH_takeS HNS (i := 4) (v := .slice (some ⟨b2, off2, none⟩) nl c2) rfl (by kernel_rfl) (by kernel_rfl) (fun _ _ _ h => h) (Or.inl ⟨by kernel_rfl, fun W hW => ?_⟩) hS ?_
                · go_simp
                simp only [Act.put, List.getElem_toArray, List.getElem_cons_succ, List.getElem_cons_zero, List.setIfInBounds_toArray, List.set_cons_zero, List.set_cons_succ]
                refine wpAnyH_takeS HNS (i := 5) (v := .int .i64 (m : Int)) rfl (by kernel_rfl) (by kernel_rfl) (fun _ _ _ h => h) (Or.inl ⟨by kernel_rfl, fun W hW => ?_⟩) hS ?_
                · go_simp
                simp only [Act.put, List.getElem_toArray, List.getElem_cons_succ, List.getElem_cons_zero, List.setIfInBounds_toArray, List.set_cons_zero, List.set_cons_succ]
                refine wpAnyH_takeS HNS (i := 6) (v := .pointer (some ⟨b2, off2 + m * 2, none⟩)) rfl (by kernel_rfl) (by kernel_rfl) (fun _ _ _ h => h) (Or.inl ⟨by kernel_rfl, fun W hW => ?_⟩) hS ?_
                · go_simp
                simp only [Act.put, List.getElem_toArray, List.getElem_cons_succ, List.getElem_cons_zero, List.setIfInBounds_toArray, List.set_cons_zero, List.set_cons_succ]
                refine wpAnyH_takeS HNS (i := 7) (v := .agg #[.int .i64 xa, .int .i64 xb]) rfl (by kernel_rfl) (by kernel_rfl) (fun _ _ _ h => h) (Or.inl ⟨by kernel_rfl, fun W hW => ?_⟩) hS ?_
                · (have z0 := (hW.cell (p := ⟨b2, _, none⟩) hb2w).trans y0; have z1 := (hW.cell (p := ⟨b2, _, none⟩) hb2w).trans y1; go_simp)
                simp only [Act.put, List.getElem_toArray, List.getElem_cons_succ, List.getElem_cons_zero, List.setIfInBounds_toArray, List.set_cons_zero, List.set_cons_succ]
                refine wpAnyH_takeS HNS (i := 8) (v := .bool false) rfl (by kernel_rfl) (by kernel_rfl) (fun _ _ _ h => h) (Or.inl ⟨by kernel_rfl, fun W hW => ?_⟩) hS ?_
                · go_simp
                simp only [Act.put, List.getElem_toArray, List.getElem_cons_succ, List.getElem_cons_zero, List.setIfInBounds_toArray, List.set_cons_zero, List.set_cons_succ]
                refine wpAnyH_takeS HNS (i := 9) (v := .bool false) rfl (by kernel_rfl) (by kernel_rfl) (fun _ _ _ h => h) (Or.inl ⟨by kernel_rfl, fun W hW => ?_⟩) hS ?_
                · go_simp
                simp only [Act.put, List.getElem_toArray, List.getElem_cons_succ, List.getElem_cons_zero, List.setIfInBounds_toArray, List.set_cons_zero, List.set_cons_succ]
                refine wpAnyH_done (by kernel_rfl) ?_ _
                have hz := Below.step hW hS
                replace v8 := v8.below hS
                replace v9 := v9.below hS
                replace v6 := v6.below hS
                replace w5 := own_later w5 hS
                replace h3 := Held.below h3 hS
                replace rx := Held.below rx hS
                replace v11 := v11.below hS
                clear hW
                have hW := hz
                clear hz hS
                have x8 := v8.x
                go_wp2_with (first
                  | (guard_target = wpList _ _ _ (Oper.mk (some 76) _ _ _ _ none :: _) _ _; refine wpList_load_row rfl 24 _ rfl g11 rfl _ _ _ _ v11.x Try.underlying24 rfl (by kernel_rfl) ?_)
                  | (guard_target = wpList _ _ _ (Oper.mk _ (Op.store 24 (.tmp 8) _) _ _ _ none :: _) _ _; refine wpList_store_row rfl 24 _ _ rfl g8 (rgc A11 D.buf.length c11 D.head D.many D.most) rfl rfl _ _ x8 (by kernel_rfl) rfl (by simp [Value.oneCell']) ?_))
                have v8' := rgo_set (r := D) x8 v11.o
                obtain ⟨⟨n1, n2, n3⟩, -, n4, -⟩ := HNE.out
                replace v9 := v9.row x8 n1 (rgc A11 D.buf.length c11 D.head D.many D.most)
                replace v6 := v6.row x8 n2 (rgc A11 D.buf.length c11 D.head D.many D.most)
                replace w5 := own_row w5 x8 (rgc A11 D.buf.length c11 D.head D.many D.most)
                replace h3 := held_row h3 n3 (rgc A11 D.buf.length c11 D.head D.many D.most)
                replace hW := below_setRow hW n4 (rgc A11 D.buf.length c11 D.head D.many D.most)
                go_roundw
                case rel =>
                  refine ⟨_, k + 1, A11, c11, rfl, by have := HM.out; omega, by omega, ?_, v9, v6, w5, h3, hW⟩
                  rw [HD.out]
                  exact v8'
                case measure => first | (simp [intOf]; done) | (simp [intOf]; omega)
              · obtain rfl : nl = k := by omega
                obtain rfl : z = -1 := by omega
                have hq4 : itemsR (popN nl X) = L := HF4.out
                have hqb := (popN_ok HF1.out nl (by rw [HF2.out, List.length_append, HL.out]; omega)).2.2.2
                generalize popN nl X = Q at *
                have HQ4 := Lib.hid hq4
                have HQB := Lib.hid (show Q.buf.length ≤ 100000 by rw [hqb]; exact HN.out.2.2.2.2)
                clear hq4 hqb hz hlt hk
                have hLb0 : (0 : Int) ≤ nL := Int.natCast_nonneg nL
                have hLb1 : (nL : Int) ≤ 60 := by have := HN.out.2.1; omega
                go_wp2_with fail
                go_loopw [14] (fun iv wr => ∃ (j : Nat) (A9 : Option Addr) (c9 : Nat), iv = .int .i64 j ∧ j ≤ nL + nl ∧ RgO wr g9 (stealN j X) A9 c9 ∧ RgO wr g8 Q A8 c8 ∧ RgO wr g6 X A6 c6 ∧ OwnR wr 0 (.slice A5 nL c5) L ∧ Held wr w.heap.size 24 (rgc A r.buf.length c r.head r.many r.most) ∧ Below w.heap.size w wr) (fun iv _ => nL + nl - (intOf iv).toNat)
                case atStart => exact ⟨0, A6, c6, rfl, Nat.zero_le _, v9, v8, v6, w5, h3, hW⟩
                case round =>
                  obtain ⟨j, A9, c9, rfl, hj, v9, v8, v6, w5, h3, hW⟩ := hrel
                  by_cases hlt : j < nL + nl
                  · have hil : (itemsR X).length = nL + nl := by rw [HF2.out, List.length_append, HL.out, HN.out.2.2.1]
                    obtain ⟨p1, p2⟩ := ends_steal HF1.out (k := j) (by omega)
                    have hbuf := (stealN_ok j HF1.out (by omega)).2.2.2
                    have hbuf2 := (stealN_ok (j + 1) HF1.out (by omega)).2.2.2
                    obtain ⟨x, hx⟩ : ∃ x, (itemsR X)[j]? = some x := ⟨_, List.getElem?_eq_getElem (by omega)⟩
                    have hpo : stealR (stealN j X) = (stealN (j + 1) X, x, true) := by
                      rw [stealN_succ, ← p2]
                      rw [List.getD_eq_getElem?_getD, hx] at p1
                      have p1' : (stealR (stealN j X)).2.1 = x := p1
                      rw [← p1']
                    rw [HF2.out] at hx
                    obtain ⟨xa, xb⟩ := x
                    have EN : ∀ W, (binOp .neq 33 (gv xa xb) (gv xa xb)).run Try.prog W = .ok (.bool false) W := fun W => by rw [neqr_run]; simp
                    generalize hD : stealN (j + 1) X = D at *
                    generalize stealN j X = R at *
                    have HPO := Lib.hid hpo
                    have HD := Lib.hid hD
                    have HXX := Lib.hid hx
                    have HBU := Lib.hid (show R.buf.length ≤ 100000 ∧ D.buf.length ≤ 100000 by rw [hbuf, hbuf2]; exact ⟨HN.out.2.2.2.2, HN.out.2.2.2.2⟩)
                    have hj0 : (0 : Int) ≤ j := Int.natCast_nonneg j
                    have hj1 : (j : Int) ≤ 80 := by omega
                    have q83 : decide ((j : Int) < (nL : Int) + (nl : Int)) = true := decide_eq_true (by omega)
                    clear p1 p2 hil hbuf hbuf2 hpo hD hx
                    go_upto_region 19 with (first
                      | (guard_target = wpList _ _ _ (Oper.mk (some 87) _ _ _ _ none :: _) _ _; refine wpList_load_row rfl 24 _ rfl g9 rfl _ _ _ _ v9.x Try.underlying24 rfl (by kernel_rfl) ?_)
                      | (go_at_call 15; (with_reducible refine (steal_c HPO.out HBU.out.1 c9 _ v9.read.p).mono ?_); rintro _ u ⟨v, rfl, ⟨A15, c15, rfl, ho⟩, hb⟩; have hn := (Held.new u 24 rz0).alloc (.cells rf0 33); have hm := Held.new1 u (.cells rz0 24) 33 rf0)
                      | (guard_target = wpList _ _ _ (Oper.mk _ (Op.store 24 (.tmp 15) _) _ _ _ none :: _) _ _; refine wpList_store_row rfl 24 _ _ rfl u.heap.size (rgc A15 D.buf.length c15 D.head D.many D.most) rfl rfl _ _ hn (by kernel_rfl) rfl (by simp [Value.oneCell']) ?_; have hm2 := held_row hm (Nat.succ_ne_self u.heap.size) (rgc A15 D.buf.length c15 D.head D.many D.most))
                      | (guard_target = wpList _ _ _ (Oper.mk _ (Op.store 33 (.tmp 16) _) _ _ _ none :: _) _ _; refine wpList_store_row rfl 33 _ _ rfl (u.heap.size + 1) (rfc (xa, xb)) rfl rfl _ _ hm2 (by kernel_rfl) rfl (by simp [Value.oneCell']) ?_))
                    obtain ⟨v15, rx, hbW⟩ := new_o2 (x := (xa, xb)) hb ho
                    clear hb ho hn hm hm2
                    replace v8 := v8.below hbW
                    replace v9 := v9.below hbW
                    replace v6 := v6.below hbW
                    replace w5 := own_later w5 hbW
                    replace h3 := Held.below h3 hbW
                    replace hW := Below.step hW hbW
                    clear hbW
                    generalize World.setRow _ (u.heap.size + 1) _ = W18 at *
                    generalize u.heap.size + 1 = g15r at *
                    generalize u.heap.size = g15 at *
                    replace rx : Held W18 g15r 33 #[.int .i64 xa, .int .i64 xb] := rx
                    clear q83
                    by_cases hjn : j < nL
                    · have hjl : j < L.length := by rw [HN.out.2.2.1]; exact hjn
                      have hxx := HXX.out
                      rw [List.getElem?_append_left hjl, List.getElem?_eq_getElem hjl] at hxx
                      have hxx2 := Option.some.inj hxx
                      obtain ⟨gL, cL, eL⟩ := r_form w5 (by rw [HN.out.2.2.1]; omega)
                      simp only [Value.slice.injEq] at eL
                      obtain ⟨rfl, -, rfl⟩ := eL
                      have hjI : (j : Int) < nL := by omega
                      have hjN : ¬ nL ≤ j := by omega
                      have hjM : ¬ (nL : Int) ≤ j := by omega
                      have hdr := (Below.refl W18.heap.size W18).drew
                      replace v8 := v8.below hdr
                      replace v9 := v9.below hdr
                      replace v6 := v6.below hdr
                      replace w5 := own_later w5 hdr
                      replace h3 := Held.below h3 hdr
                      replace rx := Held.below rx hdr
                      replace v15 := v15.below hdr
                      replace hW := Below.step hW hdr
                      clear hdr
                      refine wp_region_held_drew (S := fun W => Below W18.drew.heap.size W18.drew W) (by kernel_rfl) (Below.refl _ _) (fun hS => ?_)
                      generalize W18.drew = W19 at *
                      show wpAnyH _ _ _ _ _ 33 #[false, false, false, false, false, false, false, false, false, false, false, false, false, false, false, false, false, false, false, false, false, false, false, false, false, false, false, false, false, false, false, false, false] _ _
                      refine wpAnyH_begin (by kernel_rfl) (fun HNS => ?_)
                      obtain ⟨y0, y1, -, -⟩ := own2_cells w5 (k := j) hjl
                      rw [hxx2] at y0 y1
                      try simp only at y0 y1
                      have hb2w := block_lt_of_cell y0
                      try simp only at hb2w
                      clear hxx hxx2
                      refine wpAnyH_takeS HNS (i := 0) (v := .bool true) rfl (by kernel_rfl) (by kernel_rfl) (fun _ _ _ h => h) (Or.inl ⟨by kernel_rfl, fun W hW => ?_⟩) hS ?_
                      · go_simp
                      simp only [Act.put, List.getElem_toArray, List.getElem_cons_succ, List.getElem_cons_zero, List.setIfInBounds_toArray, List.set_cons_zero, List.set_cons_succ]
                      refine wpAnyH_takeS HNS (i := 1) (v := .bool false) rfl (by kernel_rfl) (by kernel_rfl) (fun _ _ _ h => h) (Or.inl ⟨by kernel_rfl, fun W hW => ?_⟩) hS ?_
                      · go_simp
                      simp only [Act.put, List.getElem_toArray, List.getElem_cons_succ, List.getElem_cons_zero, List.setIfInBounds_toArray, List.set_cons_zero, List.set_cons_succ]
                      refine wpAnyH_takeS HNS (i := 2) (v := .bool false) rfl (by kernel_rfl) (by kernel_rfl) (fun _ _ _ h => h) (Or.inl ⟨by kernel_rfl, fun W hW => ?_⟩) hS ?_
                      · go_simp
                      simp only [Act.put, List.getElem_toArray, List.getElem_cons_succ, List.getElem_cons_zero, List.setIfInBounds_toArray, List.set_cons_zero, List.set_cons_succ]
                      refine wpAnyH_takeS HNS (i := 3) (v := .int .i64 (j : Int)) rfl (by kernel_rfl) (by kernel_rfl) (fun _ _ _ h => h) (Or.inl ⟨by kernel_rfl, fun W hW => ?_⟩) hS ?_
                      · go_simp
                      simp only [Act.put, List.getElem_toArray, List.getElem_cons_succ, List.getElem_cons_zero, List.setIfInBounds_toArray, List.set_cons_zero, List.set_cons_succ]
                      refine wpAnyH_takeS HNS (i := 4) (v := .slice (some ⟨gL, 0, none⟩) nL c5) rfl (by kernel_rfl) (by kernel_rfl) (fun _ _ _ h => h) (Or.inl ⟨by kernel_rfl, fun W hW => ?_⟩) hS ?_
                      · go_simp
                      simp only [Act.put, List.getElem_toArray, List.getElem_cons_succ, List.getElem_cons_zero, List.setIfInBounds_toArray, List.set_cons_zero, List.set_cons_succ]
                      refine wpAnyH_takeS HNS (i := 5) (v := .int .i64 (nL : Nat)) rfl (by kernel_rfl) (by kernel_rfl) (fun _ _ _ h => h) (Or.inl ⟨by kernel_rfl, fun W hW => ?_⟩) hS ?_
                      · go_simp
                      simp only [Act.put, List.getElem_toArray, List.getElem_cons_succ, List.getElem_cons_zero, List.setIfInBounds_toArray, List.set_cons_zero, List.set_cons_succ]
                      refine wpAnyH_takeS HNS (i := 6) (v := .bool true) rfl (by kernel_rfl) (by kernel_rfl) (fun _ _ _ h => h) (Or.inl ⟨by kernel_rfl, fun W hW => ?_⟩) hS ?_
                      · go_simp
                      simp only [Act.put, List.getElem_toArray, List.getElem_cons_succ, List.getElem_cons_zero, List.setIfInBounds_toArray, List.set_cons_zero, List.set_cons_succ]
                      refine wpAnyH_takeS HNS (i := 7) (v := .bool true) rfl (by kernel_rfl) (by kernel_rfl) (fun _ _ _ h => h) (Or.inl ⟨by kernel_rfl, fun W hW => ?_⟩) hS ?_
                      · go_simp
                      simp only [Act.put, List.getElem_toArray, List.getElem_cons_succ, List.getElem_cons_zero, List.setIfInBounds_toArray, List.set_cons_zero, List.set_cons_succ]
                      refine wpAnyH_takeS HNS (i := 8) (v := .agg #[.int .i64 xa, .int .i64 xb]) rfl (by kernel_rfl) (by kernel_rfl) (fun _ _ _ h => h) (Or.inl ⟨by kernel_rfl, fun W hW => ?_⟩) hS ?_
                      · (have hz := Held.below rx hW; have z0 := hz.cell 0; have z1 := hz.cell 1; simp at z0 z1; go_simp)
                      simp only [Act.put, List.getElem_toArray, List.getElem_cons_succ, List.getElem_cons_zero, List.setIfInBounds_toArray, List.set_cons_zero, List.set_cons_succ]
                      refine wpAnyH_takeS HNS (i := 9) (v := .slice (some ⟨gL, 0, none⟩) nL c5) rfl (by kernel_rfl) (by kernel_rfl) (fun _ _ _ h => h) (Or.inl ⟨by kernel_rfl, fun W hW => ?_⟩) hS ?_
                      · go_simp
                      simp only [Act.put, List.getElem_toArray, List.getElem_cons_succ, List.getElem_cons_zero, List.setIfInBounds_toArray, List.set_cons_zero, List.set_cons_succ]
                      refine wpAnyH_takeS HNS (i := 10) (v := .int .i64 (j : Int)) rfl (by kernel_rfl) (by kernel_rfl) (fun _ _ _ h => h) (Or.inl ⟨by kernel_rfl, fun W hW => ?_⟩) hS ?_
                      · go_simp
                      simp only [Act.put, List.getElem_toArray, List.getElem_cons_succ, List.getElem_cons_zero, List.setIfInBounds_toArray, List.set_cons_zero, List.set_cons_succ]
                      refine wpAnyH_takeS HNS (i := 11) (v := .pointer (some ⟨gL, j * 2, none⟩)) rfl (by kernel_rfl) (by kernel_rfl) (fun _ _ _ h => h) (Or.inl ⟨by kernel_rfl, fun W hW => ?_⟩) hS ?_
                      · go_simp
                      simp only [Act.put, List.getElem_toArray, List.getElem_cons_succ, List.getElem_cons_zero, List.setIfInBounds_toArray, List.set_cons_zero, List.set_cons_succ]
                      refine wpAnyH_takeS HNS (i := 12) (v := .agg #[.int .i64 xa, .int .i64 xb]) rfl (by kernel_rfl) (by kernel_rfl) (fun _ _ _ h => h) (Or.inl ⟨by kernel_rfl, fun W hW => ?_⟩) hS ?_
                      · (have z0 := (hW.cell (p := ⟨gL, _, none⟩) hb2w).trans y0; have z1 := (hW.cell (p := ⟨gL, _, none⟩) hb2w).trans y1; go_simp)
                      simp only [Act.put, List.getElem_toArray, List.getElem_cons_succ, List.getElem_cons_zero, List.setIfInBounds_toArray, List.set_cons_zero, List.set_cons_succ]
                      refine wpAnyH_takeS HNS (i := 13) (v := .bool false) rfl (by kernel_rfl) (by kernel_rfl) (fun _ _ _ h => h) (Or.inl ⟨by kernel_rfl, fun W hW => ?_⟩) hS ?_
                      · go_simp
                      simp only [Act.put, List.getElem_toArray, List.getElem_cons_succ, List.getElem_cons_zero, List.setIfInBounds_toArray, List.set_cons_zero, List.set_cons_succ]
                      refine wpAnyH_takeS HNS (i := 14) (v := .bool false) rfl (by kernel_rfl) (by kernel_rfl) (fun _ _ _ h => h) (Or.inl ⟨by kernel_rfl, fun W hW => ?_⟩) hS ?_
                      · go_simp
                      simp only [Act.put, List.getElem_toArray, List.getElem_cons_succ, List.getElem_cons_zero, List.setIfInBounds_toArray, List.set_cons_zero, List.set_cons_succ]
                      refine wpAnyH_takeS HNS (i := 15) (v := .bool false) rfl (by kernel_rfl) (by kernel_rfl) (fun _ _ _ h => h) (Or.inl ⟨by kernel_rfl, fun W hW => ?_⟩) hS ?_
                      · go_simp
                      simp only [Act.put, List.getElem_toArray, List.getElem_cons_succ, List.getElem_cons_zero, List.setIfInBounds_toArray, List.set_cons_zero, List.set_cons_succ]
                      refine wpAnyH_takeS HNS (i := 16) (v := .bool false) rfl (by kernel_rfl) (by kernel_rfl) (fun _ _ _ h => h) (Or.inl ⟨by kernel_rfl, fun W hW => ?_⟩) hS ?_
                      · go_simp
                      simp only [Act.put, List.getElem_toArray, List.getElem_cons_succ, List.getElem_cons_zero, List.setIfInBounds_toArray, List.set_cons_zero, List.set_cons_succ]
                      refine wpAnyH_takeS HNS (i := 17) (v := .int .i64 (j : Int)) rfl (by kernel_rfl) (by kernel_rfl) (fun _ _ _ h => h) (Or.inl ⟨by kernel_rfl, fun W hW => ?_⟩) hS ?_
                      · go_simp
                      simp only [Act.put, List.getElem_toArray, List.getElem_cons_succ, List.getElem_cons_zero, List.setIfInBounds_toArray, List.set_cons_zero, List.set_cons_succ]
                      refine wpAnyH_takeS HNS (i := 18) (v := .slice (some ⟨gL, 0, none⟩) nL c5) rfl (by kernel_rfl) (by kernel_rfl) (fun _ _ _ h => h) (Or.inl ⟨by kernel_rfl, fun W hW => ?_⟩) hS ?_
                      · go_simp
                      simp only [Act.put, List.getElem_toArray, List.getElem_cons_succ, List.getElem_cons_zero, List.setIfInBounds_toArray, List.set_cons_zero, List.set_cons_succ]
                      refine wpAnyH_takeS HNS (i := 19) (v := .int .i64 (nL : Nat)) rfl (by kernel_rfl) (by kernel_rfl) (fun _ _ _ h => h) (Or.inl ⟨by kernel_rfl, fun W hW => ?_⟩) hS ?_
                      · go_simp
                      simp only [Act.put, List.getElem_toArray, List.getElem_cons_succ, List.getElem_cons_zero, List.setIfInBounds_toArray, List.set_cons_zero, List.set_cons_succ]
                      refine wpAnyH_takeS HNS (i := 20) (v := .bool false) rfl (by kernel_rfl) (by kernel_rfl) (fun _ _ _ h => h) (Or.inl ⟨by kernel_rfl, fun W hW => ?_⟩) hS ?_
                      · go_simp
                      simp only [Act.put, List.getElem_toArray, List.getElem_cons_succ, List.getElem_cons_zero, List.setIfInBounds_toArray, List.set_cons_zero, List.set_cons_succ]
                      refine wpAnyH_takeS HNS (i := 21) (v := .bool false) rfl (by kernel_rfl) (by kernel_rfl) (fun _ _ _ h => h) (Or.inl ⟨by kernel_rfl, fun W hW => ?_⟩) hS ?_
                      · go_simp
                      simp only [Act.put, List.getElem_toArray, List.getElem_cons_succ, List.getElem_cons_zero, List.setIfInBounds_toArray, List.set_cons_zero, List.set_cons_succ]
                      refine wpAnyH_takeS HNS (i := 22) (v := undef) rfl (by kernel_rfl) (by kernel_rfl) (fun _ _ _ h => h) (Or.inr ⟨by kernel_rfl, rfl⟩) hS ?_
                      simp only [Act.put, List.getElem_toArray, List.getElem_cons_succ, List.getElem_cons_zero, List.setIfInBounds_toArray, List.set_cons_zero, List.set_cons_succ]
                      refine wpAnyH_takeS HNS (i := 23) (v := undef) rfl (by kernel_rfl) (by kernel_rfl) (fun _ _ _ h => h) (Or.inr ⟨by kernel_rfl, rfl⟩) hS ?_
                      simp only [Act.put, List.getElem_toArray, List.getElem_cons_succ, List.getElem_cons_zero, List.setIfInBounds_toArray, List.set_cons_zero, List.set_cons_succ]
                      refine wpAnyH_takeS HNS (i := 24) (v := undef) rfl (by kernel_rfl) (by kernel_rfl) (fun _ _ _ h => h) (Or.inr ⟨by kernel_rfl, rfl⟩) hS ?_
                      simp only [Act.put, List.getElem_toArray, List.getElem_cons_succ, List.getElem_cons_zero, List.setIfInBounds_toArray, List.set_cons_zero, List.set_cons_succ]
                      refine wpAnyH_takeS HNS (i := 25) (v := undef) rfl (by kernel_rfl) (by kernel_rfl) (fun _ _ _ h => h) (Or.inr ⟨by kernel_rfl, rfl⟩) hS ?_
                      simp only [Act.put, List.getElem_toArray, List.getElem_cons_succ, List.getElem_cons_zero, List.setIfInBounds_toArray, List.set_cons_zero, List.set_cons_succ]
                      refine wpAnyH_takeS HNS (i := 26) (v := undef) rfl (by kernel_rfl) (by kernel_rfl) (fun _ _ _ h => h) (Or.inr ⟨by kernel_rfl, rfl⟩) hS ?_
                      simp only [Act.put, List.getElem_toArray, List.getElem_cons_succ, List.getElem_cons_zero, List.setIfInBounds_toArray, List.set_cons_zero, List.set_cons_succ]
                      refine wpAnyH_takeS HNS (i := 27) (v := undef) rfl (by kernel_rfl) (by kernel_rfl) (fun _ _ _ h => h) (Or.inr ⟨by kernel_rfl, rfl⟩) hS ?_
                      simp only [Act.put, List.getElem_toArray, List.getElem_cons_succ, List.getElem_cons_zero, List.setIfInBounds_toArray, List.set_cons_zero, List.set_cons_succ]
                      refine wpAnyH_takeS HNS (i := 28) (v := undef) rfl (by kernel_rfl) (by kernel_rfl) (fun _ _ _ h => h) (Or.inr ⟨by kernel_rfl, rfl⟩) hS ?_
                      simp only [Act.put, List.getElem_toArray, List.getElem_cons_succ, List.getElem_cons_zero, List.setIfInBounds_toArray, List.set_cons_zero, List.set_cons_succ]
                      refine wpAnyH_takeS HNS (i := 29) (v := undef) rfl (by kernel_rfl) (by kernel_rfl) (fun _ _ _ h => h) (Or.inr ⟨by kernel_rfl, rfl⟩) hS ?_
                      simp only [Act.put, List.getElem_toArray, List.getElem_cons_succ, List.getElem_cons_zero, List.setIfInBounds_toArray, List.set_cons_zero, List.set_cons_succ]
                      refine wpAnyH_takeS HNS (i := 30) (v := undef) rfl (by kernel_rfl) (by kernel_rfl) (fun _ _ _ h => h) (Or.inr ⟨by kernel_rfl, rfl⟩) hS ?_
                      simp only [Act.put, List.getElem_toArray, List.getElem_cons_succ, List.getElem_cons_zero, List.setIfInBounds_toArray, List.set_cons_zero, List.set_cons_succ]
                      refine wpAnyH_takeS HNS (i := 31) (v := .bool false) rfl (by kernel_rfl) (by kernel_rfl) (fun _ _ _ h => h) (Or.inl ⟨by kernel_rfl, fun W hW => ?_⟩) hS ?_
                      · go_simp
                      simp only [Act.put, List.getElem_toArray, List.getElem_cons_succ, List.getElem_cons_zero, List.setIfInBounds_toArray, List.set_cons_zero, List.set_cons_succ]
                      refine wpAnyH_takeS HNS (i := 32) (v := .bool false) rfl (by kernel_rfl) (by kernel_rfl) (fun _ _ _ h => h) (Or.inl ⟨by kernel_rfl, fun W hW => ?_⟩) hS ?_
                      · go_simp
                      simp only [Act.put, List.getElem_toArray, List.getElem_cons_succ, List.getElem_cons_zero, List.setIfInBounds_toArray, List.set_cons_zero, List.set_cons_succ]
                      refine wpAnyH_done (by kernel_rfl) ?_ _
                      have hz := Below.step hW hS
                      replace v8 := v8.below hS
                      replace v9 := v9.below hS
                      replace v6 := v6.below hS
                      replace w5 := own_later w5 hS
                      replace h3 := Held.below h3 hS
                      replace rx := Held.below rx hS
                      replace v15 := v15.below hS
                      clear hW
                      have hW := hz
                      clear hz hS
                      have x9 := v9.x
                      go_wp2_with (first
                        | (guard_target = wpList _ _ _ (Oper.mk (some 125) _ _ _ _ none :: _) _ _; refine wpList_load_row rfl 24 _ rfl g15 rfl _ _ _ _ v15.x Try.underlying24 rfl (by kernel_rfl) ?_)
                        | (guard_target = wpList _ _ _ (Oper.mk _ (Op.store 24 (.tmp 9) _) _ _ _ none :: _) _ _; refine wpList_store_row rfl 24 _ _ rfl g9 (rgc A15 D.buf.length c15 D.head D.many D.most) rfl rfl _ _ x9 (by kernel_rfl) rfl (by simp [Value.oneCell']) ?_))
                      have v9' := rgo_set (r := D) x9 v15.o
                      obtain ⟨-, ⟨n1, n2, n3⟩, -, n4⟩ := HNE.out
                      replace v8 := v8.row x9 n1 (rgc A15 D.buf.length c15 D.head D.many D.most)
                      replace v6 := v6.row x9 n2 (rgc A15 D.buf.length c15 D.head D.many D.most)
                      replace w5 := own_row w5 x9 (rgc A15 D.buf.length c15 D.head D.many D.most)
                      replace h3 := held_row h3 n3 (rgc A15 D.buf.length c15 D.head D.many D.most)
                      replace hW := below_setRow hW n4 (rgc A15 D.buf.length c15 D.head D.many D.most)
                      go_roundw
                      case rel =>
                        refine ⟨j + 1, A15, c15, by go_num, by omega, ?_, v8, v6, w5, h3, hW⟩
                        rw [HD.out]
                        exact v9'
                      case measure => first | (simp [intOf]; done) | (simp [intOf]; omega)
                    · obtain ⟨m2, hm2⟩ : ∃ m2 : Nat, m2 = j - nL := ⟨_, rfl⟩
                      have hml : m2 < l.length := by rw [HL.out]; omega
                      obtain ⟨b2, off2, rfl, -, -⟩ := HP.out _ hW (by omega)
                      have hxx := HXX.out
                      rw [List.getElem?_append_right (by rw [HN.out.2.2.1]; omega), HN.out.2.2.1, ← hm2, List.getElem?_eq_getElem hml] at hxx
                      have hxx2 := Option.some.inj hxx
                      have hjI : ¬ (j : Int) < nL := by omega
                      have hjN : nL ≤ j := by omega
                      have hjM : (nL : Int) ≤ j := by omega
                      have hs2 : (j : Int) - (nL : Int) = (m2 : Int) := by omega
                      have hm0 : (0 : Int) ≤ m2 := Int.natCast_nonneg m2
                      have hmI : (m2 : Int) < nl := by omega
                      have hmN : m2 < nl := by omega
                      clear hm2
                      have hdr := (Below.refl W18.heap.size W18).drew
                      replace v8 := v8.below hdr
                      replace v9 := v9.below hdr
                      replace v6 := v6.below hdr
                      replace w5 := own_later w5 hdr
                      replace h3 := Held.below h3 hdr
                      replace rx := Held.below rx hdr
                      replace v15 := v15.below hdr
                      replace hW := Below.step hW hdr
                      clear hdr
                      refine wp_region_held_drew (S := fun W => Below W18.drew.heap.size W18.drew W) (by kernel_rfl) (Below.refl _ _) (fun hS => ?_)
                      generalize W18.drew = W19 at *
                      show wpAnyH _ _ _ _ _ 33 #[false, false, false, false, false, false, false, false, false, false, false, false, false, false, false, false, false, false, false, false, false, false, false, false, false, false, false, false, false, false, false, false, false] _ _
                      refine wpAnyH_begin (by kernel_rfl) (fun HNS => ?_)
                      obtain ⟨y0, y1, hb2w⟩ := pat_at (HP.out W19 hW) hml
                      rw [hxx2] at y0 y1
                      try simp only at y0 y1
                      clear hxx hxx2
                      refine wpAnyH_takeS HNS (i := 0) (v := .bool true) rfl (by kernel_rfl) (by kernel_rfl) (fun _ _ _ h => h) (Or.inl ⟨by kernel_rfl, fun W hW => ?_⟩) hS ?_
                      · go_simp
                      simp only [Act.put, List.getElem_toArray, List.getElem_cons_succ, List.getElem_cons_zero, List.setIfInBounds_toArray, List.set_cons_zero, List.set_cons_succ]
                      refine wpAnyH_takeS HNS (i := 1) (v := .bool false) rfl (by kernel_rfl) (by kernel_rfl) (fun _ _ _ h => h) (Or.inl ⟨by kernel_rfl, fun W hW => ?_⟩) hS ?_
                      · go_simp
                      simp only [Act.put, List.getElem_toArray, List.getElem_cons_succ, List.getElem_cons_zero, List.setIfInBounds_toArray, List.set_cons_zero, List.set_cons_succ]
                      refine wpAnyH_takeS HNS (i := 2) (v := .bool false) rfl (by kernel_rfl) (by kernel_rfl) (fun _ _ _ h => h) (Or.inl ⟨by kernel_rfl, fun W hW => ?_⟩) hS ?_
                      · go_simp
                      simp only [Act.put, List.getElem_toArray, List.getElem_cons_succ, List.getElem_cons_zero, List.setIfInBounds_toArray, List.set_cons_zero, List.set_cons_succ]
                      refine wpAnyH_takeS HNS (i := 3) (v := .int .i64 (j : Int)) rfl (by kernel_rfl) (by kernel_rfl) (fun _ _ _ h => h) (Or.inl ⟨by kernel_rfl, fun W hW => ?_⟩) hS ?_
                      · go_simp
                      simp only [Act.put, List.getElem_toArray, List.getElem_cons_succ, List.getElem_cons_zero, List.setIfInBounds_toArray, List.set_cons_zero, List.set_cons_succ]
                      refine wpAnyH_takeS HNS (i := 4) (v := .slice A5 nL c5) rfl (by kernel_rfl) (by kernel_rfl) (fun _ _ _ h => h) (Or.inl ⟨by kernel_rfl, fun W hW => ?_⟩) hS ?_
                      · go_simp
                      simp only [Act.put, List.getElem_toArray, List.getElem_cons_succ, List.getElem_cons_zero, List.setIfInBounds_toArray, List.set_cons_zero, List.set_cons_succ]
                      refine wpAnyH_takeS HNS (i := 5) (v := .int .i64 (nL : Nat)) rfl (by kernel_rfl) (by kernel_rfl) (fun _ _ _ h => h) (Or.inl ⟨by kernel_rfl, fun W hW => ?_⟩) hS ?_
                      · go_simp
                      simp only [Act.put, List.getElem_toArray, List.getElem_cons_succ, List.getElem_cons_zero, List.setIfInBounds_toArray, List.set_cons_zero, List.set_cons_succ]
                      refine wpAnyH_takeS HNS (i := 6) (v := .bool false) rfl (by kernel_rfl) (by kernel_rfl) (fun _ _ _ h => h) (Or.inl ⟨by kernel_rfl, fun W hW => ?_⟩) hS ?_
                      · go_simp
                      simp only [Act.put, List.getElem_toArray, List.getElem_cons_succ, List.getElem_cons_zero, List.setIfInBounds_toArray, List.set_cons_zero, List.set_cons_succ]
                      refine wpAnyH_takeS HNS (i := 7) (v := .bool false) rfl (by kernel_rfl) (by kernel_rfl) (fun _ _ _ h => h) (Or.inl ⟨by kernel_rfl, fun W hW => ?_⟩) hS ?_
                      · go_simp
                      simp only [Act.put, List.getElem_toArray, List.getElem_cons_succ, List.getElem_cons_zero, List.setIfInBounds_toArray, List.set_cons_zero, List.set_cons_succ]
                      refine wpAnyH_takeS HNS (i := 8) (v := undef) rfl (by kernel_rfl) (by kernel_rfl) (fun _ _ _ h => h) (Or.inr ⟨by kernel_rfl, rfl⟩) hS ?_
                      simp only [Act.put, List.getElem_toArray, List.getElem_cons_succ, List.getElem_cons_zero, List.setIfInBounds_toArray, List.set_cons_zero, List.set_cons_succ]
                      refine wpAnyH_takeS HNS (i := 9) (v := undef) rfl (by kernel_rfl) (by kernel_rfl) (fun _ _ _ h => h) (Or.inr ⟨by kernel_rfl, rfl⟩) hS ?_
                      simp only [Act.put, List.getElem_toArray, List.getElem_cons_succ, List.getElem_cons_zero, List.setIfInBounds_toArray, List.set_cons_zero, List.set_cons_succ]
                      refine wpAnyH_takeS HNS (i := 10) (v := undef) rfl (by kernel_rfl) (by kernel_rfl) (fun _ _ _ h => h) (Or.inr ⟨by kernel_rfl, rfl⟩) hS ?_
                      simp only [Act.put, List.getElem_toArray, List.getElem_cons_succ, List.getElem_cons_zero, List.setIfInBounds_toArray, List.set_cons_zero, List.set_cons_succ]
                      refine wpAnyH_takeS HNS (i := 11) (v := undef) rfl (by kernel_rfl) (by kernel_rfl) (fun _ _ _ h => h) (Or.inr ⟨by kernel_rfl, rfl⟩) hS ?_
                      simp only [Act.put, List.getElem_toArray, List.getElem_cons_succ, List.getElem_cons_zero, List.setIfInBounds_toArray, List.set_cons_zero, List.set_cons_succ]
                      refine wpAnyH_takeS HNS (i := 12) (v := undef) rfl (by kernel_rfl) (by kernel_rfl) (fun _ _ _ h => h) (Or.inr ⟨by kernel_rfl, rfl⟩) hS ?_
                      simp only [Act.put, List.getElem_toArray, List.getElem_cons_succ, List.getElem_cons_zero, List.setIfInBounds_toArray, List.set_cons_zero, List.set_cons_succ]
                      refine wpAnyH_takeS HNS (i := 13) (v := undef) rfl (by kernel_rfl) (by kernel_rfl) (fun _ _ _ h => h) (Or.inr ⟨by kernel_rfl, rfl⟩) hS ?_
                      simp only [Act.put, List.getElem_toArray, List.getElem_cons_succ, List.getElem_cons_zero, List.setIfInBounds_toArray, List.set_cons_zero, List.set_cons_succ]
                      refine wpAnyH_takeS HNS (i := 14) (v := .bool false) rfl (by kernel_rfl) (by kernel_rfl) (fun _ _ _ h => h) (Or.inl ⟨by kernel_rfl, fun W hW => ?_⟩) hS ?_
                      · go_simp
                      simp only [Act.put, List.getElem_toArray, List.getElem_cons_succ, List.getElem_cons_zero, List.setIfInBounds_toArray, List.set_cons_zero, List.set_cons_succ]
                      refine wpAnyH_takeS HNS (i := 15) (v := .bool false) rfl (by kernel_rfl) (by kernel_rfl) (fun _ _ _ h => h) (Or.inl ⟨by kernel_rfl, fun W hW => ?_⟩) hS ?_
                      · go_simp
                      simp only [Act.put, List.getElem_toArray, List.getElem_cons_succ, List.getElem_cons_zero, List.setIfInBounds_toArray, List.set_cons_zero, List.set_cons_succ]
                      refine wpAnyH_takeS HNS (i := 16) (v := .bool false) rfl (by kernel_rfl) (by kernel_rfl) (fun _ _ _ h => h) (Or.inl ⟨by kernel_rfl, fun W hW => ?_⟩) hS ?_
                      · go_simp
                      simp only [Act.put, List.getElem_toArray, List.getElem_cons_succ, List.getElem_cons_zero, List.setIfInBounds_toArray, List.set_cons_zero, List.set_cons_succ]
                      refine wpAnyH_takeS HNS (i := 17) (v := .int .i64 (j : Int)) rfl (by kernel_rfl) (by kernel_rfl) (fun _ _ _ h => h) (Or.inl ⟨by kernel_rfl, fun W hW => ?_⟩) hS ?_
                      · go_simp
                      simp only [Act.put, List.getElem_toArray, List.getElem_cons_succ, List.getElem_cons_zero, List.setIfInBounds_toArray, List.set_cons_zero, List.set_cons_succ]
                      refine wpAnyH_takeS HNS (i := 18) (v := .slice A5 nL c5) rfl (by kernel_rfl) (by kernel_rfl) (fun _ _ _ h => h) (Or.inl ⟨by kernel_rfl, fun W hW => ?_⟩) hS ?_
                      · go_simp
                      simp only [Act.put, List.getElem_toArray, List.getElem_cons_succ, List.getElem_cons_zero, List.setIfInBounds_toArray, List.set_cons_zero, List.set_cons_succ]
                      refine wpAnyH_takeS HNS (i := 19) (v := .int .i64 (nL : Nat)) rfl (by kernel_rfl) (by kernel_rfl) (fun _ _ _ h => h) (Or.inl ⟨by kernel_rfl, fun W hW => ?_⟩) hS ?_
                      · go_simp
                      simp only [Act.put, List.getElem_toArray, List.getElem_cons_succ, List.getElem_cons_zero, List.setIfInBounds_toArray, List.set_cons_zero, List.set_cons_succ]
                      refine wpAnyH_takeS HNS (i := 20) (v := .bool true) rfl (by kernel_rfl) (by kernel_rfl) (fun _ _ _ h => h) (Or.inl ⟨by kernel_rfl, fun W hW => ?_⟩) hS ?_
                      · go_simp
                      simp only [Act.put, List.getElem_toArray, List.getElem_cons_succ, List.getElem_cons_zero, List.setIfInBounds_toArray, List.set_cons_zero, List.set_cons_succ]
                      refine wpAnyH_takeS HNS (i := 21) (v := .bool true) rfl (by kernel_rfl) (by kernel_rfl) (fun _ _ _ h => h) (Or.inl ⟨by kernel_rfl, fun W hW => ?_⟩) hS ?_
                      · go_simp
                      simp only [Act.put, List.getElem_toArray, List.getElem_cons_succ, List.getElem_cons_zero, List.setIfInBounds_toArray, List.set_cons_zero, List.set_cons_succ]
                      refine wpAnyH_takeS HNS (i := 22) (v := .agg #[.int .i64 xa, .int .i64 xb]) rfl (by kernel_rfl) (by kernel_rfl) (fun _ _ _ h => h) (Or.inl ⟨by kernel_rfl, fun W hW => ?_⟩) hS ?_
                      · (have hz := Held.below rx hW; have z0 := hz.cell 0; have z1 := hz.cell 1; simp at z0 z1; go_simp)
                      simp only [Act.put, List.getElem_toArray, List.getElem_cons_succ, List.getElem_cons_zero, List.setIfInBounds_toArray, List.set_cons_zero, List.set_cons_succ]
                      refine wpAnyH_takeS HNS (i := 23) (v := .slice (some ⟨b2, off2, none⟩) nl c2) rfl (by kernel_rfl) (by kernel_rfl) (fun _ _ _ h => h) (Or.inl ⟨by kernel_rfl, fun W hW => ?_⟩) hS ?_
                      · go_simp
                      simp only [Act.put, List.getElem_toArray, List.getElem_cons_succ, List.getElem_cons_zero, List.setIfInBounds_toArray, List.set_cons_zero, List.set_cons_succ]
                      refine wpAnyH_takeS HNS (i := 24) (v := .int .i64 (j : Int)) rfl (by kernel_rfl) (by kernel_rfl) (fun _ _ _ h => h) (Or.inl ⟨by kernel_rfl, fun W hW => ?_⟩) hS ?_
                      · go_simp
                      simp only [Act.put, List.getElem_toArray, List.getElem_cons_succ, List.getElem_cons_zero, List.setIfInBounds_toArray, List.set_cons_zero, List.set_cons_succ]
                      refine wpAnyH_takeS HNS (i := 25) (v := .slice A5 nL c5) rfl (by kernel_rfl) (by kernel_rfl) (fun _ _ _ h => h) (Or.inl ⟨by kernel_rfl, fun W hW => ?_⟩) hS ?_
                      · go_simp
                      simp only [Act.put, List.getElem_toArray, List.getElem_cons_succ, List.getElem_cons_zero, List.setIfInBounds_toArray, List.set_cons_zero, List.set_cons_succ]
                      refine wpAnyH_takeS HNS (i := 26) (v := .int .i64 (nL : Nat)) rfl (by kernel_rfl) (by kernel_rfl) (fun _ _ _ h => h) (Or.inl ⟨by kernel_rfl, fun W hW => ?_⟩) hS ?_
                      · go_simp
                      simp only [Act.put, List.getElem_toArray, List.getElem_cons_succ, List.getElem_cons_zero, List.setIfInBounds_toArray, List.set_cons_zero, List.set_cons_succ]
                      refine wpAnyH_takeS HNS (i := 27) (v := .int .i64 (m2 : Int)) rfl (by kernel_rfl) (by kernel_rfl) (fun _ _ _ h => h) (Or.inl ⟨by kernel_rfl, fun W hW => ?_⟩) hS ?_
                      · (rw [← hs2]; clear hs2; have hwr : IntKind.i64.wrap ((j : Int) - (nL : Int)) = (j : Int) - (nL : Int) := (by rw [IntKind.wrap_i64]; omega); go_simp)
                      simp only [Act.put, List.getElem_toArray, List.getElem_cons_succ, List.getElem_cons_zero, List.setIfInBounds_toArray, List.set_cons_zero, List.set_cons_succ]
                      refine wpAnyH_takeS HNS (i := 28) (v := .pointer (some ⟨b2, off2 + m2 * 2, none⟩)) rfl (by kernel_rfl) (by kernel_rfl) (fun _ _ _ h => h) (Or.inl ⟨by kernel_rfl, fun W hW => ?_⟩) hS ?_
                      · go_simp
                      simp only [Act.put, List.getElem_toArray, List.getElem_cons_succ, List.getElem_cons_zero, List.setIfInBounds_toArray, List.set_cons_zero, List.set_cons_succ]
                      refine wpAnyH_takeS HNS (i := 29) (v := .agg #[.int .i64 xa, .int .i64 xb]) rfl (by kernel_rfl) (by kernel_rfl) (fun _ _ _ h => h) (Or.inl ⟨by kernel_rfl, fun W hW => ?_⟩) hS ?_
                      · (have z0 := (hW.cell (p := ⟨b2, _, none⟩) hb2w).trans y0; have z1 := (hW.cell (p := ⟨b2, _, none⟩) hb2w).trans y1; go_simp)
                      simp only [Act.put, List.getElem_toArray, List.getElem_cons_succ, List.getElem_cons_zero, List.setIfInBounds_toArray, List.set_cons_zero, List.set_cons_succ]
                      refine wpAnyH_takeS HNS (i := 30) (v := .bool false) rfl (by kernel_rfl) (by kernel_rfl) (fun _ _ _ h => h) (Or.inl ⟨by kernel_rfl, fun W hW => ?_⟩) hS ?_
                      · go_simp
                      simp only [Act.put, List.getElem_toArray, List.getElem_cons_succ, List.getElem_cons_zero, List.setIfInBounds_toArray, List.set_cons_zero, List.set_cons_succ]
                      refine wpAnyH_takeS HNS (i := 31) (v := .bool false) rfl (by kernel_rfl) (by kernel_rfl) (fun _ _ _ h => h) (Or.inl ⟨by kernel_rfl, fun W hW => ?_⟩) hS ?_
                      · go_simp
                      simp only [Act.put, List.getElem_toArray, List.getElem_cons_succ, List.getElem_cons_zero, List.setIfInBounds_toArray, List.set_cons_zero, List.set_cons_succ]
                      refine wpAnyH_takeS HNS (i := 32) (v := .bool false) rfl (by kernel_rfl) (by kernel_rfl) (fun _ _ _ h => h) (Or.inl ⟨by kernel_rfl, fun W hW => ?_⟩) hS ?_
                      · go_simp
                      simp only [Act.put, List.getElem_toArray, List.getElem_cons_succ, List.getElem_cons_zero, List.setIfInBounds_toArray, List.set_cons_zero, List.set_cons_succ]
                      refine wpAnyH_done (by kernel_rfl) ?_ _
                      have hz := Below.step hW hS
                      replace v8 := v8.below hS
                      replace v9 := v9.below hS
                      replace v6 := v6.below hS
                      replace w5 := own_later w5 hS
                      replace h3 := Held.below h3 hS
                      replace rx := Held.below rx hS
                      replace v15 := v15.below hS
                      clear hW
                      have hW := hz
                      clear hz hS
                      have x9 := v9.x
                      go_wp2_with (first
                        | (guard_target = wpList _ _ _ (Oper.mk (some 125) _ _ _ _ none :: _) _ _; refine wpList_load_row rfl 24 _ rfl g15 rfl _ _ _ _ v15.x Try.underlying24 rfl (by kernel_rfl) ?_)
                        | (guard_target = wpList _ _ _ (Oper.mk _ (Op.store 24 (.tmp 9) _) _ _ _ none :: _) _ _; refine wpList_store_row rfl 24 _ _ rfl g9 (rgc A15 D.buf.length c15 D.head D.many D.most) rfl rfl _ _ x9 (by kernel_rfl) rfl (by simp [Value.oneCell']) ?_))
                      have v9' := rgo_set (r := D) x9 v15.o
                      obtain ⟨-, ⟨n1, n2, n3⟩, -, n4⟩ := HNE.out
                      replace v8 := v8.row x9 n1 (rgc A15 D.buf.length c15 D.head D.many D.most)
                      replace v6 := v6.row x9 n2 (rgc A15 D.buf.length c15 D.head D.many D.most)
                      replace w5 := own_row w5 x9 (rgc A15 D.buf.length c15 D.head D.many D.most)
                      replace h3 := held_row h3 n3 (rgc A15 D.buf.length c15 D.head D.many D.most)
                      replace hW := below_setRow hW n4 (rgc A15 D.buf.length c15 D.head D.many D.most)
                      go_roundw
                      case rel =>
                        refine ⟨j + 1, A15, c15, by go_num, by omega, ?_, v8, v6, w5, h3, hW⟩
                        rw [HD.out]
                        exact v9'
                      case measure => first | (simp [intOf]; done) | (simp [intOf]; omega)
                  · obtain rfl : j = nL + nl := by omega
                    have q83 : decide (((nL + nl : Nat) : Int) < (nL : Int) + (nl : Int)) = false := decide_eq_false (by omega)
                    have q84 : decide ((nL : Int) + (nl : Int) < (nL : Int) + (nl : Int)) = false := decide_eq_false (by omega)
                    have hil : (itemsR X).length = nL + nl := by rw [HF2.out, List.length_append, HL.out, HN.out.2.2.1]
                    have hso := (stealN_ok (nL + nl) HF1.out (by omega))
                    have hsn : stealR (stealN (nL + nl) X) = (stealN (nL + nl) X, (0, 0), false) := steal_no (by rw [hso.2.1, List.length_drop]; omega)
                    have hsb := hso.2.2.2
                    generalize stealN (nL + nl) X = R at *
                    have HSN := Lib.hid hsn
                    have HRB := Lib.hid (show R.buf.length ≤ 100000 by rw [hsb]; exact HN.out.2.2.2.2)
                    have HIL := Lib.hid hil
                    clear hso hsn hsb hil hlt hj
                    
                    go_upto_region 23 with (first
                      | (guard_target = wpList _ _ _ (Oper.mk (some 127) _ _ _ _ none :: _) _ _; refine wpList_load_row rfl 24 _ rfl g9 rfl _ _ _ _ v9.x Try.underlying24 rfl (by kernel_rfl) ?_)
                      | (go_at_call 15; (with_reducible refine (steal_c HSN.out HRB.out c9 _ v9.read.p).mono ?_); rintro _ u ⟨v, rfl, ⟨A18, c18, rfl, ho⟩, hb⟩; have hn := (Held.new u 24 rz0).alloc (.cells rf0 33); have hm := Held.new1 u (.cells rz0 24) 33 rf0)
                      | (guard_target = wpList _ _ _ (Oper.mk _ (Op.store 24 (.tmp 18) _) _ _ _ none :: _) _ _; refine wpList_store_row rfl 24 _ _ rfl u.heap.size (rgc A18 R.buf.length c18 R.head R.many R.most) rfl rfl _ _ hn (by kernel_rfl) rfl (by simp [Value.oneCell']) ?_; have hm2 := held_row hm (Nat.succ_ne_self u.heap.size) (rgc A18 R.buf.length c18 R.head R.many R.most))
                      | (guard_target = wpList _ _ _ (Oper.mk _ (Op.store 33 (.tmp 19) _) _ _ _ none :: _) _ _; refine wpList_store_row rfl 33 _ _ rfl (u.heap.size + 1) (rfc (0, 0)) rfl rfl _ _ hm2 (by kernel_rfl) rfl (by simp [Value.oneCell']) ?_))
                    obtain ⟨v18, ry, hbW⟩ := new_o2 (x := (0, 0)) hb ho
                    clear hb ho hn hm hm2
                    replace v8 := v8.below hbW
                    replace v9 := v9.below hbW
                    replace v6 := v6.below hbW
                    replace w5 := own_later w5 hbW
                    replace h3 := Held.below h3 hbW
                    replace hW := Below.step hW hbW
                    clear hbW
                    generalize World.setRow _ (u.heap.size + 1) _ = W22 at *
                    generalize u.heap.size + 1 = g18r at *
                    generalize u.heap.size = g18 at *
                    have HPL := Lib.hid (HPR.out _ hW)
                    clear v18 ry
                    have pr := HPL.out
                    clear HPL
                    have e9 : (((nL + nl : Nat) : Int) == (nL : Int) + (nl : Int)) = true := by simp
                    go_wp2_with (first
                      | (guard_target = wpList _ _ _ (Oper.mk (some 135) _ _ _ _ _ :: _) _ _; refine wpList_doneR rfl ?_; refine wpList_load_row rfl 24 _ rfl g8 rfl _ _ _ _ v8.x Try.underlying24 rfl (by kernel_rfl) ?_)
                      | (guard_target = wpList _ _ _ (Oper.mk (some 141) _ _ _ _ _ :: _) _ _; refine wpList_doneR rfl ?_; refine wpList_load_row rfl 24 _ rfl w.heap.size rfl _ _ _ _ h3 Try.underlying24 rfl (by kernel_rfl) ?_)
                      | (guard_target = wpList _ _ _ (Oper.mk (some 147) _ _ _ _ _ :: _) _ _; refine wpList_doneR rfl ?_; refine wpList_load_row rfl 24 _ rfl g6 rfl _ _ _ _ v6.x Try.underlying24 rfl (by kernel_rfl) ?_)
                      | (go_at_call 23; (with_reducible refine (items_c HQ4.out HN.out.2.2.1 c8 _ v8.read.p).mono ?_); rintro _ ui ⟨Ai1, ci1, rfl, wi, hbi⟩; replace v8 := v8.below hbi; replace v9 := v9.below hbi; replace v6 := v6.below hbi; replace w5 := own_later w5 hbi; replace h3 := Held.below h3 hbi; replace pr := pat_later pr hbi; replace hW := Below.step hW hbi; have hpI := own2_at wi)
                      | (go_at_call 23; (with_reducible refine (items_c HLQ.out HN.out.2.2.1 c _ pr).mono ?_); rintro _ uj ⟨Ai2, ci2, rfl, wj, hbj⟩; replace v8 := v8.below hbj; replace v9 := v9.below hbj; replace v6 := v6.below hbj; replace w5 := own_later w5 hbj; replace h3 := Held.below h3 hbj; replace pr := pat_later pr hbj; replace hW := Below.step hW hbj; have hpI := own2_at wj)
                      | (go_at_call 23; (with_reducible refine (items_c rfl HIL.out c6 _ v6.read.p).mono ?_); rintro _ uk ⟨Ai3, ci3, rfl, -, hbk⟩; replace v8 := v8.below hbk; replace v9 := v9.below hbk; replace v6 := v6.below hbk; replace w5 := own_later w5 hbk; replace h3 := Held.below h3 hbk; replace pr := pat_later pr hbk; replace hW := Below.step hW hbk)
                      | (go_at_call 22; (with_reducible refine (refs_c (l := L) (k := L) (R := true) HN.out.2.2.1 HN.out.2.2.1 (by simp) (by have := HN.out; omega) (by have := HN.out; omega) _ _ _ hpI (own2_at w5)).mono ?_); rintro _ ur ⟨rfl, hbr⟩; replace v8 := v8.below hbr; replace v9 := v9.below hbr; replace v6 := v6.below hbr; replace w5 := own_later w5 hbr; replace h3 := Held.below h3 hbr; replace pr := pat_later pr hbr; replace hW := Below.step hW hbr; clear hpI))
                    go_ret
                    exact ⟨rfl, hW⟩
        · have q2 : (eX != 0) = true := by simpa using h0
          go_wp2_with fail
          go_ret
          exact ⟨rfl, hW⟩
end Go.Proofs.Ythmnaclmbglkdaa.ringEnds
