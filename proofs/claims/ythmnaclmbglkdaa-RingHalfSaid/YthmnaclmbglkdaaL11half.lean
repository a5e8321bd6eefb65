/- RingHalf. -/
import Derived.Test.YthmnaclmbglkdaaJm
import Derived.Test.YthmnaclmbglkdaaNl
import Derived.Deep.DeepCutAuto
import Derived.Deep.CutBlock
namespace Go.Proofs.Ythmnaclmbglkdaa.ringHalf
set_option linter.unusedVariables false
set_option linter.unusedSimpArgs false
open Go.RowKit Go.ChangeShapes Go.WideShapes Go.ChangeAt Go.Sort Go.Proofs.Ythmnaclmbglkdaa

set_option maxHeartbeats 4000000 in
set_option maxRecDepth 100000 in
theorem walk (CF : ∀ w, Calls Try.prog 10 #[] w fun e w' => e = .returned (.bool true) ∧ Below w.heap.size w w') {A : Option Addr} {r : Rng} {B : Nat} (c : Nat) (w : World) (hp : PAt w B A r.buf) (hB : B ≤ w.heap.size) :
    Calls Try.prog 8 #[rgv A r.buf.length c r.head r.many r.most] w fun e w' => e = .returned (.bool true) ∧ Below w.heap.size w w' := by
  have hW : Below w.heap.size w (w.alloc (.cells (rgc A r.buf.length c r.head r.many r.most) 24)) := (Below.refl _ _).alloc (Nat.le_refl _) _
  have v1 : RgV (w.alloc (.cells (rgc A r.buf.length c r.head r.many r.most) 24)) w.heap.size r A c := ⟨Held.new w 24 _, (hp.below hW hB).more (Nat.le_trans hB hW.size)⟩
  obtain ⟨sm, hsm⟩ : ∃ b, decide (r.buf.length ≤ 60) = b := ⟨_, rfl⟩
  obtain ⟨my, hmy⟩ : ∃ b, mayR r = b := ⟨_, rfl⟩
  have HSM := Lib.hid hsm
  have HMY := Lib.hid hmy
  clear hsm hmy
  have g0 : w.heap.size = w.heap.size := rfl
  clear hp hB g0
  go_enter Try.func8, Try.ntmps8
  go_upto_region 1 with (fail)
  generalize w.alloc (.cells (rgc A r.buf.length c r.head r.many r.most) 24) = W0 at *
  cases sm with
  | false =>
    go_wp2_with (first
      | (go_at_call 10; (with_reducible refine (CF _).mono ?_); rintro _ uf ⟨rfl, hbf⟩; replace v1 := v1.below hbf; replace hW := Below.step hW hbf)
      | (guard_target = wpList _ _ _ (Oper.mk (some 14) _ _ _ _ _ :: _) _ _; refine wpList_doneR rfl ?_; refine wpList_load_row rfl 24 _ rfl w.heap.size rfl _ _ _ _ v1.x Try.underlying24 rfl (by kernel_rfl) ?_)
      | (go_at_call 9; (with_reducible refine (rsmall_c HSM.out A c _).mono ?_); rintro _ us ⟨rfl, hbs⟩; replace v1 := v1.below hbs; replace hW := Below.step hW hbs)
      | (guard_target = wpList _ _ _ (Oper.mk (some 19) _ _ _ _ _ :: _) _ _; refine wpList_doneR rfl ?_; refine wpList_load_row rfl 24 _ rfl w.heap.size rfl _ _ _ _ v1.x Try.underlying24 rfl (by kernel_rfl) ?_)
      | (go_at_call 26; (with_reducible refine (rmay_c HMY.out A c _).mono ?_); rintro _ um ⟨rfl, hbm⟩; replace v1 := v1.below hbm; replace hW := Below.step hW hbm))
    go_ret
    exact ⟨rfl, hW⟩
  | true =>
    cases my with
    | false =>
      go_wp2_with (first
        | (go_at_call 10; (with_reducible refine (CF _).mono ?_); rintro _ uf ⟨rfl, hbf⟩; replace v1 := v1.below hbf; replace hW := Below.step hW hbf)
        | (guard_target = wpList _ _ _ (Oper.mk (some 14) _ _ _ _ _ :: _) _ _; refine wpList_doneR rfl ?_; refine wpList_load_row rfl 24 _ rfl w.heap.size rfl _ _ _ _ v1.x Try.underlying24 rfl (by kernel_rfl) ?_)
        | (go_at_call 9; (with_reducible refine (rsmall_c HSM.out A c _).mono ?_); rintro _ us ⟨rfl, hbs⟩; replace v1 := v1.below hbs; replace hW := Below.step hW hbs)
        | (guard_target = wpList _ _ _ (Oper.mk (some 19) _ _ _ _ _ :: _) _ _; refine wpList_doneR rfl ?_; refine wpList_load_row rfl 24 _ rfl w.heap.size rfl _ _ _ _ v1.x Try.underlying24 rfl (by kernel_rfl) ?_)
        | (go_at_call 26; (with_reducible refine (rmay_c HMY.out A c _).mono ?_); rintro _ um ⟨rfl, hbm⟩; replace v1 := v1.below hbm; replace hW := Below.step hW hbm))
      go_ret
      exact ⟨rfl, hW⟩
    | true =>
      have hr60 : r.buf.length ≤ 60 := of_decide_eq_true HSM.out
      obtain ⟨h1, h2, h3, h4, h5⟩ := half_all HMY.out
      have hl60 : (itemsR r).length ≤ 60 := by
        have := items_len HMY.out
        have := ((mayR_iff r).1 HMY.out).2.2.2.2
        omega
      have hhalf : halfN r = ((itemsR r).length + 1) / 2 := rfl
      obtain ⟨D, U, hDU⟩ : ∃ D U, halfR r = (D, U) := ⟨_, _, rfl⟩
      rw [hDU] at h1 h2 h3 h4 h5
      simp only at h1 h2 h3 h4 h5
      obtain ⟨L, hL⟩ : ∃ L, itemsR r = L := ⟨_, rfl⟩
      obtain ⟨KD, hK⟩ : ∃ KD, itemsR D = KD := ⟨_, rfl⟩
      rw [hL] at h2 h4 hl60 hhalf
      rw [hK] at h2 h4
      have hDb : D.buf = r.buf := by
        have : (halfR r).1.buf = r.buf := stealN_buf _ _
        rwa [hDU] at this
      obtain ⟨nl, hnl⟩ : ∃ n, L.length = n := ⟨_, rfl⟩
      obtain ⟨nu, hnu⟩ : ∃ n, U.length = n := ⟨_, rfl⟩
      obtain ⟨nk, hnk⟩ : ∃ n, KD.length = n := ⟨_, rfl⟩
      have hq : newR 1 64 = (⟨[(0, 0)], 0, 0, 64⟩, true) := by kernel_rfl
      have hqm : mayR ⟨[(0, 0)], 0, 0, 64⟩ = true := by kernel_rfl
      have hqi : itemsR ⟨[(0, 0)], 0, 0, 64⟩ = [] := by kernel_rfl
      generalize (⟨[(0, 0)], 0, 0, 64⟩ : Rng) = q at *
      have hq1 : q.buf.length ≤ 100000 ∧ (q.many = 0 ∧ q.most = 64) := by
        have := new_may (room := 1) (most := 64) (by rw [hq])
        rw [hq] at this
        obtain ⟨_, _, a3, a4, a5⟩ := this
        simp only at a3 a4 a5
        exact ⟨by omega, a5, a4⟩
      obtain ⟨X, eX, hX⟩ : ∃ X e, pushR q U = (X, e) := ⟨_, _, rfl⟩
      have hXX : eX = 0 ∧ itemsR X = U := by
        obtain ⟨m1, m2, -⟩ := many_ok U hqm (by rw [hq1.2.1, hq1.2.2, hnu]; omega)
        have e9 : pushR q U = (manyR q U, 0) := by
          unfold pushR
          rw [if_neg (by rw [hqm]; decide), if_neg (by rw [hq1.2.1, hq1.2.2, hnu]; omega)]
        rw [e9] at hX
        simp only [Prod.mk.injEq] at hX
        rw [← hX.1, m2, hqi]
        exact ⟨hX.2.symm, by simp⟩
      obtain ⟨rfl, hXi⟩ := hXX
      have hXl : X.buf.length ≤ 100000 := by
        have := push_len U (r := q) (by have := hq1.1; rw [← hX.symm.trans rfl] at *; have := new_may (room := 1) (most := 64) (by rw [hq]); rw [hq] at this; have := this.2.2.1; simp only at this; omega)
        rwa [hX] at this
      have HU := Lib.hid (show decide (U ++ KD = L) = true from decide_eq_true h2)
      have HN := Lib.hid (And.intro hnl (And.intro hnu hnk))
      have HLE := Lib.hid (show nu ≤ 1000 ∧ nl ≤ 1000 ∧ nk ≤ 1000 ∧ nu + nk = nl ∧ (nu : Int) - nk ≥ 0 ∧ (nu : Int) - nk ≤ 1 by omega)
      have HB := Lib.hid (show r.buf.length ≤ 100000 ∧ D.buf.length ≤ 100000 ∧ q.buf.length ≤ 100000 from ⟨by omega, by rw [hDb]; omega, hq1.1⟩)
      have HQ := Lib.hid hq
      have HX := Lib.hid hX
      have HXI := Lib.hid hXi
      have HXL := Lib.hid hXl
      have HDU := Lib.hid hDU
      have HL := Lib.hid hL
      have HK := Lib.hid hK
      clear h1 h2 h3 h4 h5 hr60 hl60 hhalf hDU hL hK hDb hnl hnu hnk hq hqm hqi hq1 hX hXi hXl
      go_upto_region 3 with (first
        | (go_at_call 10; (with_reducible refine (CF _).mono ?_); rintro _ uf ⟨rfl, hbf⟩; replace v1 := v1.below hbf; replace hW := Below.step hW hbf)
        | (guard_target = wpList _ _ _ (Oper.mk (some 14) _ _ _ _ _ :: _) _ _; refine wpList_doneR rfl ?_; refine wpList_load_row rfl 24 _ rfl w.heap.size rfl _ _ _ _ v1.x Try.underlying24 rfl (by kernel_rfl) ?_)
        | (go_at_call 9; (with_reducible refine (rsmall_c HSM.out A c _).mono ?_); rintro _ us ⟨rfl, hbs⟩; replace v1 := v1.below hbs; replace hW := Below.step hW hbs)
        | (guard_target = wpList _ _ _ (Oper.mk (some 19) _ _ _ _ _ :: _) _ _; refine wpList_doneR rfl ?_; refine wpList_load_row rfl 24 _ rfl w.heap.size rfl _ _ _ _ v1.x Try.underlying24 rfl (by kernel_rfl) ?_)
        | (go_at_call 26; (with_reducible refine (rmay_c HMY.out A c _).mono ?_); rintro _ um ⟨rfl, hbm⟩; replace v1 := v1.below hbm; replace hW := Below.step hW hbm))
      go_upto_region 4 with (first
        | (guard_target = wpList _ _ _ (Oper.mk (some 24) _ _ _ _ none :: _) _ _; refine wpList_load_row rfl 24 _ rfl w.heap.size rfl _ _ _ _ v1.x Try.underlying24 rfl (by kernel_rfl) ?_)
        | (go_at_call 23; (with_reducible refine (items_c HL.out HN.out.1 c _ v1.p).mono ?_); rintro _ u ⟨A3, c3, rfl, wl, hb⟩; replace v1 := v1.below hb; replace hW := Below.step hW hb))
      go_upto_region 5 with (first
        | (guard_target = wpList _ _ _ (Oper.mk (some 27) _ _ _ _ none :: _) _ _; refine wpList_load_row rfl 24 _ rfl w.heap.size rfl _ _ _ _ v1.x Try.underlying24 rfl (by kernel_rfl) ?_)
        | (go_at_call 17; (with_reducible refine (half_c HDU.out HN.out.2.1 HB.out.1 c _ v1.p).mono ?_); rintro _ u ⟨v, A5, c5, rfl, ⟨A4, c4, rfl, ho⟩, hol, hb⟩; have hn := Held.new u 24 rz0)
        | (guard_target = wpList _ _ _ (Oper.mk _ (Op.store 24 (.tmp 4) _) _ _ _ none :: _) _ _; refine wpList_store_row rfl 24 _ _ rfl u.heap.size (rgc A4 D.buf.length c4 D.head D.many D.most) rfl rfl _ _ hn (by kernel_rfl) rfl (by simp [Value.oneCell']) ?_))
      obtain ⟨v4, hbW⟩ := new_o1 (r := D) (c := c4) hb ho
      have wu := own_later (r_mono hol (Nat.zero_le _) : OwnR u 0 (.slice A5 nu c5) U) (below_new1 (Below.refl _ u) rz0 (rgc A4 D.buf.length c4 D.head D.many D.most) 24)
      clear hol
      clear hb ho hn
      replace v1 := v1.below hbW
      replace wl := own_later wl hbW
      replace hW := Below.step hW hbW
      clear hbW
      generalize World.setRow _ u.heap.size _ = W4 at *
      generalize u.heap.size = g4 at *
      go_upto_region 6 with (first
        | (go_at_call 19; (with_reducible refine (new_c HQ.out _).mono ?_); rintro _ u ⟨v, rfl, ⟨A6, c6, rfl, ho⟩, hb⟩; have hn := Held.new u 24 rz0)
        | (guard_target = wpList _ _ _ (Oper.mk _ (Op.store 24 (.tmp 6) _) _ _ _ none :: _) _ _; refine wpList_store_row rfl 24 _ _ rfl u.heap.size (rgc A6 q.buf.length c6 q.head q.many q.most) rfl rfl _ _ hn (by kernel_rfl) rfl (by simp [Value.oneCell']) ?_))
      obtain ⟨v6, hbW⟩ := new_o1 (r := q) (c := c6) hb ho
      clear hb ho hn
      replace v1 := v1.below hbW
      replace wl := own_later wl hbW
      replace v4 := v4.below hbW
      replace wu := own_later wu hbW
      replace hW := Below.step hW hbW
      clear hbW
      generalize World.setRow _ u.heap.size _ = W5 at *
      generalize u.heap.size = g6 at *
      go_upto_region 7 with (first
        | (guard_target = wpList _ _ _ (Oper.mk (some 36) _ _ _ _ none :: _) _ _; refine wpList_load_row rfl 24 _ rfl g6 rfl _ _ _ _ v6.x Try.underlying24 rfl (by kernel_rfl) ?_)
        | (go_at_call 11; (with_reducible refine (push_c HX.out HN.out.2.1 HB.out.2.2 HLE.out.1 c6 c5 _ v6.read.p (own2_at wu)).mono ?_); rintro _ u ⟨v, rfl, ⟨A8, c8, rfl, ho⟩, hb⟩; have hn := Held.new u 24 rz0)
        | (guard_target = wpList _ _ _ (Oper.mk _ (Op.store 24 (.tmp 8) _) _ _ _ none :: _) _ _; refine wpList_store_row rfl 24 _ _ rfl u.heap.size (rgc A8 X.buf.length c8 X.head X.many X.most) rfl rfl _ _ hn (by kernel_rfl) rfl (by simp [Value.oneCell']) ?_))
      obtain ⟨v8, hbW⟩ := new_o1 (r := X) (c := c8) hb ho
      clear hb ho hn
      replace v1 := v1.below hbW
      replace wl := own_later wl hbW
      replace v4 := v4.below hbW
      replace wu := own_later wu hbW
      replace v6 := v6.below hbW
      replace hW := Below.step hW hbW
      clear hbW
      generalize World.setRow _ u.heap.size _ = W6 at *
      generalize u.heap.size = g8 at *
      have hdr := (Below.refl W6.heap.size W6).drew
      replace v1 := v1.below hdr
      replace wl := own_later wl hdr
      replace v4 := v4.below hdr
      replace wu := own_later wu hdr
      replace v6 := v6.below hdr
      replace v8 := v8.below hdr
      replace hW := Below.step hW hdr
      clear hdr
      refine wp_region_held_drew (S := fun W => Below W6.drew.heap.size W6.drew W) (by kernel_rfl) (Below.refl _ _) (fun hS => ?_)
      generalize W6.drew = W7 at *
      show wpAnyH _ _ _ _ _ 8 #[false, false, false, false, false, false, false, false] _ _
      refine wpAnyH_begin (by kernel_rfl) (fun HNS => ?_)
      refine wpAnyH_takeS HNS (i := 1) (v := .agg (rgc A8 X.buf.length c8 X.head X.many X.most)) rfl (by kernel_rfl) (by kernel_rfl) (fun _ _ _ h => h) (Or.inl ⟨by kernel_rfl, fun W hW => ?_⟩) hS ?_
      · (have hz := Held.below v8.x hW; have z0 := hz.cell 0; have z1 := hz.cell 1; have z2 := hz.cell 2; have z3 := hz.cell 3; simp at z0 z1 z2 z3; go_simp)
      simp only [Act.put, List.getElem_toArray, List.getElem_cons_succ, List.getElem_cons_zero, List.setIfInBounds_toArray, List.set_cons_zero, List.set_cons_succ]
      refine wpAnyH_takeS HNS (i := 4) (v := .agg (rgc A4 D.buf.length c4 D.head D.many D.most)) rfl (by kernel_rfl) (by kernel_rfl) (fun _ _ _ h => h) (Or.inl ⟨by kernel_rfl, fun W hW => ?_⟩) hS ?_
      · (have hz := Held.below v4.x hW; have z0 := hz.cell 0; have z1 := hz.cell 1; have z2 := hz.cell 2; have z3 := hz.cell 3; simp at z0 z1 z2 z3; go_simp)
      simp only [Act.put, List.getElem_toArray, List.getElem_cons_succ, List.getElem_cons_zero, List.setIfInBounds_toArray, List.set_cons_zero, List.set_cons_succ]
      refine' join2 (S := _) (H := fun Wj1 x1y0 x1y1 => Below W7.heap.size W7 Wj1 ∧ (∃ g, x1y0 = .slice (some ⟨g, 0, none⟩) 0 0 ∧ OwnR Wj1 W7.heap.size (.slice (some ⟨g, 0, none⟩) 0 0) []) ∧ (∃ A c, x1y1 = .slice A nu c ∧ PAt Wj1 Wj1.heap.size A U)) ?both ?key
      case both =>
        intro key
        refine wpAnyH_ready (rs := [0, 2]) (by kernel_rfl) (by simp) ?_
        refine (AllReadyH.cons rfl (fun K hK => ?_) (AllReadyH.cons rfl (fun K hK => ?_) AllReadyH.nil))
        · rw [if_pos (by kernel_rfl)]
          refine wp_build0R rfl ?_
          have hbA := ((Below.refl _ _).alloc (Nat.le_refl _) _ : Below W7.heap.size W7 (W7.alloc (.cells #[] 33)))
          have wb : OwnR (W7.alloc (.cells #[] 33)) W7.heap.size (.slice (some ⟨W7.heap.size, 0, none⟩) 0 0) [] := Own2.made 33 W7
          have hwbB := hS.size
          replace hS := Below.step hS hbA
          clear hbA
          generalize W7.alloc (.cells #[] 33) = u1 at *
          refine hK.out _ _ hS (fun _ => ?_)
          clear hK K
          (try simp only [Act.put, List.getElem_toArray, List.getElem_cons_succ, List.getElem_cons_zero, List.setIfInBounds_toArray, List.set_cons_zero, List.set_cons_succ])
          refine wpAnyH_ready (rs := [2]) (by kernel_rfl) (by simp) ?_
          refine (AllReadyH.cons rfl (fun K hK => ?_) AllReadyH.nil)
          · rw [if_pos (by kernel_rfl)]
            go_simp
            go_at_call 23
            (with_reducible refine (items_c HXI.out HN.out.2.1 c8 _ (v8.read.below hS).p).mono ?_)
            rintro _ u2 ⟨Ai2, ci2, rfl, wi2, hb2⟩
            replace wb := own_later wb hb2
            have hpI := own2_at wi2
            replace hS := Below.step hS hb2
            (repeat (first | go_skip | go_guarded | go_step | go_upon))
            refine hK.out _ _ hS (fun _ => ?_)
            clear hK K
            (try simp only [Act.put, List.getElem_toArray, List.getElem_cons_succ, List.getElem_cons_zero, List.setIfInBounds_toArray, List.set_cons_zero, List.set_cons_succ])
            have hH : Below W7.heap.size W7 u2 ∧ (∃ g, (.slice (some ⟨W7.heap.size, 0, none⟩) 0 0 : Value) = .slice (some ⟨g, 0, none⟩) 0 0 ∧ OwnR u2 W7.heap.size (.slice (some ⟨g, 0, none⟩) 0 0) []) ∧ (∃ A c, (.slice Ai2 nu ci2 : Value) = .slice A nu c ∧ PAt u2 u2.heap.size A U) := And.intro hS (And.intro ⟨_, rfl, r_mono wb hwbB⟩ ⟨_, _, rfl, hpI⟩)
            generalize (.slice (some ⟨W7.heap.size, 0, none⟩) 0 0 : Value) = x1y0 at hH ⊢
            generalize (.slice Ai2 nu ci2 : Value) = x1y1 at hH ⊢
            exact key u2 x1y0 x1y1 hH
        · rw [if_pos (by kernel_rfl)]
          go_simp
          go_at_call 23
          (with_reducible refine (items_c HXI.out HN.out.2.1 c8 _ (v8.read.below hS).p).mono ?_)
          rintro _ u3 ⟨Ai3, ci3, rfl, wi3, hb3⟩
          have hpI := own2_at wi3
          replace hS := Below.step hS hb3
          (repeat (first | go_skip | go_guarded | go_step | go_upon))
          refine hK.out _ _ hS (fun _ => ?_)
          clear hK K
          (try simp only [Act.put, List.getElem_toArray, List.getElem_cons_succ, List.getElem_cons_zero, List.setIfInBounds_toArray, List.set_cons_zero, List.set_cons_succ])
          refine wpAnyH_ready (rs := [0]) (by kernel_rfl) (by simp) ?_
          refine (AllReadyH.cons rfl (fun K hK => ?_) AllReadyH.nil)
          · rw [if_pos (by kernel_rfl)]
            refine wp_build0R rfl ?_
            have hbA := ((Below.refl _ _).alloc (Nat.le_refl _) _ : Below u3.heap.size u3 (u3.alloc (.cells #[] 33)))
            replace hpI := pat_later hpI hbA
            have wb : OwnR (u3.alloc (.cells #[] 33)) u3.heap.size (.slice (some ⟨u3.heap.size, 0, none⟩) 0 0) [] := Own2.made 33 u3
            have hwbB := hS.size
            replace hS := Below.step hS hbA
            clear hbA
            generalize u3.alloc (.cells #[] 33) = u4 at *
            refine hK.out _ _ hS (fun _ => ?_)
            clear hK K
            (try simp only [Act.put, List.getElem_toArray, List.getElem_cons_succ, List.getElem_cons_zero, List.setIfInBounds_toArray, List.set_cons_zero, List.set_cons_succ])
            have hH : Below W7.heap.size W7 u4 ∧ (∃ g, (.slice (some ⟨u3.heap.size, 0, none⟩) 0 0 : Value) = .slice (some ⟨g, 0, none⟩) 0 0 ∧ OwnR u4 W7.heap.size (.slice (some ⟨g, 0, none⟩) 0 0) []) ∧ (∃ A c, (.slice Ai3 nu ci3 : Value) = .slice A nu c ∧ PAt u4 u4.heap.size A U) := And.intro hS (And.intro ⟨_, rfl, r_mono wb hwbB⟩ ⟨_, _, rfl, hpI⟩)
            generalize (.slice (some ⟨u3.heap.size, 0, none⟩) 0 0 : Value) = x1y0 at hH ⊢
            generalize (.slice Ai3 nu ci3 : Value) = x1y1 at hH ⊢
            exact key u4 x1y0 x1y1 hH
      case key =>
        intro Wj1 x1y0 x1y1 hH
        obtain ⟨hS, ⟨gb, rfl, wb⟩, ⟨Ai, ci, rfl, hpI⟩⟩ := hH
        refine wpAnyH_ready (rs := [3]) (by kernel_rfl) (by simp) ?_
        refine (AllReadyH.cons rfl (fun K hK => ?_) AllReadyH.nil)
        · rw [if_pos (by kernel_rfl)]
          refine wp_append_r (.tmp 41) (.tmp 43) rfl W7.heap.size (l := []) (k := U) rfl wb HN.out.2.1 rfl hpI (by have := HLE.out; omega) hS.size ?_
          intro Aa5 ca5 u5 wa hb5
          obtain ⟨nwa, hnwa⟩ : ∃ z, z = 0 + nu := ⟨_, rfl⟩
          rw [← hnwa] at wa ⊢
          have Hwa := Lib.hid hnwa
          clear hnwa
          replace hS := Below.trans hS hb5
          clear wb
          clear hpI
          refine hK.out _ _ hS (fun _ => ?_)
          clear hK K
          (try simp only [Act.put, List.getElem_toArray, List.getElem_cons_succ, List.getElem_cons_zero, List.setIfInBounds_toArray, List.set_cons_zero, List.set_cons_succ])
          refine wpAnyH_ready (rs := [5]) (by kernel_rfl) (by simp) ?_
          refine (AllReadyH.cons rfl (fun K hK => ?_) AllReadyH.nil)
          · rw [if_pos (by kernel_rfl)]
            go_simp
            go_at_call 23
            (with_reducible refine (items_c HK.out HN.out.2.2 c4 _ (v4.read.below hS).p).mono ?_)
            rintro _ u6 ⟨Ai6, ci6, rfl, wi6, hb6⟩
            replace wa := own_later wa hb6
            have hpJ := own2_at wi6
            replace hS := Below.step hS hb6
            (repeat (first | go_skip | go_guarded | go_step | go_upon))
            refine hK.out _ _ hS (fun _ => ?_)
            clear hK K
            (try simp only [Act.put, List.getElem_toArray, List.getElem_cons_succ, List.getElem_cons_zero, List.setIfInBounds_toArray, List.set_cons_zero, List.set_cons_succ])
            refine wpAnyH_ready (rs := [6]) (by kernel_rfl) (by simp) ?_
            refine (AllReadyH.cons rfl (fun K hK => ?_) AllReadyH.nil)
            · rw [if_pos (by kernel_rfl)]
              refine wp_append_r (.tmp 44) (.tmp 46) rfl W7.heap.size (l := ([] ++ U)) (k := KD) rfl wa HN.out.2.2 rfl hpJ (by have := HLE.out; have := Hwa.out; omega) hS.size ?_
              intro Aa7 ca7 u7 wz hb7
              obtain ⟨nwz, hnwz⟩ : ∃ z, z = nwa + nk := ⟨_, rfl⟩
              rw [← hnwz] at wz ⊢
              have Hwz := Lib.hid hnwz
              clear hnwz
              replace hS := Below.trans hS hb7
              clear wa
              clear hpJ
              refine hK.out _ _ hS (fun _ => ?_)
              clear hK K
              (try simp only [Act.put, List.getElem_toArray, List.getElem_cons_succ, List.getElem_cons_zero, List.setIfInBounds_toArray, List.set_cons_zero, List.set_cons_succ])
              refine wpAnyH_takeS HNS (i := 7) (v := .slice Aa7 nwz ca7) rfl (by kernel_rfl) (by kernel_rfl) (fun _ _ _ h => h) (Or.inl ⟨by kernel_rfl, fun W hW => ?_⟩) hS ?_
              · go_simp
              simp only [Act.put, List.getElem_toArray, List.getElem_cons_succ, List.getElem_cons_zero, List.setIfInBounds_toArray, List.set_cons_zero, List.set_cons_succ]
              refine wpAnyH_done (by kernel_rfl) ?_ _
              (repeat (first | go_skip | go_guarded | go_step | go_upon))
              have hz := Below.step hW hS
              replace v1 := v1.below hS
              replace wl := own_later wl hS
              replace v4 := v4.below hS
              replace wu := own_later wu hS
              replace v6 := v6.below hS
              replace v8 := v8.below hS
              clear hW
              have hW := hz
              clear hz hS
              rw [List.nil_append] at wz
              have HNB := Lib.hid (show nwz = nl by have := HLE.out; have := Hwa.out; have := Hwz.out; omega)
              go_wp2_with (first
                | (go_at_call 22; (with_reducible refine (refs_c (l := U ++ KD) (k := L) (R := true) (by rw [List.length_append, HN.out.2.1, HN.out.2.2, HNB.out]; exact HLE.out.2.2.2.1) HN.out.1 HU.out (by have := HLE.out; have := HNB.out; omega) (by have := HLE.out; omega) _ _ _ (own2_at wz) (own2_at wl)).mono ?_); rintro _ ur ⟨rfl, hbr⟩; replace v1 := v1.below hbr; replace wl := own_later wl hbr; replace v4 := v4.below hbr; replace wu := own_later wu hbr; replace v6 := v6.below hbr; replace v8 := v8.below hbr; replace wz := own_later wz hbr; replace hW := Below.step hW hbr)
                | (guard_target = wpList _ _ _ (Oper.mk (some 58) _ _ _ _ _ :: _) _ _; refine wpList_doneR rfl ?_; refine wpList_load_row rfl 24 _ rfl g4 rfl _ _ _ _ v4.x Try.underlying24 rfl (by kernel_rfl) ?_)
                | (guard_target = wpList _ _ _ (Oper.mk (some 67) _ _ _ _ _ :: _) _ _; refine wpList_doneR rfl ?_; refine wpList_load_row rfl 24 _ rfl g4 rfl _ _ _ _ v4.x Try.underlying24 rfl (by kernel_rfl) ?_)
                | (go_at_call 23; (with_reducible refine (items_c HK.out HN.out.2.2 c4 _ v4.read.p).mono ?_); rintro _ ui ⟨Ai2, ci2, rfl, -, hbi⟩; replace v1 := v1.below hbi; replace wl := own_later wl hbi; replace v4 := v4.below hbi; replace wu := own_later wu hbi; replace v6 := v6.below hbi; replace v8 := v8.below hbi; replace wz := own_later wz hbi; replace hW := Below.step hW hbi; obtain ⟨-, -, -, -, k1, k2⟩ := HLE.out))
              go_ret
              exact ⟨rfl, hW⟩
end Go.Proofs.Ythmnaclmbglkdaa.ringHalf
