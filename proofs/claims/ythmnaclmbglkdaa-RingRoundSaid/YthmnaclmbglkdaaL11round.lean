/- RingRound. -/
import Derived.Test.YthmnaclmbglkdaaJm
import Derived.Test.YthmnaclmbglkdaaNl
import Derived.Deep.DeepCutAuto
import Derived.Deep.CutBlock
namespace Go.Proofs.Ythmnaclmbglkdaa.ringRound
set_option linter.unusedVariables false
set_option linter.unusedSimpArgs false
open Go.RowKit Go.ChangeShapes Go.WideShapes Go.ChangeAt Go.Sort Go.Proofs.Ythmnaclmbglkdaa

set_option maxHeartbeats 8000000 in
set_option maxRecDepth 100000 in
theorem walk (CF : ∀ w, Calls Try.prog 10 #[] w fun e w' => e = .returned (.bool true) ∧ Below w.heap.size w w') {A2 : Option Addr} {l : List P2} {B nl : Nat} (c2 : Nat) (room : Int) (w : World) (hp2 : PAt w B A2 l) (hB : B ≤ w.heap.size) (hl : l.length = nl) :
    Calls Try.prog 7 #[.int .i64 room, .slice A2 nl c2] w fun e w' => e = .returned (.bool true) ∧ Below w.heap.size w w' := by
  have hW : Below w.heap.size w w := Below.refl _ _
  have HL := Lib.hid hl
  have HP := Lib.hid (fun W (h : Below w.heap.size w W) => (hp2.below h hB : PAt W B A2 l))
  have HB := Lib.hid hB
  clear hl hp2 hB
  go_enter Try.func7, Try.ntmps7
  by_cases hg1 : room < 1
  · have q1 : decide (room < 1) = true := decide_eq_true hg1
    go_wp2_with (first
      | (go_at_call 10; go_loud ((with_reducible refine (CF _).mono ?_); rintro _ uf ⟨rfl, hbf⟩; replace hW := Below.step hW hbf)))
    go_ret
    exact ⟨rfl, hW⟩
  · have q1 : decide (room < 1) = false := decide_eq_false hg1
    by_cases hg2 : (20 : Int) < room
    · have q2 : decide ((20 : Int) < room) = true := decide_eq_true hg2
      go_wp2_with (first
        | (go_at_call 10; go_loud ((with_reducible refine (CF _).mono ?_); rintro _ uf ⟨rfl, hbf⟩; replace hW := Below.step hW hbf)))
      go_ret
      exact ⟨rfl, hW⟩
    · have q2 : decide ((20 : Int) < room) = false := decide_eq_false hg2
      by_cases hg3 : (100 : Int) < nl
      · have q3 : decide ((100 : Int) < nl) = true := decide_eq_true hg3
        go_wp2_with (first
          | (go_at_call 10; go_loud ((with_reducible refine (CF _).mono ?_); rintro _ uf ⟨rfl, hbf⟩; replace hW := Below.step hW hbf)))
        go_ret
        exact ⟨rfl, hW⟩
      · have q3 : decide ((100 : Int) < nl) = false := decide_eq_false hg3
        obtain ⟨n, hn⟩ : ∃ n : Nat, room = n := ⟨room.toNat, by omega⟩
        have hn1 : 1 ≤ n := by omega
        have hn20 : n ≤ 20 := by omega
        have hnl : nl ≤ 100 := by omega
        have hnw : newR room room = ((newR room room).1, true) := by
          have : newR room room = (⟨List.replicate room.toNat (0, 0), 0, 0, room⟩, true) := if_pos (by omega)
          rw [this]
        obtain ⟨a1, a2, a3, a4, a5⟩ := new_may (room := room) (most := room) (by rw [hnw])
        generalize (newR room room).1 = q at *
        have HQ := Lib.hid hnw
        have HQF := Lib.hid (And.intro a1 (And.intro a2 (And.intro (show q.buf.length = n by omega) (show q.most = (n : Int) by omega))))
        have HN := Lib.hid (And.intro hn1 (And.intro hn20 (And.intro hnl hn)))
        clear hg1 hg2 hg3 hn1 hn20 hnw a1 a2 a3 a4 a5 hn
        go_upto_region 3 with (first
          | (go_at_call 10; go_loud ((with_reducible refine (CF _).mono ?_); rintro _ uf ⟨rfl, hbf⟩; replace hW := Below.step hW hbf)))
        have hn := HN.out.2.2.2
        subst hn
        clear q1 q2 q3
        go_upto_region 4 with (first
          | (go_at_call 19; go_loud ((with_reducible refine (new_c HQ.out _).mono ?_); rintro _ u ⟨v, rfl, ⟨A5, c5, rfl, ho⟩, hb⟩; have hn := Held.new u 24 rz0))
          | (guard_target = wpList _ _ _ (Oper.mk _ (Op.store 24 (.tmp 5) _) _ _ _ none :: _) _ _; refine wpList_store_row rfl 24 _ _ rfl u.heap.size (rgc A5 q.buf.length c5 q.head q.many q.most) rfl rfl _ _ hn (by kernel_rfl) rfl (by simp [Value.oneCell']) ?_))
        obtain ⟨v5, hbW⟩ := new_o1 hb ho
        have hG5 := Nat.le_trans hW.size hb.size
        clear hb ho hn
        replace hW := Below.step hW hbW
        clear hbW
        generalize World.setRow _ u.heap.size _ = W3 at *
        generalize u.heap.size = g5 at *
        have HG5 := Lib.hid hG5
        clear hG5
        go_wp2_with fail
        go_loopw [7] (fun iv wr => ∃ (i : Nat) (R : Rng) (A9 : Option Addr) (c9 : Nat), iv = .int .i64 i ∧ i ≤ nl ∧ RgO wr g5 R A9 c9 ∧ (mayR R = true ∧ itemsR R = [] ∧ R.buf.length = n ∧ R.most = (n : Int)) ∧ Below w.heap.size w wr) (fun iv _ => nl - (intOf iv).toNat)
        case atStart => exact ⟨0, q, A5, c5, rfl, Nat.zero_le _, v5, HQF.out, hW⟩
        case round =>
          obtain ⟨i, R, A9, c9, rfl, hi, v9, ⟨r1, r2, r3, r4⟩, hWr⟩ := hrel
          obtain ⟨hn1, hn20, hnl, -⟩ := HN.out
          by_cases hlt : i < nl
          · have hil : i < l.length := by rw [HL.out]; exact hlt
            obtain ⟨b2, off2, rfl, hb2, hcell⟩ := HP.out wr hWr (by omega)
            obtain ⟨y0, y1⟩ := hcell i hil
            have hb2w : b2 < wr.heap.size := block_lt_of_cell y0
            obtain ⟨s1, s2, s3, s4, s5, s6, s7⟩ := round_ok r1 r2 r3 r4 hn1 l[i]
            obtain ⟨S, hS9⟩ : ∃ S, stealR (oneR R l[i]) = (S, l[i], true) := ⟨(stealR (oneR R l[i])).1, by rw [← s3]⟩
            rw [hS9] at s4 s5 s6 s7
            simp only at s4 s5 s6 s7
            generalize hP9 : oneR R l[i] = X at *
            generalize l[i] = x at *
            obtain ⟨xa, xb⟩ := x
            simp only at y0 y1
            have EN : ∀ W, (binOp .neq 33 (gv xa xb) (gv xa xb)).run Try.prog W = .ok (.bool false) W := fun W => by rw [neqr_run]; simp
            have hXl : X.buf.length ≤ 100000 := by
              obtain ⟨⟨a1, a2⟩, ⟨b1, b2⟩, -, -⟩ := (mayR_iff X).1 s2
              omega
            have hlt2 : (i : Int) < nl := by omega
            have hi0 : (0 : Int) ≤ i := Int.natCast_nonneg i
            have HPU := Lib.hid s1
            have HST := Lib.hid hS9
            have HSF := Lib.hid (And.intro s4 (And.intro s5 (And.intro s6 s7)))
            have HLN := Lib.hid (And.intro (show R.buf.length ≤ 100000 by omega) (And.intro hXl (show S.buf.length ≤ 100000 by omega)))
            clear s1 s2 s3 s4 s5 s6 s7 hS9 hP9 hXl hcell r1 r2 r3 r4 hb2 hil
            go_upto_region 7 with (fail)
            have hdr := (Below.refl wr.heap.size wr).drew
            replace y0 := (hdr.cell (p := ⟨b2, _, none⟩) hb2w).trans y0
            replace y1 := (hdr.cell (p := ⟨b2, _, none⟩) hb2w).trans y1
            replace hb2w := Nat.lt_of_lt_of_le hb2w hdr.size
            have hdr := (Below.refl wr.heap.size wr).drew
            replace v9 := v9.below hdr
            replace hWr := Below.step hWr hdr
            clear hdr
            refine wp_region_held_drew (S := fun W => Below wr.drew.heap.size wr.drew W) (by kernel_rfl) (Below.refl _ _) (fun hS => ?_)
            generalize wr.drew = W7 at *
            show wpAnyH _ _ _ _ _ 13 #[false, false, false, false, false, false, false, false, false, false, false, false, false] _ _
            refine wpAnyH_begin (by kernel_rfl) (fun HNS => ?_)
            refine wpAnyH_takeS HNS (i := 0) (v := .agg (rgc A9 R.buf.length c9 R.head R.many R.most)) rfl (by kernel_rfl) (by kernel_rfl) (fun _ _ _ h => h) (Or.inl ⟨by kernel_rfl, fun W hW => ?_⟩) hS ?_
            · (have hz := Held.below v9.x hW; have z0 := hz.cell 0; have z1 := hz.cell 1; have z2 := hz.cell 2; have z3 := hz.cell 3; simp at z0 z1 z2 z3; go_simp)
            simp only [Act.put, List.getElem_toArray, List.getElem_cons_succ, List.getElem_cons_zero, List.setIfInBounds_toArray, List.set_cons_zero, List.set_cons_succ]
            refine wpAnyH_takeS HNS (i := 1) (v := .slice (some ⟨b2, off2, none⟩) nl c2) rfl (by kernel_rfl) (by kernel_rfl) (fun _ _ _ h => h) (Or.inl ⟨by kernel_rfl, fun W hW => ?_⟩) hS ?_
            · go_simp
            simp only [Act.put, List.getElem_toArray, List.getElem_cons_succ, List.getElem_cons_zero, List.setIfInBounds_toArray, List.set_cons_zero, List.set_cons_succ]
            refine wpAnyH_takeS HNS (i := 2) (v := .int .i64 (i : Int)) rfl (by kernel_rfl) (by kernel_rfl) (fun _ _ _ h => h) (Or.inl ⟨by kernel_rfl, fun W hW => ?_⟩) hS ?_
            · go_simp
            simp only [Act.put, List.getElem_toArray, List.getElem_cons_succ, List.getElem_cons_zero, List.setIfInBounds_toArray, List.set_cons_zero, List.set_cons_succ]
            refine wpAnyH_takeS HNS (i := 3) (v := .pointer (some ⟨b2, off2 + i * 2, none⟩)) rfl (by kernel_rfl) (by kernel_rfl) (fun _ _ _ h => h) (Or.inl ⟨by kernel_rfl, fun W hW => ?_⟩) hS ?_
            · go_simp
            simp only [Act.put, List.getElem_toArray, List.getElem_cons_succ, List.getElem_cons_zero, List.setIfInBounds_toArray, List.set_cons_zero, List.set_cons_succ]
            refine wpAnyH_takeS HNS (i := 4) (v := .agg #[.int .i64 xa, .int .i64 xb]) rfl (by kernel_rfl) (by kernel_rfl) (fun _ _ _ h => h) (Or.inl ⟨by kernel_rfl, fun W hW => ?_⟩) hS ?_
            · (have z0 := (hW.cell (p := ⟨b2, _, none⟩) hb2w).trans y0; have z1 := (hW.cell (p := ⟨b2, _, none⟩) hb2w).trans y1; go_simp)
            simp only [Act.put, List.getElem_toArray, List.getElem_cons_succ, List.getElem_cons_zero, List.setIfInBounds_toArray, List.set_cons_zero, List.set_cons_succ]
            apply join4 (H := fun Wj1 x1y0 x1y1 x1y2 x1y3 => Below W7.heap.size W7 Wj1 ∧ (∃ A c g, x1y2 = rgv A X.buf.length c X.head X.many X.most ∧ x1y3 = .pointer (some ⟨g, 0, none⟩) ∧ RgO Wj1 g X A c))
            case both =>
              intro key
              refine wpAnyH_ready (rs := [5, 10]) (by kernel_rfl) (by simp) ?_
              refine (AllReadyH.cons rfl (fun K hK => ?_) (AllReadyH.cons rfl (fun K hK => ?_) AllReadyH.nil))
              · rw [if_pos (by kernel_rfl)]
                refine wp_build1R rfl rfl ?_
                have hbA := ((Below.refl _ _).alloc (Nat.le_refl _) _ : Below W7.heap.size W7 (W7.alloc (.cells #[.int .i64 xa, .int .i64 xb] 33)))
                have hpB := one2_at (t := 33) (w := W7) xa xb
                replace hS := Below.step hS hbA
                clear hbA
                generalize W7.alloc (.cells #[.int .i64 xa, .int .i64 xb] 33) = u1 at *
                refine hK.out _ _ hS (fun _ => ?_)
                clear hK K
                (try simp only [Act.put, List.getElem_toArray, List.getElem_cons_succ, List.getElem_cons_zero, List.setIfInBounds_toArray, List.set_cons_zero, List.set_cons_succ])
                refine wpAnyH_ready (rs := [6, 10]) (by kernel_rfl) (by simp) ?_
                refine (AllReadyH.cons rfl (fun K hK => ?_) (AllReadyH.cons rfl (fun K hK => ?_) AllReadyH.nil))
                · go_simp
                  go_at_call 11
                  (with_reducible refine (push_c (l := [(xa, xb)]) (n := 1) HPU.out rfl HLN.out.1 (by decide) c9 1 _ (v9.read.below hS).p hpB).mono ?_)
                  rintro _ u2 ⟨vx, rfl, ⟨Ax, cx, rfl, ho⟩, hb2⟩
                  replace hpB := pat_later hpB hb2
                  replace hS := Below.step hS hb2
                  (repeat (first | go_skip | go_guarded | go_step | go_upon))
                  refine hK.out _ _ hS (fun _ => ?_)
                  clear hK K
                  (try simp only [Act.put, List.getElem_toArray, List.getElem_cons_succ, List.getElem_cons_zero, List.setIfInBounds_toArray, List.set_cons_zero, List.set_cons_succ])
                  refine wpAnyH_takeS HNS (i := 7) (v := .tuple #[rgv Ax X.buf.length cx X.head X.many X.most, .int .i64 0]) rfl (by kernel_rfl) (by kernel_rfl) (fun _ _ _ h => h) (Or.inl ⟨by kernel_rfl, fun W hW => ?_⟩) hS ?_
                  · go_simp
                  simp only [Act.put, List.getElem_toArray, List.getElem_cons_succ, List.getElem_cons_zero, List.setIfInBounds_toArray, List.set_cons_zero, List.set_cons_succ]
                  refine wpAnyH_takeS HNS (i := 8) (v := rgv Ax X.buf.length cx X.head X.many X.most) rfl (by kernel_rfl) (by kernel_rfl) (fun _ _ _ h => h) (Or.inl ⟨by kernel_rfl, fun W hW => ?_⟩) hS ?_
                  · go_simp
                  simp only [Act.put, List.getElem_toArray, List.getElem_cons_succ, List.getElem_cons_zero, List.setIfInBounds_toArray, List.set_cons_zero, List.set_cons_succ]
                  refine wpAnyH_takeS HNS (i := 9) (v := .int .i64 0) rfl (by kernel_rfl) (by kernel_rfl) (fun _ _ _ h => h) (Or.inl ⟨by kernel_rfl, fun W hW => ?_⟩) hS ?_
                  · go_simp
                  simp only [Act.put, List.getElem_toArray, List.getElem_cons_succ, List.getElem_cons_zero, List.setIfInBounds_toArray, List.set_cons_zero, List.set_cons_succ]
                  refine wpAnyH_ready (rs := [10]) (by kernel_rfl) (by simp) ?_
                  refine (AllReadyH.cons rfl (fun K hK => ?_) AllReadyH.nil)
                  · rw [if_pos (by kernel_rfl)]
                    refine wp_alloc_R 24 rfl rz0 (by kernel_rfl) ?_
                    have hbA := ((Below.refl _ _).alloc (Nat.le_refl _) _ : Below u2.heap.size u2 (u2.alloc (.cells rz0 24)))
                    replace hpB := pat_later hpB hbA
                    replace ho := own_later ho hbA
                    have al := Held.new u2 24 rz0
                    have lal := hS.size
                    replace hS := Below.step hS hbA
                    clear hbA
                    generalize u2.alloc (.cells rz0 24) = u3 at *
                    refine hK.out _ _ hS (fun _ => ?_)
                    clear hK K
                    (try simp only [Act.put, List.getElem_toArray, List.getElem_cons_succ, List.getElem_cons_zero, List.setIfInBounds_toArray, List.set_cons_zero, List.set_cons_succ])
                    refine wpAnyH_ready (rs := [11]) (by kernel_rfl) (by simp) ?_
                    refine (AllReadyH.cons rfl (fun K hK => ?_) AllReadyH.nil)
                    · rw [if_pos (by kernel_rfl)]
                      refine wp_store_row 24 _ _ rfl _ (rgc Ax X.buf.length cx X.head X.many X.most) (by rfl) (by rfl) _ _ al (by kernel_rfl) (by rfl) (by simp [Value.oneCell']) ?_
                      have vv := rgo_set (r := X) al ho
                      replace hS := below_setRow hS lal (rgc Ax X.buf.length cx X.head X.many X.most)
                      generalize World.setRow _ _ (rgc Ax X.buf.length cx X.head X.many X.most) = u4 at *
                      refine hK.out _ _ hS (fun _ => ?_)
                      clear hK K
                      (try simp only [Act.put, List.getElem_toArray, List.getElem_cons_succ, List.getElem_cons_zero, List.setIfInBounds_toArray, List.set_cons_zero, List.set_cons_succ])
                      have hH : Below W7.heap.size W7 u4 ∧ (∃ A c g, (rgv Ax X.buf.length cx X.head X.many X.most : Value) = rgv A X.buf.length c X.head X.many X.most ∧ (.pointer (some ⟨u2.heap.size, 0, none⟩) : Value) = .pointer (some ⟨g, 0, none⟩) ∧ RgO u4 g X A c) := And.intro hS ⟨_, _, _, rfl, rfl, vv⟩
                      generalize (.tuple #[rgv Ax X.buf.length cx X.head X.many X.most, .int .i64 0] : Value) = x1y0 at hH ⊢
                      generalize (.slice (some ⟨W7.heap.size, 0, none⟩) 1 1 : Value) = x1y1 at hH ⊢
                      generalize (rgv Ax X.buf.length cx X.head X.many X.most : Value) = x1y2 at hH ⊢
                      generalize (.pointer (some ⟨u2.heap.size, 0, none⟩) : Value) = x1y3 at hH ⊢
                      exact key u4 x1y0 x1y1 x1y2 x1y3 hH
                · rw [if_pos (by kernel_rfl)]
                  refine wp_alloc_R 24 rfl rz0 (by kernel_rfl) ?_
                  have hbA := ((Below.refl _ _).alloc (Nat.le_refl _) _ : Below u1.heap.size u1 (u1.alloc (.cells rz0 24)))
                  replace hpB := pat_later hpB hbA
                  have al := Held.new u1 24 rz0
                  have lal := hS.size
                  replace hS := Below.step hS hbA
                  clear hbA
                  generalize u1.alloc (.cells rz0 24) = u5 at *
                  refine hK.out _ _ hS (fun _ => ?_)
                  clear hK K
                  (try simp only [Act.put, List.getElem_toArray, List.getElem_cons_succ, List.getElem_cons_zero, List.setIfInBounds_toArray, List.set_cons_zero, List.set_cons_succ])
                  refine wpAnyH_ready (rs := [6]) (by kernel_rfl) (by simp) ?_
                  refine (AllReadyH.cons rfl (fun K hK => ?_) AllReadyH.nil)
                  · go_simp
                    go_at_call 11
                    (with_reducible refine (push_c (l := [(xa, xb)]) (n := 1) HPU.out rfl HLN.out.1 (by decide) c9 1 _ (v9.read.below hS).p hpB).mono ?_)
                    rintro _ u6 ⟨vx, rfl, ⟨Ax, cx, rfl, ho⟩, hb6⟩
                    replace hpB := pat_later hpB hb6
                    replace al := Held.below al hb6
                    replace hS := Below.step hS hb6
                    (repeat (first | go_skip | go_guarded | go_step | go_upon))
                    refine hK.out _ _ hS (fun _ => ?_)
                    clear hK K
                    (try simp only [Act.put, List.getElem_toArray, List.getElem_cons_succ, List.getElem_cons_zero, List.setIfInBounds_toArray, List.set_cons_zero, List.set_cons_succ])
                    refine wpAnyH_takeS HNS (i := 7) (v := .tuple #[rgv Ax X.buf.length cx X.head X.many X.most, .int .i64 0]) rfl (by kernel_rfl) (by kernel_rfl) (fun _ _ _ h => h) (Or.inl ⟨by kernel_rfl, fun W hW => ?_⟩) hS ?_
                    · go_simp
                    simp only [Act.put, List.getElem_toArray, List.getElem_cons_succ, List.getElem_cons_zero, List.setIfInBounds_toArray, List.set_cons_zero, List.set_cons_succ]
                    refine wpAnyH_takeS HNS (i := 8) (v := rgv Ax X.buf.length cx X.head X.many X.most) rfl (by kernel_rfl) (by kernel_rfl) (fun _ _ _ h => h) (Or.inl ⟨by kernel_rfl, fun W hW => ?_⟩) hS ?_
                    · go_simp
                    simp only [Act.put, List.getElem_toArray, List.getElem_cons_succ, List.getElem_cons_zero, List.setIfInBounds_toArray, List.set_cons_zero, List.set_cons_succ]
                    refine wpAnyH_takeS HNS (i := 9) (v := .int .i64 0) rfl (by kernel_rfl) (by kernel_rfl) (fun _ _ _ h => h) (Or.inl ⟨by kernel_rfl, fun W hW => ?_⟩) hS ?_
                    · go_simp
                    simp only [Act.put, List.getElem_toArray, List.getElem_cons_succ, List.getElem_cons_zero, List.setIfInBounds_toArray, List.set_cons_zero, List.set_cons_succ]
                    refine wpAnyH_ready (rs := [11]) (by kernel_rfl) (by simp) ?_
                    refine (AllReadyH.cons rfl (fun K hK => ?_) AllReadyH.nil)
                    · rw [if_pos (by kernel_rfl)]
                      refine wp_store_row 24 _ _ rfl _ (rgc Ax X.buf.length cx X.head X.many X.most) (by rfl) (by rfl) _ _ al (by kernel_rfl) (by rfl) (by simp [Value.oneCell']) ?_
                      have vv := rgo_set (r := X) al ho
                      replace hS := below_setRow hS lal (rgc Ax X.buf.length cx X.head X.many X.most)
                      generalize World.setRow _ _ (rgc Ax X.buf.length cx X.head X.many X.most) = u7 at *
                      refine hK.out _ _ hS (fun _ => ?_)
                      clear hK K
                      (try simp only [Act.put, List.getElem_toArray, List.getElem_cons_succ, List.getElem_cons_zero, List.setIfInBounds_toArray, List.set_cons_zero, List.set_cons_succ])
                      have hH : Below W7.heap.size W7 u7 ∧ (∃ A c g, (rgv Ax X.buf.length cx X.head X.many X.most : Value) = rgv A X.buf.length c X.head X.many X.most ∧ (.pointer (some ⟨u1.heap.size, 0, none⟩) : Value) = .pointer (some ⟨g, 0, none⟩) ∧ RgO u7 g X A c) := And.intro hS ⟨_, _, _, rfl, rfl, vv⟩
                      generalize (.tuple #[rgv Ax X.buf.length cx X.head X.many X.most, .int .i64 0] : Value) = x1y0 at hH ⊢
                      generalize (.slice (some ⟨W7.heap.size, 0, none⟩) 1 1 : Value) = x1y1 at hH ⊢
                      generalize (rgv Ax X.buf.length cx X.head X.many X.most : Value) = x1y2 at hH ⊢
                      generalize (.pointer (some ⟨u1.heap.size, 0, none⟩) : Value) = x1y3 at hH ⊢
                      exact key u7 x1y0 x1y1 x1y2 x1y3 hH
              · rw [if_pos (by kernel_rfl)]
                refine wp_alloc_R 24 rfl rz0 (by kernel_rfl) ?_
                have hbA := ((Below.refl _ _).alloc (Nat.le_refl _) _ : Below W7.heap.size W7 (W7.alloc (.cells rz0 24)))
                have al := Held.new W7 24 rz0
                have lal := hS.size
                replace hS := Below.step hS hbA
                clear hbA
                generalize W7.alloc (.cells rz0 24) = u8 at *
                refine hK.out _ _ hS (fun _ => ?_)
                clear hK K
                (try simp only [Act.put, List.getElem_toArray, List.getElem_cons_succ, List.getElem_cons_zero, List.setIfInBounds_toArray, List.set_cons_zero, List.set_cons_succ])
                refine wpAnyH_ready (rs := [5]) (by kernel_rfl) (by simp) ?_
                refine (AllReadyH.cons rfl (fun K hK => ?_) AllReadyH.nil)
                · rw [if_pos (by kernel_rfl)]
                  refine wp_build1R rfl rfl ?_
                  have hbA := ((Below.refl _ _).alloc (Nat.le_refl _) _ : Below u8.heap.size u8 (u8.alloc (.cells #[.int .i64 xa, .int .i64 xb] 33)))
                  replace al := Held.below al hbA
                  have hpB := one2_at (t := 33) (w := u8) xa xb
                  replace hS := Below.step hS hbA
                  clear hbA
                  generalize u8.alloc (.cells #[.int .i64 xa, .int .i64 xb] 33) = u9 at *
                  refine hK.out _ _ hS (fun _ => ?_)
                  clear hK K
                  (try simp only [Act.put, List.getElem_toArray, List.getElem_cons_succ, List.getElem_cons_zero, List.setIfInBounds_toArray, List.set_cons_zero, List.set_cons_succ])
                  refine wpAnyH_ready (rs := [6]) (by kernel_rfl) (by simp) ?_
                  refine (AllReadyH.cons rfl (fun K hK => ?_) AllReadyH.nil)
                  · go_simp
                    go_at_call 11
                    (with_reducible refine (push_c (l := [(xa, xb)]) (n := 1) HPU.out rfl HLN.out.1 (by decide) c9 1 _ (v9.read.below hS).p hpB).mono ?_)
                    rintro _ u10 ⟨vx, rfl, ⟨Ax, cx, rfl, ho⟩, hb10⟩
                    replace al := Held.below al hb10
                    replace hpB := pat_later hpB hb10
                    replace hS := Below.step hS hb10
                    (repeat (first | go_skip | go_guarded | go_step | go_upon))
                    refine hK.out _ _ hS (fun _ => ?_)
                    clear hK K
                    (try simp only [Act.put, List.getElem_toArray, List.getElem_cons_succ, List.getElem_cons_zero, List.setIfInBounds_toArray, List.set_cons_zero, List.set_cons_succ])
                    refine wpAnyH_takeS HNS (i := 7) (v := .tuple #[rgv Ax X.buf.length cx X.head X.many X.most, .int .i64 0]) rfl (by kernel_rfl) (by kernel_rfl) (fun _ _ _ h => h) (Or.inl ⟨by kernel_rfl, fun W hW => ?_⟩) hS ?_
                    · go_simp
                    simp only [Act.put, List.getElem_toArray, List.getElem_cons_succ, List.getElem_cons_zero, List.setIfInBounds_toArray, List.set_cons_zero, List.set_cons_succ]
                    refine wpAnyH_takeS HNS (i := 8) (v := rgv Ax X.buf.length cx X.head X.many X.most) rfl (by kernel_rfl) (by kernel_rfl) (fun _ _ _ h => h) (Or.inl ⟨by kernel_rfl, fun W hW => ?_⟩) hS ?_
                    · go_simp
                    simp only [Act.put, List.getElem_toArray, List.getElem_cons_succ, List.getElem_cons_zero, List.setIfInBounds_toArray, List.set_cons_zero, List.set_cons_succ]
                    refine wpAnyH_takeS HNS (i := 9) (v := .int .i64 0) rfl (by kernel_rfl) (by kernel_rfl) (fun _ _ _ h => h) (Or.inl ⟨by kernel_rfl, fun W hW => ?_⟩) hS ?_
                    · go_simp
                    simp only [Act.put, List.getElem_toArray, List.getElem_cons_succ, List.getElem_cons_zero, List.setIfInBounds_toArray, List.set_cons_zero, List.set_cons_succ]
                    refine wpAnyH_ready (rs := [11]) (by kernel_rfl) (by simp) ?_
                    refine (AllReadyH.cons rfl (fun K hK => ?_) AllReadyH.nil)
                    · rw [if_pos (by kernel_rfl)]
                      refine wp_store_row 24 _ _ rfl _ (rgc Ax X.buf.length cx X.head X.many X.most) (by rfl) (by rfl) _ _ al (by kernel_rfl) (by rfl) (by simp [Value.oneCell']) ?_
                      have vv := rgo_set (r := X) al ho
                      replace hS := below_setRow hS lal (rgc Ax X.buf.length cx X.head X.many X.most)
                      generalize World.setRow _ _ (rgc Ax X.buf.length cx X.head X.many X.most) = u11 at *
                      refine hK.out _ _ hS (fun _ => ?_)
                      clear hK K
                      (try simp only [Act.put, List.getElem_toArray, List.getElem_cons_succ, List.getElem_cons_zero, List.setIfInBounds_toArray, List.set_cons_zero, List.set_cons_succ])
                      have hH : Below W7.heap.size W7 u11 ∧ (∃ A c g, (rgv Ax X.buf.length cx X.head X.many X.most : Value) = rgv A X.buf.length c X.head X.many X.most ∧ (.pointer (some ⟨W7.heap.size, 0, none⟩) : Value) = .pointer (some ⟨g, 0, none⟩) ∧ RgO u11 g X A c) := And.intro hS ⟨_, _, _, rfl, rfl, vv⟩
                      generalize (.tuple #[rgv Ax X.buf.length cx X.head X.many X.most, .int .i64 0] : Value) = x1y0 at hH ⊢
                      generalize (.slice (some ⟨u8.heap.size, 0, none⟩) 1 1 : Value) = x1y1 at hH ⊢
                      generalize (rgv Ax X.buf.length cx X.head X.many X.most : Value) = x1y2 at hH ⊢
                      generalize (.pointer (some ⟨W7.heap.size, 0, none⟩) : Value) = x1y3 at hH ⊢
                      exact key u11 x1y0 x1y1 x1y2 x1y3 hH
            case key =>
              intro Wj1 x1y0 x1y1 x1y2 x1y3 hH
              obtain ⟨hS, A8, c8, g8, rfl, rfl, v8⟩ := hH
              refine wpAnyH_takeS HNS (i := 12) (v := .int .i64 0) rfl (by kernel_rfl) (by kernel_rfl) (fun _ _ _ h => h) (Or.inl ⟨by kernel_rfl, fun W hW => ?_⟩) hS ?_
              · go_simp
              simp only [Act.put, List.getElem_toArray, List.getElem_cons_succ, List.getElem_cons_zero, List.setIfInBounds_toArray, List.set_cons_zero, List.set_cons_succ]
              refine wpAnyH_done (by kernel_rfl) ?_ _
              replace y0 := (hS.cell (p := ⟨b2, _, none⟩) hb2w).trans y0
              replace y1 := (hS.cell (p := ⟨b2, _, none⟩) hb2w).trans y1
              replace hb2w := Nat.lt_of_lt_of_le hb2w hS.size
              have hz := Below.step hWr hS
              replace v9 := v9.below hS
              clear hWr
              have hWr := hz
              clear hz hS
              go_upto_region 9 with (first
                | (guard_target = wpList _ _ _ (Oper.mk (some 52) _ _ _ _ none :: _) _ _; refine wpList_load_row rfl 24 _ rfl g8 rfl _ _ _ _ v8.x Try.underlying24 rfl (by kernel_rfl) ?_)
                | (go_at_call 15; go_loud ((with_reducible refine (steal_c HST.out HLN.out.2.1 c8 _ v8.read.p).mono ?_); rintro _ u ⟨v, rfl, ⟨A10, c10, rfl, ho⟩, hb⟩; have hn := (Held.new u 24 rz0).alloc (.cells rf0 33); have hm := Held.new1 u (.cells rz0 24) 33 rf0))
                | (guard_target = wpList _ _ _ (Oper.mk _ (Op.store 24 (.tmp 10) _) _ _ _ none :: _) _ _; refine wpList_store_row rfl 24 _ _ rfl u.heap.size (rgc A10 S.buf.length c10 S.head S.many S.most) rfl rfl _ _ hn (by kernel_rfl) rfl (by simp [Value.oneCell']) ?_; have hm2 := held_row hm (Nat.succ_ne_self u.heap.size) (rgc A10 S.buf.length c10 S.head S.many S.most))
                | (guard_target = wpList _ _ _ (Oper.mk _ (Op.store 33 (.tmp 11) _) _ _ _ none :: _) _ _; refine wpList_store_row rfl 33 _ _ rfl (u.heap.size + 1) (rfc (xa, xb)) rfl rfl _ _ hm2 (by kernel_rfl) rfl (by simp [Value.oneCell']) ?_))
              obtain ⟨v10, rx, hbW⟩ := new_o2 (x := (xa, xb)) hb ho
              clear hb ho hn hm hm2
              replace y0 := (hbW.cell (p := ⟨b2, _, none⟩) hb2w).trans y0
              replace y1 := (hbW.cell (p := ⟨b2, _, none⟩) hb2w).trans y1
              replace hb2w := Nat.lt_of_lt_of_le hb2w hbW.size
              replace v9 := v9.below hbW
              replace v8 := v8.below hbW
              replace hWr := Below.step hWr hbW
              clear hbW
              generalize World.setRow _ (u.heap.size + 1) _ = W8 at *
              generalize u.heap.size + 1 = g11 at *
              generalize u.heap.size = g10 at *
              replace rx : Held W8 g11 33 #[.int .i64 xa, .int .i64 xb] := rx
              have hdr := (Below.refl W8.heap.size W8).drew
              replace y0 := (hdr.cell (p := ⟨b2, _, none⟩) hb2w).trans y0
              replace y1 := (hdr.cell (p := ⟨b2, _, none⟩) hb2w).trans y1
              replace hb2w := Nat.lt_of_lt_of_le hb2w hdr.size
              have hdr := (Below.refl W8.heap.size W8).drew
              replace v9 := v9.below hdr
              replace v8 := v8.below hdr
              replace v10 := v10.below hdr
              replace rx := Held.below rx hdr
              replace hWr := Below.step hWr hdr
              clear hdr
              refine wp_region_held_drew (S := fun W => Below W8.drew.heap.size W8.drew W) (by kernel_rfl) (Below.refl _ _) (fun hS => ?_)
              generalize W8.drew = W9 at *
              show wpAnyH _ _ _ _ _ 27 #[false, false, false, false, false, false, false, false, false, false, false, false, false, false, false, false, false, false, false, false, false, false, false, false, false, false, false] _ _
              refine wpAnyH_begin (by kernel_rfl) (fun HNS => ?_)
              refine wpAnyH_takeS HNS (i := 0) (v := .int .i64 0) rfl (by kernel_rfl) (by kernel_rfl) (fun _ _ _ h => h) (Or.inl ⟨by kernel_rfl, fun W hW => ?_⟩) hS ?_
              · go_simp
              simp only [Act.put, List.getElem_toArray, List.getElem_cons_succ, List.getElem_cons_zero, List.setIfInBounds_toArray, List.set_cons_zero, List.set_cons_succ]
              refine wpAnyH_takeS HNS (i := 1) (v := .bool false) rfl (by kernel_rfl) (by kernel_rfl) (fun _ _ _ h => h) (Or.inl ⟨by kernel_rfl, fun W hW => ?_⟩) hS ?_
              · go_simp
              simp only [Act.put, List.getElem_toArray, List.getElem_cons_succ, List.getElem_cons_zero, List.setIfInBounds_toArray, List.set_cons_zero, List.set_cons_succ]
              refine wpAnyH_takeS HNS (i := 2) (v := .bool false) rfl (by kernel_rfl) (by kernel_rfl) (fun _ _ _ h => h) (Or.inl ⟨by kernel_rfl, fun W hW => ?_⟩) hS ?_
              · go_simp
              simp only [Act.put, List.getElem_toArray, List.getElem_cons_succ, List.getElem_cons_zero, List.setIfInBounds_toArray, List.set_cons_zero, List.set_cons_succ]
              refine wpAnyH_takeS HNS (i := 3) (v := .bool true) rfl (by kernel_rfl) (by kernel_rfl) (fun _ _ _ h => h) (Or.inl ⟨by kernel_rfl, fun W hW => ?_⟩) hS ?_
              · go_simp
              simp only [Act.put, List.getElem_toArray, List.getElem_cons_succ, List.getElem_cons_zero, List.setIfInBounds_toArray, List.set_cons_zero, List.set_cons_succ]
              refine wpAnyH_takeS HNS (i := 4) (v := .bool false) rfl (by kernel_rfl) (by kernel_rfl) (fun _ _ _ h => h) (Or.inl ⟨by kernel_rfl, fun W hW => ?_⟩) hS ?_
              · go_simp
              simp only [Act.put, List.getElem_toArray, List.getElem_cons_succ, List.getElem_cons_zero, List.setIfInBounds_toArray, List.set_cons_zero, List.set_cons_succ]
              refine wpAnyH_takeS HNS (i := 5) (v := .bool false) rfl (by kernel_rfl) (by kernel_rfl) (fun _ _ _ h => h) (Or.inl ⟨by kernel_rfl, fun W hW => ?_⟩) hS ?_
              · go_simp
              simp only [Act.put, List.getElem_toArray, List.getElem_cons_succ, List.getElem_cons_zero, List.setIfInBounds_toArray, List.set_cons_zero, List.set_cons_succ]
              refine wpAnyH_takeS HNS (i := 6) (v := .bool false) rfl (by kernel_rfl) (by kernel_rfl) (fun _ _ _ h => h) (Or.inl ⟨by kernel_rfl, fun W hW => ?_⟩) hS ?_
              · go_simp
              simp only [Act.put, List.getElem_toArray, List.getElem_cons_succ, List.getElem_cons_zero, List.setIfInBounds_toArray, List.set_cons_zero, List.set_cons_succ]
              refine wpAnyH_takeS HNS (i := 7) (v := .agg #[.int .i64 xa, .int .i64 xb]) rfl (by kernel_rfl) (by kernel_rfl) (fun _ _ _ h => h) (Or.inl ⟨by kernel_rfl, fun W hW => ?_⟩) hS ?_
              · (have hz := Held.below rx hW; have z0 := hz.cell 0; have z1 := hz.cell 1; simp at z0 z1; go_simp)
              simp only [Act.put, List.getElem_toArray, List.getElem_cons_succ, List.getElem_cons_zero, List.setIfInBounds_toArray, List.set_cons_zero, List.set_cons_succ]
              refine wpAnyH_takeS HNS (i := 8) (v := .slice (some ⟨b2, off2, none⟩) nl c2) rfl (by kernel_rfl) (by kernel_rfl) (fun _ _ _ h => h) (Or.inl ⟨by kernel_rfl, fun W hW => ?_⟩) hS ?_
              · go_simp
              simp only [Act.put, List.getElem_toArray, List.getElem_cons_succ, List.getElem_cons_zero, List.setIfInBounds_toArray, List.set_cons_zero, List.set_cons_succ]
              refine wpAnyH_takeS HNS (i := 9) (v := .int .i64 (i : Int)) rfl (by kernel_rfl) (by kernel_rfl) (fun _ _ _ h => h) (Or.inl ⟨by kernel_rfl, fun W hW => ?_⟩) hS ?_
              · go_simp
              simp only [Act.put, List.getElem_toArray, List.getElem_cons_succ, List.getElem_cons_zero, List.setIfInBounds_toArray, List.set_cons_zero, List.set_cons_succ]
              refine wpAnyH_takeS HNS (i := 10) (v := .pointer (some ⟨b2, off2 + i * 2, none⟩)) rfl (by kernel_rfl) (by kernel_rfl) (fun _ _ _ h => h) (Or.inl ⟨by kernel_rfl, fun W hW => ?_⟩) hS ?_
              · go_simp
              simp only [Act.put, List.getElem_toArray, List.getElem_cons_succ, List.getElem_cons_zero, List.setIfInBounds_toArray, List.set_cons_zero, List.set_cons_succ]
              refine wpAnyH_takeS HNS (i := 11) (v := .agg #[.int .i64 xa, .int .i64 xb]) rfl (by kernel_rfl) (by kernel_rfl) (fun _ _ _ h => h) (Or.inl ⟨by kernel_rfl, fun W hW => ?_⟩) hS ?_
              · (have z0 := (hW.cell (p := ⟨b2, _, none⟩) hb2w).trans y0; have z1 := (hW.cell (p := ⟨b2, _, none⟩) hb2w).trans y1; go_simp)
              simp only [Act.put, List.getElem_toArray, List.getElem_cons_succ, List.getElem_cons_zero, List.setIfInBounds_toArray, List.set_cons_zero, List.set_cons_succ]
              refine wpAnyH_takeS HNS (i := 12) (v := .bool false) rfl (by kernel_rfl) (by kernel_rfl) (fun _ _ _ h => h) (Or.inl ⟨by kernel_rfl, fun W hW => ?_⟩) hS ?_
              · go_simp
              simp only [Act.put, List.getElem_toArray, List.getElem_cons_succ, List.getElem_cons_zero, List.setIfInBounds_toArray, List.set_cons_zero, List.set_cons_succ]
              refine wpAnyH_takeS HNS (i := 13) (v := .bool false) rfl (by kernel_rfl) (by kernel_rfl) (fun _ _ _ h => h) (Or.inl ⟨by kernel_rfl, fun W hW => ?_⟩) hS ?_
              · go_simp
              simp only [Act.put, List.getElem_toArray, List.getElem_cons_succ, List.getElem_cons_zero, List.setIfInBounds_toArray, List.set_cons_zero, List.set_cons_succ]
              refine wpAnyH_takeS HNS (i := 14) (v := .bool false) rfl (by kernel_rfl) (by kernel_rfl) (fun _ _ _ h => h) (Or.inl ⟨by kernel_rfl, fun W hW => ?_⟩) hS ?_
              · go_simp
              simp only [Act.put, List.getElem_toArray, List.getElem_cons_succ, List.getElem_cons_zero, List.setIfInBounds_toArray, List.set_cons_zero, List.set_cons_succ]
              refine wpAnyH_takeS HNS (i := 15) (v := .pointer (some ⟨g10, 0, none⟩)) rfl (by kernel_rfl) (by kernel_rfl) (fun _ _ _ h => h) (Or.inl ⟨by kernel_rfl, fun W hW => ?_⟩) hS ?_
              · go_simp
              simp only [Act.put, List.getElem_toArray, List.getElem_cons_succ, List.getElem_cons_zero, List.setIfInBounds_toArray, List.set_cons_zero, List.set_cons_succ]
              refine wpAnyH_takeS HNS (i := 16) (v := .slice A10 S.buf.length c10) rfl (by kernel_rfl) (by kernel_rfl) (fun _ _ _ h => h) (Or.inl ⟨by kernel_rfl, fun W hW => ?_⟩) hS ?_
              · (have hz := Held.below v10.x hW; have z0 := hz.cell 0; simp at z0; go_simp)
              simp only [Act.put, List.getElem_toArray, List.getElem_cons_succ, List.getElem_cons_zero, List.setIfInBounds_toArray, List.set_cons_zero, List.set_cons_succ]
              refine wpAnyH_takeS HNS (i := 17) (v := .int .i64 (S.buf.length : Nat)) rfl (by kernel_rfl) (by kernel_rfl) (fun _ _ _ h => h) (Or.inl ⟨by kernel_rfl, fun W hW => ?_⟩) hS ?_
              · go_simp
              simp only [Act.put, List.getElem_toArray, List.getElem_cons_succ, List.getElem_cons_zero, List.setIfInBounds_toArray, List.set_cons_zero, List.set_cons_succ]
              refine wpAnyH_takeS HNS (i := 18) (v := .int .i64 (n : Int)) rfl (by kernel_rfl) (by kernel_rfl) (fun _ _ _ h => h) (Or.inl ⟨by kernel_rfl, fun W hW => ?_⟩) hS ?_
              · go_simp
              simp only [Act.put, List.getElem_toArray, List.getElem_cons_succ, List.getElem_cons_zero, List.setIfInBounds_toArray, List.set_cons_zero, List.set_cons_succ]
              refine wpAnyH_takeS HNS (i := 19) (v := .bool false) rfl (by kernel_rfl) (by kernel_rfl) (fun _ _ _ h => h) (Or.inl ⟨by kernel_rfl, fun W hW => ?_⟩) hS ?_
              · (have k1 := HSF.out.2.2.1; have k2 : ((S.buf.length : Int) != (n : Int)) = false := (by simp; omega); clear k1; go_simp)
              simp only [Act.put, List.getElem_toArray, List.getElem_cons_succ, List.getElem_cons_zero, List.setIfInBounds_toArray, List.set_cons_zero, List.set_cons_succ]
              refine wpAnyH_takeS HNS (i := 20) (v := .bool false) rfl (by kernel_rfl) (by kernel_rfl) (fun _ _ _ h => h) (Or.inl ⟨by kernel_rfl, fun W hW => ?_⟩) hS ?_
              · go_simp
              simp only [Act.put, List.getElem_toArray, List.getElem_cons_succ, List.getElem_cons_zero, List.setIfInBounds_toArray, List.set_cons_zero, List.set_cons_succ]
              refine wpAnyH_takeS HNS (i := 21) (v := .bool false) rfl (by kernel_rfl) (by kernel_rfl) (fun _ _ _ h => h) (Or.inl ⟨by kernel_rfl, fun W hW => ?_⟩) hS ?_
              · go_simp
              simp only [Act.put, List.getElem_toArray, List.getElem_cons_succ, List.getElem_cons_zero, List.setIfInBounds_toArray, List.set_cons_zero, List.set_cons_succ]
              refine wpAnyH_takeS HNS (i := 22) (v := .agg (rgc A10 S.buf.length c10 S.head S.many S.most)) rfl (by kernel_rfl) (by kernel_rfl) (fun _ _ _ h => h) (Or.inl ⟨by kernel_rfl, fun W hW => ?_⟩) hS ?_
              · (have hz := Held.below v10.x hW; have z0 := hz.cell 0; have z1 := hz.cell 1; have z2 := hz.cell 2; have z3 := hz.cell 3; simp at z0 z1 z2 z3; go_simp)
              simp only [Act.put, List.getElem_toArray, List.getElem_cons_succ, List.getElem_cons_zero, List.setIfInBounds_toArray, List.set_cons_zero, List.set_cons_succ]
              refine wpAnyH_ready (rs := [23]) (by kernel_rfl) (by simp) ?_
              refine (AllReadyH.cons rfl (fun K hK => ?_) AllReadyH.nil)
              · go_simp
                go_at_call 23
                (with_reducible refine (items_c (n := 0) HSF.out.2.1 rfl c10 _ (v10.read.below hS).p).mono ?_)
                rintro _ u12 ⟨Ai12, ci12, rfl, wi12, hb12⟩
                replace hS := Below.step hS hb12
                (repeat (first | go_skip | go_guarded | go_step | go_upon))
                refine hK.out _ _ hS (fun _ => ?_)
                clear hK K
                (try simp only [Act.put, List.getElem_toArray, List.getElem_cons_succ, List.getElem_cons_zero, List.setIfInBounds_toArray, List.set_cons_zero, List.set_cons_succ])
                refine wpAnyH_takeS HNS (i := 24) (v := .int .i64 (0 : Nat)) rfl (by kernel_rfl) (by kernel_rfl) (fun _ _ _ h => h) (Or.inl ⟨by kernel_rfl, fun W hW => ?_⟩) hS ?_
                · go_simp
                simp only [Act.put, List.getElem_toArray, List.getElem_cons_succ, List.getElem_cons_zero, List.setIfInBounds_toArray, List.set_cons_zero, List.set_cons_succ]
                refine wpAnyH_takeS HNS (i := 25) (v := .bool false) rfl (by kernel_rfl) (by kernel_rfl) (fun _ _ _ h => h) (Or.inl ⟨by kernel_rfl, fun W hW => ?_⟩) hS ?_
                · go_simp
                simp only [Act.put, List.getElem_toArray, List.getElem_cons_succ, List.getElem_cons_zero, List.setIfInBounds_toArray, List.set_cons_zero, List.set_cons_succ]
                refine wpAnyH_takeS HNS (i := 26) (v := .bool false) rfl (by kernel_rfl) (by kernel_rfl) (fun _ _ _ h => h) (Or.inl ⟨by kernel_rfl, fun W hW => ?_⟩) hS ?_
                · go_simp
                simp only [Act.put, List.getElem_toArray, List.getElem_cons_succ, List.getElem_cons_zero, List.setIfInBounds_toArray, List.set_cons_zero, List.set_cons_succ]
                refine wpAnyH_done (by kernel_rfl) ?_ _
                have hz := Below.step hWr hS
                replace v9 := v9.below hS
                replace v8 := v8.below hS
                replace v10 := v10.below hS
                replace rx := Held.below rx hS
                clear hWr
                have hWr := hz
                clear hz hS
                have x9 := v9.x
                go_wp2_with (first
                  | (guard_target = wpList _ _ _ (Oper.mk (some 84) _ _ _ _ none :: _) _ _; refine wpList_load_row rfl 24 _ rfl g10 rfl _ _ _ _ v10.x Try.underlying24 rfl (by kernel_rfl) ?_)
                  | (guard_target = wpList _ _ _ (Oper.mk _ (Op.store 24 (.tmp 5) _) _ _ _ none :: _) _ _; refine wpList_store_row rfl 24 _ _ rfl g5 (rgc A10 S.buf.length c10 S.head S.many S.most) rfl rfl _ _ x9 (by kernel_rfl) rfl (by simp [Value.oneCell']) ?_))
                have v5' := rgo_set (r := S) x9 v10.o
                go_roundw
                case rel => exact ⟨i + 1, S, A10, c10, by go_num, by omega, v5', HSF.out, below_setRow hWr HG5.out _⟩
                case measure => simp [intOf]; omega
          · obtain rfl : i = nl := by omega
            have hend : decide ((i : Int) < i) = false := by simp
            have HM := Lib.hid r1
            clear r1 r2 r3 r4 hlt hi
            go_wp2_with (first
              | (guard_target = wpList _ _ _ (Oper.mk (some 87) _ _ _ _ _ :: _) _ _; refine wpList_doneR rfl ?_; refine wpList_load_row rfl 24 _ rfl g5 rfl _ _ _ _ v9.x Try.underlying24 rfl (by kernel_rfl) ?_)
              | (go_at_call 25; go_loud ((with_reducible refine (may_c HM.out _ _ _).mono ?_); rintro _ um ⟨rfl, hbm⟩; replace v9 := v9.below hbm; replace hWr := Below.step hWr hbm)))
            go_ret
            exact ⟨rfl, hWr⟩
end Go.Proofs.Ythmnaclmbglkdaa.ringRound
