/- Layer 11: the document's Push. -/
import Derived.Test.YthmnaclmbglkdaaNo
import Derived.Deep.MidRow
import Derived.Deep.RegionHeld3
namespace Go.Proofs.Ythmnaclmbglkdaa
set_option linter.unusedVariables false
set_option linter.unusedSimpArgs false
open Go.RowKit Go.ChangeShapes Go.WideShapes Go.ChangeAt Go.Sort

/-- A ring that can be read. -/
def RingR (w : World) (v : Value) (r : Rng) : Prop := ∃ A c, v = rgv A r.buf.length c r.head r.many r.most ∧ PAt w w.heap.size A r.buf
theorem RingO.read {w : World} {B : Nat} {v : Value} {r : Rng} (h : RingO w B v r) : RingR w v r := by
  obtain ⟨A, c, e, ho⟩ := h
  exact ⟨A, c, e, own2_at ho⟩
def PushQ (w : World) (R : Rng × Int) (e : Ending) (w' : World) : Prop := ∃ v, e = .returned (.tuple #[v, .int .i64 R.2]) ∧ RingR w' v R.1 ∧ Below w.heap.size w w'
theorem pat_row {w : World} {B g : Nat} {A : Option Addr} {l : List P2} (h : PAt w B A l) (hg : 0 < l.length → ∀ b off, A = some ⟨b, off, none⟩ → b ≠ g) (cs : Array Value) : PAt (w.setRow g cs) (w.setRow g cs).heap.size A l := fun h0 => by
  obtain ⟨b, off, e, hb, hc⟩ := h h0
  have hn := row_far0 w g cs b (hg h0 b off e)
  have h1 := (World.cell?_of_block (a := ⟨b, _, none⟩) hn).trans (hc 0 h0).1
  exact ⟨b, off, e, block_lt_of_cell h1, fun j hj => ⟨(World.cell?_of_block (a := ⟨b, _, none⟩) hn).trans (hc j hj).1, (World.cell?_of_block (a := ⟨b, _, none⟩) hn).trans (hc j hj).2⟩⟩
/-- A round begins: the ring so far in its block. -/
structure PuS (w : World) (R : Rng) (A9 : Option Addr) (c9 : Nat) (W : World) : Prop where
  g : Held W w.heap.size 24 (rgc A9 R.buf.length c9 R.head R.many R.most)
  g4 : Held W (w.heap.size + 1) 24 rz0
  p : PAt W W.heap.size A9 R.buf
  ne : ∀ b off, A9 = some ⟨b, off, none⟩ → b ≠ w.heap.size ∧ b ≠ w.heap.size + 1
  b : Below w.heap.size w W
theorem PuS.drew {w : World} {R : Rng} {A9 : Option Addr} {c9 : Nat} {W : World} (h : PuS w R A9 c9 W) : PuS w R A9 c9 W.drew := ⟨h.g, h.g4, h.p, h.ne, h.b.drew⟩
theorem PuS.below {w : World} {R : Rng} {A9 : Option Addr} {c9 : Nat} {W W' : World} (h : PuS w R A9 c9 W) (hb : Below W.heap.size W W') : PuS w R A9 c9 W' := ⟨h.g.below hb, h.g4.below hb, (h.p.below hb (Nat.le_refl _)).more hb.size, h.ne, Below.step h.b hb⟩
theorem PuS.start {w : World} {r : Rng} {A : Option Addr} {B c : Nat} (hp : PAt w B A r.buf) (hB : B ≤ w.heap.size) : PuS w r A c ((w.alloc (.cells (rgc A r.buf.length c r.head r.many r.most) 24)).alloc (.cells rz0 24)) ∨ r.buf = [] := by
  by_cases h0 : 0 < r.buf.length
  · left
    have hb := below2 w (.cells (rgc A r.buf.length c r.head r.many r.most) 24) (.cells rz0 24)
    obtain ⟨b, off, e, hlt, hc⟩ := hp h0
    exact ⟨(Held.new w 24 _).alloc _, Held.new1 w _ 24 rz0, (hp.below hb hB).more (Nat.le_trans hB hb.size), fun b' off' e' => by rw [e] at e'; cases e'; omega, hb⟩
  · right
    exact List.eq_nil_of_length_eq_zero (by omega)
set_option maxHeartbeats 2000000 in
set_option maxRecDepth 100000 in
theorem rpush_no {A A2 : Option Addr} {r : Rng} {l : List P2} {B : Nat} (c c2 : Nat) (w : World) (hp : PAt w B A r.buf) (hB : B ≤ w.heap.size) (hl : l.length ≤ 1000) (h : mayR r = false ∨ (mayR r = true ∧ r.most < r.many + l.length)) :
    Calls Try.prog 12 #[rgv A r.buf.length c r.head r.many r.most, .slice A2 l.length c2] w (PushQ w (pushR r l)) := by
  have hb := below2 w (.cells (rgc A r.buf.length c r.head r.many r.most) 24) (.cells rz0 24)
  have g2 := (Held.new w 24 (rgc A r.buf.length c r.head r.many r.most)).alloc (.cells rz0 24)
  have g4 := Held.new1 w (.cells (rgc A r.buf.length c r.head r.many r.most) 24) 24 rz0
  have hpr : pushR r l = (r, if mayR r = false then 1 else 110) := by
    unfold pushR
    rcases h with h | ⟨h1, h2⟩
    · rw [if_pos h, if_pos h]
    · rw [if_neg (by rw [h1]; decide), if_pos h2, if_neg (by rw [h1]; decide)]
  rw [hpr]
  have CM := rmayr_any A r.buf.length c r.head r.many r.most
  have hfit : mayR r = true → r.many ≤ 1024 ∧ 0 ≤ r.many := fun hm => by
    obtain ⟨⟨a1, a2⟩, ⟨b1, b2⟩, ⟨c1, c2⟩, d1, d2⟩ := (mayR_iff r).1 hm
    omega
  have HFIN : ∀ u, Below w.heap.size w u → Hid (RingR (u.setRow (w.heap.size + 1) (rgc A r.buf.length c r.head r.many r.most)) (rgv A r.buf.length c r.head r.many r.most) r) := fun u hbu => Lib.hid ⟨A, c, rfl, pat_row ((hp.below hbu hB).more (Nat.le_trans hB hbu.size)) (fun h0 b off e => by
    obtain ⟨b', off', e', hlt, _⟩ := hp h0
    rw [e] at e'
    cases e'
    omega) _⟩
  have hcs : (mayN r.buf.length r.head r.many r.most = false ∧ (if mayR r = false then (1 : Int) else 110) = 1) ∨ (mayN r.buf.length r.head r.many r.most = true ∧ decide (r.most < r.many + (l.length : Int)) = true ∧ (if mayR r = false then (1 : Int) else 110) = 110 ∧ r.many ≤ 1024 ∧ 0 ≤ r.many) := by
    rcases h with h | ⟨h1, h2⟩
    · exact .inl ⟨h, if_pos h⟩
    · exact .inr ⟨h1, decide_eq_true h2, if_neg (by rw [h1]; decide), hfit h1⟩
  have HB2 := Lib.hid hb
  have hlI : (l.length : Int) ≤ 1000 := by omega
  generalize (if mayR r = false then (1 : Int) else 110) = E at *
  clear hpr hfit h hp hB hl
  rcases hcs with ⟨h1, rfl⟩ | ⟨h1, h2, rfl, h3, h4⟩
  · rw [h1] at CM
    clear h1
    go_enter Try.func12, Try.ntmps12
    go_upto_region 1 with (fail)
    generalize (w.alloc (.cells (rgc A r.buf.length c r.head r.many r.most) 24)).alloc (.cells rz0 24) = W0 at *
    have x0 := g2.cell 0
    have x1 := g2.cell 1
    have x2 := g2.cell 2
    have x3 := g2.cell 3
    simp at x0 x1 x2 x3
    go_upto_region 2 with (go_at_call 26; (with_reducible refine (CM.go _).mono ?_); rintro _ u ⟨rfl, hbu⟩)
    have k2 := g2.below hbu
    have k4 := g4.below hbu
    have HF := HFIN u (Below.step HB2.out hbu)
    go_wp2_with (first
      | (guard_target = wpList _ _ _ (Oper.mk _ (Op.load 24 (.tmp 2)) _ _ _ none :: _) _ _; refine wpList_load_row rfl 24 _ rfl w.heap.size rfl _ _ _ _ k2 Try.underlying24 rfl (by kernel_rfl) ?_)
      | (guard_target = wpList _ _ _ (Oper.mk _ (Op.store 24 (.tmp 4) _) _ _ _ none :: _) _ _; refine wpList_store_row rfl 24 _ _ rfl (w.heap.size + 1) (rgc A r.buf.length c r.head r.many r.most) rfl rfl _ _ k4 (by kernel_rfl) rfl (by simp [Value.oneCell']) ?_))
    exact bodyPost_ret (results_ct0 rfl _ _ rfl rfl (load_ring (held_rowSelf k4 (rgc A r.buf.length c r.head r.many r.most)) rfl)) rfl ⟨_, rfl, HF.out, below_setRow (Below.step HB2.out hbu) (Nat.le_succ _) _⟩
  · rw [h1] at CM
    clear h1
    go_enter Try.func12, Try.ntmps12
    go_upto_region 1 with (fail)
    generalize (w.alloc (.cells (rgc A r.buf.length c r.head r.many r.most) 24)).alloc (.cells rz0 24) = W0 at *
    have x0 := g2.cell 0
    have x1 := g2.cell 1
    have x2 := g2.cell 2
    have x3 := g2.cell 3
    simp at x0 x1 x2 x3
    go_upto_region 3 with (go_at_call 26; (with_reducible refine (CM.go _).mono ?_); rintro _ u ⟨rfl, hbu⟩)
    have k2 := g2.below hbu
    have k4 := g4.below hbu
    have x2 := k2.cell 2
    have x3 := k2.cell 3
    simp at x2 x3
    have HF := HFIN u (Below.step HB2.out hbu)
    go_wp2_with (first
      | (guard_target = wpList _ _ _ (Oper.mk _ (Op.load 24 (.tmp 2)) _ _ _ none :: _) _ _; refine wpList_load_row rfl 24 _ rfl w.heap.size rfl _ _ _ _ k2 Try.underlying24 rfl (by kernel_rfl) ?_)
      | (guard_target = wpList _ _ _ (Oper.mk _ (Op.store 24 (.tmp 4) _) _ _ _ none :: _) _ _; refine wpList_store_row rfl 24 _ _ rfl (w.heap.size + 1) (rgc A r.buf.length c r.head r.many r.most) rfl rfl _ _ k4 (by kernel_rfl) rfl (by simp [Value.oneCell']) ?_))
    exact bodyPost_ret (results_ct0 rfl _ _ rfl rfl (load_ring (held_rowSelf k4 (rgc A r.buf.length c r.head r.many r.most)) rfl)) rfl ⟨_, rfl, HF.out, below_setRow (Below.step HB2.out hbu) (Nat.le_succ _) _⟩
set_option maxHeartbeats 4000000 in
set_option maxRecDepth 100000 in
theorem rpush_yes {A A2 : Option Addr} {r : Rng} {l : List P2} {B : Nat} (c c2 : Nat) (w : World) (hp : PAt w B A r.buf) (hlp : PAt w B A2 l) (hB : B ≤ w.heap.size) (hl : l.length ≤ 1000) (hmay : mayR r = true) (hfit : r.many + l.length ≤ r.most) :
    Calls Try.prog 12 #[rgv A r.buf.length c r.head r.many r.most, .slice A2 l.length c2] w (PushQ w (pushR r l)) := by
  have hpr : pushR r l = (manyR r l, 0) := by
    unfold pushR
    rw [if_neg (by rw [hmay]; decide), if_neg (by omega)]
  rw [hpr]
  have hb := below2 w (.cells (rgc A r.buf.length c r.head r.many r.most) 24) (.cells rz0 24)
  have hst : PuS w r A c ((w.alloc (.cells (rgc A r.buf.length c r.head r.many r.most) 24)).alloc (.cells rz0 24)) := by
    rcases PuS.start (c := c) hp hB with h | h
    · exact h
    · have := ((mayR_iff r).1 hmay).2.1.1
      rw [h] at this
      simp at this
  have CM := rmayr_any A r.buf.length c r.head r.many r.most
  rw [show mayN r.buf.length r.head r.many r.most = true from hmay] at CM
  obtain ⟨⟨a1, a2⟩, ⟨b1, b2⟩, ⟨c1, c2'⟩, d1, d2⟩ := (mayR_iff r).1 hmay
  have hm1 : r.many ≤ 1024 := by omega
  have hlI : (l.length : Int) ≤ 1000 := by omega
  have hno : decide (r.most < r.many + (l.length : Int)) = false := decide_eq_false (by omega)
  have HOK := Lib.hid (And.intro hmay hfit)
  have HLP := Lib.hid (fun W (hbW : Below w.heap.size w W) => hlp.below hbW hB)
  have HB := Lib.hid hB
  have HST := Lib.hid hst
  clear hpr hp hlp hB hl hmay hfit hb a1 a2 b1 b2 c1 c2' d2
  go_enter Try.func12, Try.ntmps12
  go_upto_region 1 with (fail)
  generalize (w.alloc (.cells (rgc A r.buf.length c r.head r.many r.most) 24)).alloc (.cells rz0 24) = W0 at *
  have x0 := hst.g.cell 0
  have x1 := hst.g.cell 1
  have x2 := hst.g.cell 2
  have x3 := hst.g.cell 3
  simp at x0 x1 x2 x3
  go_upto_region 3 with (go_at_call 26; (with_reducible refine (CM.go _).mono ?_); rintro _ u ⟨rfl, hbu⟩)
  have HP := Lib.hid (hst.below hbu)
  have x2 := HP.out.g.cell 2
  have x3 := HP.out.g.cell 3
  simp at x2 x3
  clear hst hbu x0 x1 HST CM
  go_wp2_with fail
  go_loopw [6] (fun iv wr => ∃ (i : Nat) (A9 : Option Addr) (c9 : Nat), iv = .int .i64 i ∧ i ≤ l.length ∧ PuS w (manyR r (l.take i)) A9 c9 wr) (fun iv _ => l.length - (intOf iv).toNat)
  case atStart => exact ⟨0, A, c, rfl, Nat.zero_le _, HP.out⟩
  case round =>
    obtain ⟨i, A9, c9, rfl, hi, hS0⟩ := hrel
    by_cases hlt : i < l.length
    · have hlt2 : (i : Int) < l.length := by omega
      have hi0 : (0 : Int) ≤ i := Int.natCast_nonneg i
      obtain ⟨gl, ol, rfl, hgl, hcl⟩ := HLP.out w (Below.refl _ _) (by omega)
      obtain ⟨y0, y1⟩ := hcl i hlt
      replace hgl := Nat.lt_of_lt_of_le hgl HB.out
      obtain ⟨q1, q2, q3, q4, _, _⟩ := many_ok (l.take i) HOK.out.1 (by rw [List.length_take]; have := HOK.out.2; omega)
      have hfit : (manyR r (l.take i)).many < (manyR r (l.take i)).most := by
        rw [q3, q4, List.length_take]
        have := HOK.out.2
        omega
      have hnr : manyR r (l.take (i + 1)) = oneR (manyR r (l.take i)) l[i] := by rw [List.take_succ_eq_append_getElem hlt, many_append]; rfl
      have HNRE := Lib.hid hnr
      clear hcl q2 q3 q4 hnr
      generalize l[i] = x at *
      obtain ⟨xa, xb⟩ := x
      simp only at y0 y1
      generalize manyR r (l.take i) = RR at *
      generalize hNR : oneR RR (xa, xb) = NR at *
      have HNR := Lib.hid hNR
      have C1 := Lib.hid (rone_any c9 (xa, xb) wr.drew hS0.drew.p (Nat.le_refl _) q1 hfit)
      have hS3 := hS0.drew
      clear hNR hS0 q1 hfit x2 x3
      go_upto_region 8 with (fail)
      refine wp_region_held_drew (S := fun W => Below w.heap.size w W) (by kernel_rfl) hS3.b (fun hS => ?_)
      generalize wr.drew = W5 at *
      show wpAnyH _ _ _ _ _ 7 #[false, false, false, false, false, false, false] _ _
      refine wpAnyH_take (i := 1) (v := .slice (some ⟨gl, ol, none⟩) l.length c2) rfl (by kernel_rfl) (by kernel_rfl) (by kernel_rfl) (fun _ _ _ h => h) (Or.inl ⟨by rfl, fun W hW => ?_⟩) hS ?_
      · go_simp
      simp only [Act.put, List.getElem_toArray, List.getElem_cons_succ, List.getElem_cons_zero, List.setIfInBounds_toArray, List.set_cons_zero, List.set_cons_succ]
      refine wpAnyH_take (i := 2) (v := .int .i64 i) rfl (by kernel_rfl) (by kernel_rfl) (by kernel_rfl) (fun _ _ _ h => h) (Or.inl ⟨by rfl, fun W hW => ?_⟩) hS ?_
      · go_simp
      simp only [Act.put, List.getElem_toArray, List.getElem_cons_succ, List.getElem_cons_zero, List.setIfInBounds_toArray, List.set_cons_zero, List.set_cons_succ]
      refine wpAnyH_take (i := 3) (v := .pointer (some ⟨gl, ol + i * 2, none⟩)) rfl (by kernel_rfl) (by kernel_rfl) (by kernel_rfl) (fun _ _ _ h => h) (Or.inl ⟨by rfl, fun W hW => ?_⟩) hS ?_
      · go_simp
      simp only [Act.put, List.getElem_toArray, List.getElem_cons_succ, List.getElem_cons_zero, List.setIfInBounds_toArray, List.set_cons_zero, List.set_cons_succ]
      refine wpAnyH_take (i := 4) (v := .agg #[.int .i64 xa, .int .i64 xb]) rfl (by kernel_rfl) (by kernel_rfl) (by kernel_rfl) (fun _ _ _ h => h) (Or.inl ⟨by rfl, fun W hW => ?_⟩) hS ?_
      · (have q0 := (hW.cell (p := ⟨gl, _, none⟩) hgl).trans y0; have q1 := (hW.cell (p := ⟨gl, _, none⟩) hgl).trans y1; go_simp)
      simp only [Act.put, List.getElem_toArray, List.getElem_cons_succ, List.getElem_cons_zero, List.setIfInBounds_toArray, List.set_cons_zero, List.set_cons_succ]
      refine wpAnyH_ready (rs := [0]) (by kernel_rfl) (by simp) ?_
      refine (AllReadyH.cons rfl (fun K hK => ?_) AllReadyH.nil)
      · rw [if_pos (by rfl)]
        refine wp_load_row 24 _ rfl w.heap.size rfl _ _ _ _ hS3.g Try.underlying24 rfl (by kernel_rfl) ?_
        refine hK.out _ _ hS (fun _ => ?_)
        clear hK K
        (try simp only [Act.put, List.getElem_toArray, List.getElem_cons_succ, List.getElem_cons_zero, List.setIfInBounds_toArray, List.set_cons_zero, List.set_cons_succ])
        refine wpAnyH_ready (rs := [5]) (by kernel_rfl) (by simp) ?_
        refine (AllReadyH.cons rfl (fun K hK => ?_) AllReadyH.nil)
        · go_simp
          go_at_call 29
          (with_reducible refine C1.out.mono ?_)
          rintro _ u ⟨v, rfl, ⟨A8, c8, rfl, hown⟩, hbu⟩
          rw [HNR.out] at hown ⊢
          replace hS := Below.step hS hbu
          have hgu := hS3.g.below hbu
          have hg4 := hS3.g4.below hbu
          have hsz := hS3.g4.lt
          (repeat (first | go_skip | go_guarded | go_step | go_upon))
          refine hK.out _ _ hS (fun _ => ?_)
          clear hK K
          (try simp only [Act.put, List.getElem_toArray, List.getElem_cons_succ, List.getElem_cons_zero, List.setIfInBounds_toArray, List.set_cons_zero, List.set_cons_succ])
          refine wpAnyH_ready (rs := [6]) (by kernel_rfl) (by simp) ?_
          refine (AllReadyH.cons rfl (fun K hK => ?_) AllReadyH.nil)
          · rw [if_pos (by rfl)]
            refine wp_store_row 24 _ _ rfl _ (rgc A8 NR.buf.length c8 NR.head NR.many NR.most) (by rfl) (by rfl) _ _ hgu (by kernel_rfl) (by rfl) (by simp [Value.oneCell']) ?_
            have hb9 := below_setRow hS (Nat.le_refl _) (rgc A8 NR.buf.length c8 NR.head NR.many NR.most)
            replace hS := hb9
            refine hK.out _ _ hS (fun _ => ?_)
            clear hK K
            (try simp only [Act.put, List.getElem_toArray, List.getElem_cons_succ, List.getElem_cons_zero, List.setIfInBounds_toArray, List.set_cons_zero, List.set_cons_succ])
            refine wpAnyH_done (by kernel_rfl) ?_ _
            (repeat (first | go_skip | go_guarded | go_step | go_upon))
            go_roundw
            case rel =>
              refine ⟨i + 1, A8, c8, by go_num, by omega, ?_⟩
              rw [HNRE.out]
              have hne : ∀ b off, A8 = some ⟨b, off, none⟩ → b ≠ w.heap.size ∧ b ≠ w.heap.size + 1 := fun b off e => by
                subst e
                have := (hown.lt b rfl).1
                omega
              exact ⟨held_rowSelf hgu _, held_row hg4 (Nat.succ_ne_self _) _, pat_row (own2_at hown) (fun _ b off e => (hne b off e).1) _, hne, hb9⟩
            case measure => simp [intOf]; omega
    · obtain rfl : i = l.length := by omega
      rw [List.take_length] at hS0
      have hend : decide ((l.length : Int) < l.length) = false := by simp
      have k2 := hS0.g
      have k4 := hS0.g4
      have HFI := Lib.hid (And.intro (pat_row (cs := rgc A9 (manyR r l).buf.length c9 (manyR r l).head (manyR r l).many (manyR r l).most) hS0.p (fun _ b off e => (hS0.ne b off e).2)) (below_setRow hS0.b (Nat.le_succ _) (rgc A9 (manyR r l).buf.length c9 (manyR r l).head (manyR r l).many (manyR r l).most)))
      generalize manyR r l = MR at *
      clear hS0 hlt hi x2 x3
      go_wp2_with (first
        | (guard_target = wpList _ _ _ (Oper.mk _ (Op.load 24 (.tmp 2)) _ _ _ none :: _) _ _; refine wpList_load_row rfl 24 _ rfl w.heap.size rfl _ _ _ _ k2 Try.underlying24 rfl (by kernel_rfl) ?_)
        | (guard_target = wpList _ _ _ (Oper.mk _ (Op.store 24 (.tmp 4) _) _ _ _ none :: _) _ _; refine wpList_store_row rfl 24 _ _ rfl (w.heap.size + 1) (rgc A9 MR.buf.length c9 MR.head MR.many MR.most) rfl rfl _ _ k4 (by kernel_rfl) rfl (by simp [Value.oneCell']) ?_))
      exact bodyPost_ret (results_ct0 rfl _ _ rfl rfl (load_ring (held_rowSelf k4 (rgc A9 MR.buf.length c9 MR.head MR.many MR.most)) rfl)) rfl ⟨_, rfl, ⟨A9, c9, rfl, HFI.out.1⟩, HFI.out.2⟩
theorem rpush_any {A A2 : Option Addr} {r : Rng} {l : List P2} {B : Nat} (c c2 : Nat) (w : World) (hp : PAt w B A r.buf) (hlp : PAt w B A2 l) (hB : B ≤ w.heap.size) (hl : l.length ≤ 1000) :
    Calls Try.prog 12 #[rgv A r.buf.length c r.head r.many r.most, .slice A2 l.length c2] w (PushQ w (pushR r l)) := by
  cases hm : mayR r with
  | false => exact rpush_no c c2 w hp hB hl (.inl hm)
  | true =>
    by_cases hf : r.most < r.many + l.length
    · exact rpush_no c c2 w hp hB hl (.inr ⟨hm, hf⟩)
    · exact rpush_yes c c2 w hp hlp hB hl hm (by omega)
end Go.Proofs.Ythmnaclmbglkdaa
