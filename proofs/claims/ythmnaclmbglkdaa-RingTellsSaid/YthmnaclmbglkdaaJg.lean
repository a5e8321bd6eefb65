/- Layer 11: the code's Pop, Steal. -/
import Derived.Test.YthmnaclmbglkdaaJf
namespace Go.Proofs.Ythmnaclmbglkdaa
set_option linter.unusedVariables false
set_option linter.unusedSimpArgs false
open Go.RowKit Go.ChangeShapes Go.WideShapes Go.ChangeAt Go.Sort

/-- What Pop, Steal leave: a ring of the call's own. -/
def PopQ (w : World) (R : Rng × RefP × Bool) (e : Ending) (w' : World) : Prop := ∃ v, e = .returned (.tuple #[v, gv R.2.1.1 R.2.1.2, .bool R.2.2]) ∧ RingO w' w.heap.size v R.1 ∧ Below w.heap.size w w'
theorem own_set {W : World} {B n c k : Nat} {A : Option Addr} {l : List P2} (h : OwnR W B (.slice A n c) l) (hk : k < B) (i : Nat) (v : Value) : OwnR (W.setCell ⟨k, i, none⟩ v) B (.slice A n c) l :=
  r_same h fun q e => Below.heap_setCell _ ⟨k, i, none⟩ _ q (by have := (h.lt q e).1; show q ≠ k; omega)
theorem own_drew {W : World} {B n c : Nat} {A : Option Addr} {l : List P2} (h : OwnR W B (.slice A n c) l) : OwnR W.drew B (.slice A n c) l := r_same h fun _ _ => rfl
/-- A block of refs ahead of one's own is turned. -/
theorem RgS.far {w : World} {B g k : Nat} {t t2 : TypeId} {r : Rng} {A : Option Addr} {c : Nat} {W : World} {cs : Array Value} (h : RgS w (B + 1) g t r A c W) (_hk : Held W k t2 cs) (hkB : k ≤ B) (hne : g ≠ k) (cs' : Array Value) (hw : w.heap.size ≤ k := by omega) : RgS w (B + 1) g t r A c (W.setRow k cs') :=
  ⟨held_row h.x hne cs', r_same h.o fun q e => row_far0 W k cs' q (by have := (h.o.lt q e).1; omega), below_setRow h.b hw cs', h.bg, h.bo⟩
set_option maxHeartbeats 4000000 in
set_option maxRecDepth 100000 in
theorem pop_r {A : Option Addr} {r : Rng} {B : Nat} (c : Nat) (w : World) (hp : PAt w B A r.buf) (hB : B ≤ w.heap.size) (hn : r.buf.length ≤ 100000) :
    Calls Try.prog 13 #[rgv A r.buf.length c r.head r.many r.most] w (PopQ w (popR r)) := by
  obtain ⟨ST, hST⟩ : ∃ S, S = popR r := ⟨_, rfl⟩
  rw [← hST]
  have HST := Lib.hid hST
  clear hST
  have hb0 := below3 w (.cells (rgc A r.buf.length c r.head r.many r.most) 24) (.cells rz0 24) (.cells #[.int .i64 0, .int .i64 0] 33)
  have g1 := ((Held.new w 24 (rgc A r.buf.length c r.head r.many r.most)).alloc (.cells rz0 24)).alloc (.cells #[.int .i64 0, .int .i64 0] 33)
  have g2 := (Held.new1 w (.cells (rgc A r.buf.length c r.head r.many r.most) 24) 24 rz0).alloc (.cells #[.int .i64 0, .int .i64 0] 33)
  have g3 := Held.new2 w (.cells (rgc A r.buf.length c r.head r.many r.most) 24) (.cells rz0 24) 33 #[.int .i64 0, .int .i64 0]
  have hZ : w.heap.size + 3 ≤ (((w.alloc (.cells (rgc A r.buf.length c r.head r.many r.most) 24)).alloc (.cells rz0 24)).alloc (.cells #[.int .i64 0, .int .i64 0] 33)).heap.size := by simp
  have CC := clone_r c _ (hp.below hb0 hB) (Nat.le_trans hB hb0.size) hn
  have CH := fun A9 c9 => has_r A9 c9 r
  go_enter Try.func13, Try.ntmps13
  go_upto_region 1 with (fail)
  generalize ((w.alloc (.cells (rgc A r.buf.length c r.head r.many r.most) 24)).alloc (.cells rz0 24)).alloc (.cells #[.int .i64 0, .int .i64 0] 33) = W0 at *
  have HZ := Lib.hid hZ
  clear hZ hp hB hn
  go_upto_region 2 with (first
    | (guard_target = wpList _ _ _ (Oper.mk (some 7) _ _ _ _ none :: _) _ _; refine wpList_load_row rfl 24 _ rfl w.heap.size rfl _ _ _ _ g1 Try.underlying24 rfl (by kernel_rfl) ?_)
    | (go_at_call 27; (with_reducible refine CC.mono ?_); rintro _ u ⟨v, rfl, ⟨A9, c9, rfl, hol⟩, hb⟩; have k5 := Held.new u 49 rz0)
    | (guard_target = wpList _ _ _ (Oper.mk _ (Op.store 49 (.tmp 5) _) _ _ _ none :: _) _ _; refine wpList_store_row rfl 49 _ _ rfl u.heap.size (rgc A9 r.buf.length c9 r.head r.many r.most) rfl rfl _ _ k5 (by kernel_rfl) rfl (by simp [Value.oneCell']) ?_))
  have hba : Below u.heap.size u (u.alloc (.cells rz0 49)) := (Below.refl _ _).alloc (Nat.le_refl _) _
  have hl2 := (g2.below hb).lt
  have hl3 := (g3.below hb).lt
  have hS : RgS w (w.heap.size + 3) u.heap.size 49 r A9 c9 _ := rgs_store k5 tyBR (r_mono (r_later hol hba) HZ.out) (Below.step (Below.step hb0 hb) hba) (by omega) (Nat.le_add_right _ 3)
  have j2 := held_row ((g2.below hb).below hba) (by omega : w.heap.size + 1 ≠ u.heap.size) (rgc A9 r.buf.length c9 r.head r.many r.most)
  have j3 := held_row ((g3.below hb).below hba) (by omega : w.heap.size + 1 + 1 ≠ u.heap.size) (rgc A9 r.buf.length c9 r.head r.many r.most)
  have HL := Lib.hid (show w.heap.size + 1 + 1 < u.heap.size from hl3)
  clear k5 hol hb g1 g2 g3 hb0 CC HZ hba hl2 hl3
  generalize (u.alloc _).setRow u.heap.size (rgc A9 r.buf.length c9 r.head r.many r.most) = W1 at *
  generalize u.heap.size = g5 at *
  by_cases h0 : 0 < (itemsR r).length
  · rw [decide_eq_true h0] at CH
    have hmy := ((has_iff r) ▸ h0 : mayR r = true ∧ 0 < r.many).1
    have hmn := ((has_iff r) ▸ h0 : mayR r = true ∧ 0 < r.many).2
    have hll := items_len hmy
    have e := HST.out.trans (if_neg (by omega))
    clear HST
    obtain ⟨b, hd, m, t, rfl, h1, h2, h3, h4, h5, h6⟩ := ring_nat hmy
    simp only at *
    obtain ⟨m', rfl⟩ : ∃ m', m = m' + 1 := ⟨m - 1, by omega⟩
    rw [items_nat hmy] at e
    have hcast : (((m' + 1 : Nat) : Int) - 1) = (m' : Int) := by omega
    have hcast2 : ((m' + 1 : Nat) : Int) = (m' : Int) + 1 := by omega
    rw [hcast2] at hS CH
    rw [hcast, itemsN_len] at e
    have hgi := itemsN_get (b := b) (h := hd) (m := m' + 1) (i := m') (by omega)
    have hXX : b.getD (idxN hd b.length m') (0, 0) = (itemsN b hd (m' + 1)).getD (m' + 1 - 1) (0, 0) := by
      rw [List.getD_eq_getElem?_getD (l := itemsN b hd (m' + 1)), Nat.add_sub_cancel, hgi]
      rfl
    have CP := fun W (h : RgS w (w.heap.size + 3) g5 49 ⟨b, hd, (m' : Int) + 1, t⟩ A9 c9 W) => pop_m c9 (t : Int) W (own2_at h.o) (Nat.le_refl _) (off_own h.o h.x tyBR) h.x h5 (by show m' < b.length; omega) (by show b.length ≤ _; omega)
    rw [← hXX] at e
    generalize b.getD (idxN hd b.length m') (0, 0) = x at *
    obtain ⟨xa, xb⟩ := x
    simp only at CP
    clear hXX hgi hcast hcast2 h0 hmn hll hmy h1 h2 h4 h6
    subst e
    have HS := Lib.hid hS
    go_upto_region 4 with (first
      | (guard_target = wpList _ _ _ (Oper.mk (some 11) _ _ _ _ none :: _) _ _; refine wpList_load_row rfl 24 _ rfl g5 rfl _ _ _ _ hS.x Try.underlying24 rfl (by kernel_rfl) ?_)
      | (go_at_call 30; go_loud ((with_reducible refine ((CH _ _).go _).mono ?_); rintro _ u2 ⟨rfl, hb2⟩)))
    have hS2 := hS.below hb2
    have k2 := j2.below hb2
    have k3 := j3.below hb2
    have CP2 := CP _ hS2
    have HL5 := HL.out
    clear hS HS j2 j3 hb2 CP CH
    go_upto_region 5 with (go_at_call 31; (with_reducible refine CP2.mono ?_); rintro _ u3 ⟨rfl, hx3, hg3⟩)
    have ho3 : OwnR u3 (w.heap.size + 3) (.slice A9 b.length c9) b := hS2.o.kept hg3 (.inr (fun e => r_apart hS2.o hS2.x tyBR g5 e rfl))
    have hS3 : RgS w (w.heap.size + 3) g5 49 ⟨b, (hd : Int), m', t⟩ A9 c9 u3 := ⟨hx3, ho3, hS2.b.grown hg3 hS2.b.size (fun q e => by cases e; exact hS2.bg), hS2.bg, hS2.bo⟩
    have n2 : w.heap.size + 1 ≠ g5 := fun e => by
      have h9 := k2
      unfold Held at h9
      rw [e, hS2.x] at h9
      simp at h9
    have n3 : w.heap.size + 1 + 1 ≠ g5 := fun e => by
      have h9 := k3
      unfold Held at h9
      rw [e, hS2.x] at h9
      simp at h9
    have hba : Below u3.heap.size u3 (u3.alloc (.cells #[.int .i64 xa, .int .i64 xb] 33)) := (Below.refl _ _).alloc (Nat.le_refl _) _
    have hS4 := hS3.below hba
    have k2' := (held_grown k2 hg3 (by simpa using Ne.symm n2)).below hba
    have k3' := (held_grown k3 hg3 (by simpa using Ne.symm n3)).below hba
    have q := Held.new u3 33 #[.int .i64 xa, .int .i64 xb]
    have l3 := (held_grown k3 hg3 (by simpa using Ne.symm n3)).lt
    have l5 := hx3.lt
    have n4 : w.heap.size + 1 ≠ u3.heap.size := by omega
    have n5 : w.heap.size + 1 + 1 ≠ u3.heap.size := by omega
    have n6 : g5 ≠ u3.heap.size := by omega
    clear hS2 hx3 hg3 ho3 hS3 hba k2 k3 CP2
    generalize u3.alloc (.cells #[.int .i64 xa, .int .i64 xb] 33) = W4 at *
    generalize u3.heap.size = g6 at *
    have x0 := hS4.x.cell 0
    have x1 := hS4.x.cell 1
    have x2 := hS4.x.cell 2
    have x3 := hS4.x.cell 3
    have q0 := q.cell 0
    have q1 := q.cell 1
    have p0 := k2'.cell 0
    have p1 := k2'.cell 1
    have p2 := k2'.cell 2
    have p3 := k2'.cell 3
    have z0 := k2'.fz 0
    have z1 := k2'.fz 1
    have z2 := k2'.fz 2
    have z3 := k2'.fz 3
    have r0 := k3'.cell 0
    have r1 := k3'.cell 1
    have v0 := k3'.fz 0
    have v1 := k3'.fz 1
    simp at x0 x1 x2 x3 q0 q1 p0 p1 p2 p3 r0 r1
    have HS4 := Lib.hid hS4
    clear hS4
    have n7 := Ne.symm n2
    have n8 := Ne.symm n3
    have n9 := Ne.symm n4
    have n10 := Ne.symm n5
    have n11 := Ne.symm n6
    go_region
    have j2 := (((((k2'.set_at 0 (.slice A9 b.length c9)).set_at 1 (.int .i64 (hd : Int))).set_at 2 (.int .i64 m')).set_at 3 (.int .i64 t)).far (by omega : w.heap.size + 1 ≠ w.heap.size + 1 + 1) 0 (.int .i64 xa)).far (by omega : w.heap.size + 1 ≠ w.heap.size + 1 + 1) 1 (.int .i64 xb)
    have j3 := (((((k3'.far (by omega : w.heap.size + 1 + 1 ≠ w.heap.size + 1) 0 (.slice A9 b.length c9)).far (by omega : w.heap.size + 1 + 1 ≠ w.heap.size + 1) 1 (.int .i64 (hd : Int))).far (by omega : w.heap.size + 1 + 1 ≠ w.heap.size + 1) 2 (.int .i64 m')).far (by omega : w.heap.size + 1 + 1 ≠ w.heap.size + 1) 3 (.int .i64 t)).set_at 0 (.int .i64 xa)).set_at 1 (.int .i64 xb)
    have hbz := (((((HS4.out.b.setCell (p := ⟨w.heap.size + 1, 0, none⟩) (Nat.le_succ _) (.slice A9 b.length c9)).setCell (p := ⟨w.heap.size + 1, 1, none⟩) (Nat.le_succ _) (.int .i64 (hd : Int))).setCell (p := ⟨w.heap.size + 1, 2, none⟩) (Nat.le_succ _) (.int .i64 m')).setCell (p := ⟨w.heap.size + 1, 3, none⟩) (Nat.le_succ _) (.int .i64 t)).setCell (p := ⟨w.heap.size + 1 + 1, 0, none⟩) (Nat.le_succ_of_le (Nat.le_succ _)) (.int .i64 xa)).setCell (p := ⟨w.heap.size + 1 + 1, 1, none⟩) (Nat.le_succ_of_le (Nat.le_succ _)) (.int .i64 xb)
    have ho := own_set (own_set (own_set (own_set (own_set (own_set HS4.out.o (by omega : w.heap.size + 1 < w.heap.size + 3) 0 (.slice A9 b.length c9)) (by omega : w.heap.size + 1 < w.heap.size + 3) 1 (.int .i64 (hd : Int))) (by omega : w.heap.size + 1 < w.heap.size + 3) 2 (.int .i64 m')) (by omega : w.heap.size + 1 < w.heap.size + 3) 3 (.int .i64 t)) (by omega : w.heap.size + 1 + 1 < w.heap.size + 3) 0 (.int .i64 xa)) (by omega : w.heap.size + 1 + 1 < w.heap.size + 3) 1 (.int .i64 xb)
    have ho2 := own_drew (r_mono ho (Nat.le_add_right _ 3) : OwnR _ w.heap.size (.slice A9 b.length c9) b)
    have HJ := Lib.hid (And.intro (held_drew j2) (And.intro (held_drew j3) (And.intro hbz.drew ho2)))
    clear j2 j3 hbz ho ho2 x0 x1 x2 x3 q0 q1 p0 p1 p2 p3 z0 z1 z2 z3 r0 r1 v0 v1 q k2' k3'
    (repeat go_step)
    exact bodyPost_ret (results_cct rfl _ _ rfl rfl rfl (load_ring HJ.out.1 rfl) (load_ref HJ.out.2.1 rfl)) rfl ⟨_, rfl, ⟨A9, c9, rfl, HJ.out.2.2.2⟩, HJ.out.2.2.1⟩
  · rw [decide_eq_false h0] at CH
    have e := HST.out.trans (pop_no (by omega))
    subst e
    clear h0
    go_wp2_with (first
      | (guard_target = wpList _ _ _ (Oper.mk (some 11) _ _ _ _ none :: _) _ _; refine wpList_load_row rfl 24 _ rfl g5 rfl _ _ _ _ hS.x Try.underlying24 rfl (by kernel_rfl) ?_)
      | (go_at_call 30; (with_reducible refine ((CH _ _).go _).mono ?_); rintro _ u2 ⟨rfl, hb2⟩; have hS2 := hS.below hb2; have j5 := j2.below hb2; have j6 := j3.below hb2)
      | (guard_target = wpList _ _ _ (Oper.mk (some 15) _ _ _ _ none :: _) _ _; refine wpList_load_row rfl 24 _ rfl g5 rfl _ _ _ _ hS2.x Try.underlying24 rfl (by kernel_rfl) ?_)
      | (guard_target = wpList _ _ _ (Oper.mk _ (Op.store 24 (.tmp 2) _) _ _ _ none :: _) _ _; refine wpList_store_row rfl 24 _ _ rfl (w.heap.size + 1) (rgc A9 r.buf.length c9 r.head r.many r.most) rfl rfl _ _ j5 (by kernel_rfl) rfl (by simp [Value.oneCell']) ?_; have j7 := held_row j6 (Nat.succ_ne_self (w.heap.size + 1)) (rgc A9 r.buf.length c9 r.head r.many r.most))
      | (guard_target = wpList _ _ _ (Oper.mk _ (Op.store 33 (.tmp 3) _) _ _ _ none :: _) _ _; refine wpList_store_row rfl 33 _ _ rfl (w.heap.size + 1 + 1) #[.int .i64 0, .int .i64 0] rfl rfl _ _ j7 (by kernel_rfl) rfl (by simp [Value.oneCell']) ?_))
    have hF : RgS w (w.heap.size + 3) (w.heap.size + 1) 24 r A9 c9 _ := rgs_store j5 tyG hS2.o hS2.b (Nat.le_succ _) (Nat.le_add_right _ 3)
    have hF2 := hF.far j7 (Nat.le_refl (w.heap.size + 1 + 1)) (Nat.ne_of_lt (Nat.lt_succ_self _)) #[.int .i64 0, .int .i64 0]
    exact bodyPost_ret (results_cct rfl _ _ rfl rfl rfl (load_ring hF2.x rfl) (load_ref (held_rowSelf j7 _) rfl)) rfl ⟨_, rfl, hF2.own, hF2.b⟩
set_option maxHeartbeats 4000000 in
set_option maxRecDepth 100000 in
theorem steal_r {A : Option Addr} {r : Rng} {B : Nat} (c : Nat) (w : World) (hp : PAt w B A r.buf) (hB : B ≤ w.heap.size) (hn : r.buf.length ≤ 100000) :
    Calls Try.prog 15 #[rgv A r.buf.length c r.head r.many r.most] w (PopQ w (stealR r)) := by
  obtain ⟨ST, hST⟩ : ∃ S, S = stealR r := ⟨_, rfl⟩
  rw [← hST]
  have HST := Lib.hid hST
  clear hST
  have hb0 := below3 w (.cells (rgc A r.buf.length c r.head r.many r.most) 24) (.cells rz0 24) (.cells #[.int .i64 0, .int .i64 0] 33)
  have g1 := ((Held.new w 24 (rgc A r.buf.length c r.head r.many r.most)).alloc (.cells rz0 24)).alloc (.cells #[.int .i64 0, .int .i64 0] 33)
  have g2 := (Held.new1 w (.cells (rgc A r.buf.length c r.head r.many r.most) 24) 24 rz0).alloc (.cells #[.int .i64 0, .int .i64 0] 33)
  have g3 := Held.new2 w (.cells (rgc A r.buf.length c r.head r.many r.most) 24) (.cells rz0 24) 33 #[.int .i64 0, .int .i64 0]
  have hZ : w.heap.size + 3 ≤ (((w.alloc (.cells (rgc A r.buf.length c r.head r.many r.most) 24)).alloc (.cells rz0 24)).alloc (.cells #[.int .i64 0, .int .i64 0] 33)).heap.size := by simp
  have CC := clone_r c _ (hp.below hb0 hB) (Nat.le_trans hB hb0.size) hn
  have CH := fun A9 c9 => has_r A9 c9 r
  go_enter Try.func15, Try.ntmps15
  go_upto_region 1 with (fail)
  generalize ((w.alloc (.cells (rgc A r.buf.length c r.head r.many r.most) 24)).alloc (.cells rz0 24)).alloc (.cells #[.int .i64 0, .int .i64 0] 33) = W0 at *
  have HZ := Lib.hid hZ
  clear hZ hp hB hn
  go_upto_region 2 with (first
    | (guard_target = wpList _ _ _ (Oper.mk (some 7) _ _ _ _ none :: _) _ _; refine wpList_load_row rfl 24 _ rfl w.heap.size rfl _ _ _ _ g1 Try.underlying24 rfl (by kernel_rfl) ?_)
    | (go_at_call 27; (with_reducible refine CC.mono ?_); rintro _ u ⟨v, rfl, ⟨A9, c9, rfl, hol⟩, hb⟩; have k5 := Held.new u 53 rz0)
    | (guard_target = wpList _ _ _ (Oper.mk _ (Op.store 53 (.tmp 5) _) _ _ _ none :: _) _ _; refine wpList_store_row rfl 53 _ _ rfl u.heap.size (rgc A9 r.buf.length c9 r.head r.many r.most) rfl rfl _ _ k5 (by kernel_rfl) rfl (by simp [Value.oneCell']) ?_))
  have hba : Below u.heap.size u (u.alloc (.cells rz0 53)) := (Below.refl _ _).alloc (Nat.le_refl _) _
  have hl2 := (g2.below hb).lt
  have hl3 := (g3.below hb).lt
  have hS : RgS w (w.heap.size + 3) u.heap.size 53 r A9 c9 _ := rgs_store k5 tyTR (r_mono (r_later hol hba) HZ.out) (Below.step (Below.step hb0 hb) hba) (by omega) (Nat.le_add_right _ 3)
  have j2 := held_row ((g2.below hb).below hba) (by omega : w.heap.size + 1 ≠ u.heap.size) (rgc A9 r.buf.length c9 r.head r.many r.most)
  have j3 := held_row ((g3.below hb).below hba) (by omega : w.heap.size + 1 + 1 ≠ u.heap.size) (rgc A9 r.buf.length c9 r.head r.many r.most)
  have HL := Lib.hid (show w.heap.size + 1 + 1 < u.heap.size from hl3)
  clear k5 hol hb g1 g2 g3 hb0 CC HZ hba hl2 hl3
  generalize (u.alloc _).setRow u.heap.size (rgc A9 r.buf.length c9 r.head r.many r.most) = W1 at *
  generalize u.heap.size = g5 at *
  by_cases h0 : 0 < (itemsR r).length
  · rw [decide_eq_true h0] at CH
    have hmy := ((has_iff r) ▸ h0 : mayR r = true ∧ 0 < r.many).1
    have hmn := ((has_iff r) ▸ h0 : mayR r = true ∧ 0 < r.many).2
    have hll := items_len hmy
    have e := HST.out.trans (if_neg (by omega))
    clear HST
    obtain ⟨b, hd, m, t, rfl, h1, h2, h3, h4, h5, h6⟩ := ring_nat hmy
    simp only at *
    obtain ⟨m', rfl⟩ : ∃ m', m = m' + 1 := ⟨m - 1, by omega⟩
    rw [items_nat hmy] at e
    have hcast : (((m' + 1 : Nat) : Int) - 1) = (m' : Int) := by omega
    have hcast2 : ((m' + 1 : Nat) : Int) = (m' : Int) + 1 := by omega
    rw [hcast2] at hS CH
    rw [hcast] at e
    have hgi := itemsN_get (b := b) (h := hd) (m := m' + 1) (i := 0) (by omega)
    have hXX : b.getD hd (0, 0) = (itemsN b hd (m' + 1)).getD 0 (0, 0) := by
      rw [List.getD_eq_getElem?_getD (l := itemsN b hd (m' + 1)), hgi]
      show _ = b.getD (idxN hd b.length 0) (0, 0)
      rw [show idxN hd b.length 0 = hd by unfold idxN; rw [if_neg (by omega)]; omega]
    have CP := fun W (h : RgS w (w.heap.size + 3) g5 53 ⟨b, hd, (m' : Int) + 1, t⟩ A9 c9 W) => steal_m c9 (t : Int) W (own2_at h.o) (Nat.le_refl _) (off_own h.o h.x tyTR) h.x h5 (by show m' ≤ 1024; omega) (by show b.length ≤ _; omega)
    rw [← hXX] at e
    generalize b.getD hd (0, 0) = x at *
    obtain ⟨xa, xb⟩ := x
    simp only at CP
    clear hXX hgi hcast hcast2 h0 hmn hll hmy h1 h2 h4 h6
    have hnh : (if (hd : Int) + 1 = (b.length : Int) then (0 : Int) else (hd : Int) + 1) = ((if hd + 1 = b.length then 0 else hd + 1 : Nat) : Int) := by split <;> split <;> omega
    rw [hnh] at e
    clear hnh
    generalize ((if hd + 1 = b.length then 0 else hd + 1 : Nat) : Int) = nh at CP e
    subst e
    have HS := Lib.hid hS
    go_upto_region 4 with (first
      | (guard_target = wpList _ _ _ (Oper.mk (some 11) _ _ _ _ none :: _) _ _; refine wpList_load_row rfl 24 _ rfl g5 rfl _ _ _ _ hS.x Try.underlying24 rfl (by kernel_rfl) ?_)
      | (go_at_call 30; go_loud ((with_reducible refine ((CH _ _).go _).mono ?_); rintro _ u2 ⟨rfl, hb2⟩)))
    have hS2 := hS.below hb2
    have k2 := j2.below hb2
    have k3 := j3.below hb2
    have CP2 := CP _ hS2
    have HL5 := HL.out
    clear hS HS j2 j3 hb2 CP CH
    go_upto_region 5 with (go_at_call 32; (with_reducible refine CP2.mono ?_); rintro _ u3 ⟨rfl, hx3, hg3⟩)
    have ho3 : OwnR u3 (w.heap.size + 3) (.slice A9 b.length c9) b := hS2.o.kept hg3 (.inr (fun e => r_apart hS2.o hS2.x tyTR g5 e rfl))
    have hS3 : RgS w (w.heap.size + 3) g5 53 ⟨b, nh, m', t⟩ A9 c9 u3 := ⟨hx3, ho3, hS2.b.grown hg3 hS2.b.size (fun q e => by cases e; exact hS2.bg), hS2.bg, hS2.bo⟩
    have n2 : w.heap.size + 1 ≠ g5 := fun e => by
      have h9 := k2
      unfold Held at h9
      rw [e, hS2.x] at h9
      simp at h9
    have n3 : w.heap.size + 1 + 1 ≠ g5 := fun e => by
      have h9 := k3
      unfold Held at h9
      rw [e, hS2.x] at h9
      simp at h9
    have hba : Below u3.heap.size u3 (u3.alloc (.cells #[.int .i64 xa, .int .i64 xb] 33)) := (Below.refl _ _).alloc (Nat.le_refl _) _
    have hS4 := hS3.below hba
    have k2' := (held_grown k2 hg3 (by simpa using Ne.symm n2)).below hba
    have k3' := (held_grown k3 hg3 (by simpa using Ne.symm n3)).below hba
    have q := Held.new u3 33 #[.int .i64 xa, .int .i64 xb]
    have l3 := (held_grown k3 hg3 (by simpa using Ne.symm n3)).lt
    have l5 := hx3.lt
    have n4 : w.heap.size + 1 ≠ u3.heap.size := by omega
    have n5 : w.heap.size + 1 + 1 ≠ u3.heap.size := by omega
    have n6 : g5 ≠ u3.heap.size := by omega
    clear hS2 hx3 hg3 ho3 hS3 hba k2 k3 CP2
    generalize u3.alloc (.cells #[.int .i64 xa, .int .i64 xb] 33) = W4 at *
    generalize u3.heap.size = g6 at *
    have x0 := hS4.x.cell 0
    have x1 := hS4.x.cell 1
    have x2 := hS4.x.cell 2
    have x3 := hS4.x.cell 3
    have q0 := q.cell 0
    have q1 := q.cell 1
    have p0 := k2'.cell 0
    have p1 := k2'.cell 1
    have p2 := k2'.cell 2
    have p3 := k2'.cell 3
    have z0 := k2'.fz 0
    have z1 := k2'.fz 1
    have z2 := k2'.fz 2
    have z3 := k2'.fz 3
    have r0 := k3'.cell 0
    have r1 := k3'.cell 1
    have v0 := k3'.fz 0
    have v1 := k3'.fz 1
    simp at x0 x1 x2 x3 q0 q1 p0 p1 p2 p3 r0 r1
    have HS4 := Lib.hid hS4
    clear hS4
    have n7 := Ne.symm n2
    have n8 := Ne.symm n3
    have n9 := Ne.symm n4
    have n10 := Ne.symm n5
    have n11 := Ne.symm n6
    go_region
    have j2 := (((((k2'.set_at 0 (.slice A9 b.length c9)).set_at 1 (.int .i64 nh)).set_at 2 (.int .i64 m')).set_at 3 (.int .i64 t)).far (by omega : w.heap.size + 1 ≠ w.heap.size + 1 + 1) 0 (.int .i64 xa)).far (by omega : w.heap.size + 1 ≠ w.heap.size + 1 + 1) 1 (.int .i64 xb)
    have j3 := (((((k3'.far (by omega : w.heap.size + 1 + 1 ≠ w.heap.size + 1) 0 (.slice A9 b.length c9)).far (by omega : w.heap.size + 1 + 1 ≠ w.heap.size + 1) 1 (.int .i64 nh)).far (by omega : w.heap.size + 1 + 1 ≠ w.heap.size + 1) 2 (.int .i64 m')).far (by omega : w.heap.size + 1 + 1 ≠ w.heap.size + 1) 3 (.int .i64 t)).set_at 0 (.int .i64 xa)).set_at 1 (.int .i64 xb)
    have hbz := (((((HS4.out.b.setCell (p := ⟨w.heap.size + 1, 0, none⟩) (Nat.le_succ _) (.slice A9 b.length c9)).setCell (p := ⟨w.heap.size + 1, 1, none⟩) (Nat.le_succ _) (.int .i64 nh)).setCell (p := ⟨w.heap.size + 1, 2, none⟩) (Nat.le_succ _) (.int .i64 m')).setCell (p := ⟨w.heap.size + 1, 3, none⟩) (Nat.le_succ _) (.int .i64 t)).setCell (p := ⟨w.heap.size + 1 + 1, 0, none⟩) (Nat.le_succ_of_le (Nat.le_succ _)) (.int .i64 xa)).setCell (p := ⟨w.heap.size + 1 + 1, 1, none⟩) (Nat.le_succ_of_le (Nat.le_succ _)) (.int .i64 xb)
    have ho := own_set (own_set (own_set (own_set (own_set (own_set HS4.out.o (by omega : w.heap.size + 1 < w.heap.size + 3) 0 (.slice A9 b.length c9)) (by omega : w.heap.size + 1 < w.heap.size + 3) 1 (.int .i64 nh)) (by omega : w.heap.size + 1 < w.heap.size + 3) 2 (.int .i64 m')) (by omega : w.heap.size + 1 < w.heap.size + 3) 3 (.int .i64 t)) (by omega : w.heap.size + 1 + 1 < w.heap.size + 3) 0 (.int .i64 xa)) (by omega : w.heap.size + 1 + 1 < w.heap.size + 3) 1 (.int .i64 xb)
    have ho2 := own_drew (r_mono ho (Nat.le_add_right _ 3) : OwnR _ w.heap.size (.slice A9 b.length c9) b)
    have HJ := Lib.hid (And.intro (held_drew j2) (And.intro (held_drew j3) (And.intro hbz.drew ho2)))
    clear j2 j3 hbz ho ho2 x0 x1 x2 x3 q0 q1 p0 p1 p2 p3 z0 z1 z2 z3 r0 r1 v0 v1 q k2' k3'
    (repeat go_step)
    exact bodyPost_ret (results_cct rfl _ _ rfl rfl rfl (load_ring HJ.out.1 rfl) (load_ref HJ.out.2.1 rfl)) rfl ⟨_, rfl, ⟨A9, c9, rfl, HJ.out.2.2.2⟩, HJ.out.2.2.1⟩
  · rw [decide_eq_false h0] at CH
    have e := HST.out.trans (steal_no (by omega))
    subst e
    clear h0
    go_wp2_with (first
      | (guard_target = wpList _ _ _ (Oper.mk (some 11) _ _ _ _ none :: _) _ _; refine wpList_load_row rfl 24 _ rfl g5 rfl _ _ _ _ hS.x Try.underlying24 rfl (by kernel_rfl) ?_)
      | (go_at_call 30; (with_reducible refine ((CH _ _).go _).mono ?_); rintro _ u2 ⟨rfl, hb2⟩; have hS2 := hS.below hb2; have j5 := j2.below hb2; have j6 := j3.below hb2)
      | (guard_target = wpList _ _ _ (Oper.mk (some 15) _ _ _ _ none :: _) _ _; refine wpList_load_row rfl 24 _ rfl g5 rfl _ _ _ _ hS2.x Try.underlying24 rfl (by kernel_rfl) ?_)
      | (guard_target = wpList _ _ _ (Oper.mk _ (Op.store 24 (.tmp 2) _) _ _ _ none :: _) _ _; refine wpList_store_row rfl 24 _ _ rfl (w.heap.size + 1) (rgc A9 r.buf.length c9 r.head r.many r.most) rfl rfl _ _ j5 (by kernel_rfl) rfl (by simp [Value.oneCell']) ?_; have j7 := held_row j6 (Nat.succ_ne_self (w.heap.size + 1)) (rgc A9 r.buf.length c9 r.head r.many r.most))
      | (guard_target = wpList _ _ _ (Oper.mk _ (Op.store 33 (.tmp 3) _) _ _ _ none :: _) _ _; refine wpList_store_row rfl 33 _ _ rfl (w.heap.size + 1 + 1) #[.int .i64 0, .int .i64 0] rfl rfl _ _ j7 (by kernel_rfl) rfl (by simp [Value.oneCell']) ?_))
    have hF : RgS w (w.heap.size + 3) (w.heap.size + 1) 24 r A9 c9 _ := rgs_store j5 tyG hS2.o hS2.b (Nat.le_succ _) (Nat.le_add_right _ 3)
    have hF2 := hF.far j7 (Nat.le_refl (w.heap.size + 1 + 1)) (Nat.ne_of_lt (Nat.lt_succ_self _)) #[.int .i64 0, .int .i64 0]
    exact bodyPost_ret (results_cct rfl _ _ rfl rfl rfl (load_ring hF2.x rfl) (load_ref (held_rowSelf j7 _) rfl)) rfl ⟨_, rfl, hF2.own, hF2.b⟩
end Go.Proofs.Ythmnaclmbglkdaa
