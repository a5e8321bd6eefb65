/- Layer 11: the code's Push. -/
import Derived.Test.YthmnaclmbglkdaaJe
namespace Go.Proofs.Ythmnaclmbglkdaa
set_option linter.unusedVariables false
set_option linter.unusedSimpArgs false
open Go.RowKit Go.ChangeShapes Go.WideShapes Go.ChangeAt Go.Sort

/-- A ring of one's own in a variable's block. -/
structure RgS (w : World) (B g : Nat) (t : TypeId) (r : Rng) (A : Option Addr) (c : Nat) (W : World) : Prop where
  x : Held W g t (rgc A r.buf.length c r.head r.many r.most)
  o : OwnR W B (.slice A r.buf.length c) r.buf
  b : Below w.heap.size w W
  bg : w.heap.size ≤ g
  bo : w.heap.size ≤ B
theorem RgS.below {w : World} {B g : Nat} {t : TypeId} {r : Rng} {A : Option Addr} {c : Nat} {W W' : World} (h : RgS w B g t r A c W) (hb : Below W.heap.size W W') : RgS w B g t r A c W' := ⟨h.x.below hb, r_later h.o hb, Below.step h.b hb, h.bg, h.bo⟩
/-- Another block is turned, of another type than refs. -/
theorem RgS.row {w : World} {B g k : Nat} {t t2 : TypeId} {r : Rng} {A : Option Addr} {c : Nat} {W : World} {cs : Array Value} (h : RgS w B g t r A c W) (hk : Held W k t2 cs) (ht : t2 ≠ 33) (hne : g ≠ k) (hw : w.heap.size ≤ k) (cs' : Array Value) : RgS w B g t r A c (W.setRow k cs') :=
  ⟨held_row h.x hne cs', r_same h.o fun q e => row_far0 W k cs' q (r_apart h.o hk ht q e), below_setRow h.b hw cs', h.bg, h.bo⟩
/-- A ring that was told is stored. -/
theorem rgs_store {w : World} {g B : Nat} {t : TypeId} {r : Rng} {A : Option Addr} {c : Nat} {W : World} {cs : Array Value} (hx : Held W g t cs) (ht : t ≠ 33) (ho : OwnR W B (.slice A r.buf.length c) r.buf) (hb : Below w.heap.size w W) (hg : w.heap.size ≤ g) (hB : w.heap.size ≤ B) : RgS w B g t r A c (W.setRow g (rgc A r.buf.length c r.head r.many r.most)) :=
  ⟨held_rowSelf hx _, r_same ho fun q e => row_far0 W g _ q (r_apart ho hx ht q e), below_setRow hb hg _, hg, hB⟩
/-- It is the call's own. -/
theorem RgS.own {w : World} {B g : Nat} {t : TypeId} {r : Rng} {A : Option Addr} {c : Nat} {W : World} (h : RgS w B g t r A c W) : RingO W w.heap.size (.agg (rgc A r.buf.length c r.head r.many r.most)) r := ⟨A, c, rfl, r_mono h.o h.bo⟩
theorem tyG : 24 ≠ 33 := by decide
set_option maxHeartbeats 4000000 in
set_option maxRecDepth 100000 in
theorem push_r {A A2 : Option Addr} {r : Rng} {l : List P2} {B : Nat} (c c2 : Nat) (w : World) (hp : PAt w B A r.buf) (hp2 : PAt w B A2 l) (hB : B ≤ w.heap.size) (hn : r.buf.length ≤ 100000) (hl : l.length ≤ 1000) :
    Calls Try.prog 11 #[rgv A r.buf.length c r.head r.many r.most, .slice A2 l.length c2] w (RingQ w (pushR r l).1 (.int .i64 (pushR r l).2)) := by
  have hb0 := below2 w (.cells (rgc A r.buf.length c r.head r.many r.most) 24) (.cells rz0 24)
  have g2 := (Held.new w 24 (rgc A r.buf.length c r.head r.many r.most)).alloc (.cells rz0 24)
  have g4 := Held.new1 w (.cells (rgc A r.buf.length c r.head r.many r.most) 24) 24 rz0
  have CC := clone_r c _ (hp.below hb0 hB) (Nat.le_trans hB hb0.size) hn
  have CM := fun A9 c9 => may_r A9 r.buf.length c9 r.head r.many r.most
  have hZ : w.heap.size + 2 ≤ ((w.alloc (.cells (rgc A r.buf.length c r.head r.many r.most) 24)).alloc (.cells rz0 24)).heap.size := by simp
  have hfit : mayR r = true → r.many ≤ 1024 ∧ 0 ≤ r.many ∧ 1 ≤ r.most ∧ r.most ≤ 1024 := fun hm => by
    obtain ⟨⟨a1, a2⟩, ⟨b1, b2⟩, ⟨c1, c2⟩, d1, d2⟩ := (mayR_iff r).1 hm
    omega
  have hR : pushR r l = if mayR r = false then (r, 1) else if r.most < r.many + l.length then (r, 110) else (manyR r l, 0) := rfl
  have hlI : (l.length : Int) ≤ 1000 := by omega
  have hmr : mayN r.buf.length r.head r.many r.most = mayR r := rfl
  rw [hmr] at CM
  have HR := Lib.hid hR
  have HP := Lib.hid hp2
  have HB := Lib.hid hB
  have HFIT := Lib.hid hfit
  clear hp hp2 hB hn hl hfit hR hmr
  generalize hPR : pushR r l = PR at *
  go_enter Try.func11, Try.ntmps11
  go_upto_region 1 with (fail)
  generalize (w.alloc (.cells (rgc A r.buf.length c r.head r.many r.most) 24)).alloc (.cells rz0 24) = W0 at *
  have HZ := Lib.hid hZ
  clear hZ
  go_upto_region 2 with (first
    | (guard_target = wpList _ _ _ (Oper.mk _ (Op.load 24 (.tmp 2)) _ _ _ none :: _) _ _; refine wpList_load_row rfl 24 _ rfl w.heap.size rfl _ _ _ _ g2 Try.underlying24 rfl (by kernel_rfl) ?_)
    | (go_at_call 27; (with_reducible refine CC.mono ?_); rintro _ u ⟨v, rfl, ⟨A9, c9, rfl, hol⟩, hb⟩; have k2 := g2.below hb)
    | (guard_target = wpList _ _ _ (Oper.mk _ (Op.store 24 (.tmp 2) _) _ _ _ none :: _) _ _; refine wpList_store_row rfl 24 _ _ rfl w.heap.size (rgc A9 r.buf.length c9 r.head r.many r.most) rfl rfl _ _ k2 (by kernel_rfl) rfl (by simp [Value.oneCell']) ?_))
  have hS : RgS w (w.heap.size + 2) w.heap.size 24 r A9 c9 (u.setRow w.heap.size (rgc A9 r.buf.length c9 r.head r.many r.most)) := rgs_store k2 tyG (r_mono hol HZ.out) (Below.step hb0 hb) (Nat.le_refl _) (Nat.le_add_right _ 2)
  have k4 := held_row (g4.below hb) (Nat.succ_ne_self w.heap.size) (rgc A9 r.buf.length c9 r.head r.many r.most)
  clear k2 hol hb g2 g4 hb0 CC HZ
  generalize u.setRow w.heap.size (rgc A9 r.buf.length c9 r.head r.many r.most) = W1 at *
  cases hM : mayR r with
  | false =>
    rw [hM] at CM
    have hpr := HR.out
    rw [if_pos hM] at hpr
    subst hpr
    clear hM HFIT HR HP HB
    go_wp2_with (first
      | (guard_target = wpList _ _ _ (Oper.mk (some 9) (Op.load 24 (.tmp 2)) _ _ _ none :: _) _ _; refine wpList_load_row rfl 24 _ rfl w.heap.size rfl _ _ _ _ hS.x Try.underlying24 rfl (by kernel_rfl) ?_)
      | (go_at_call 25; (with_reducible refine ((CM _ _).go _).mono ?_); rintro _ u2 ⟨rfl, hb2⟩; have hS2 := hS.below hb2; have j4 := k4.below hb2)
      | (guard_target = wpList _ _ _ (Oper.mk (some 12) (Op.load 24 (.tmp 2)) _ _ _ none :: _) _ _; refine wpList_load_row rfl 24 _ rfl w.heap.size rfl _ _ _ _ hS2.x Try.underlying24 rfl (by kernel_rfl) ?_)
      | (guard_target = wpList _ _ _ (Oper.mk _ (Op.store 24 (.tmp 4) _) _ _ _ none :: _) _ _; refine wpList_store_row rfl 24 _ _ rfl (w.heap.size + 1) (rgc A9 r.buf.length c9 r.head r.many r.most) rfl rfl _ _ j4 (by kernel_rfl) rfl (by simp [Value.oneCell']) ?_))
    have hF : RgS w (w.heap.size + 2) (w.heap.size + 1) 24 r A9 c9 _ := rgs_store j4 tyG hS2.o hS2.b (Nat.le_succ _) (Nat.le_add_right _ 2)
    exact bodyPost_ret (results_ct0 rfl _ _ rfl rfl (load_ring hF.x rfl)) rfl ⟨_, rfl, hF.own, hF.b⟩
  | true =>
    obtain ⟨f1, f2, f3, f4⟩ := HFIT.out hM
    rw [hM] at CM
    have hpr := HR.out
    rw [if_neg (by rw [hM]; decide)] at hpr
    have HM := Lib.hid hM
    clear hM HFIT HR
    go_upto_region 4 with (first
      | (guard_target = wpList _ _ _ (Oper.mk (some 9) (Op.load 24 (.tmp 2)) _ _ _ none :: _) _ _; refine wpList_load_row rfl 24 _ rfl w.heap.size rfl _ _ _ _ hS.x Try.underlying24 rfl (by kernel_rfl) ?_)
      | (go_at_call 25; (with_reducible refine ((CM _ _).go _).mono ?_); rintro _ u2 ⟨rfl, hb2⟩; have hS2 := hS.below hb2; have j4 := k4.below hb2))
    clear hS k4 hb2 CM
    have x2 := hS2.x.cell 2
    have x3 := hS2.x.cell 3
    simp at x2 x3
    by_cases hf : r.most < r.many + l.length
    · have hc : decide (r.most - r.many < (l.length : Int)) = true := decide_eq_true (by omega)
      rw [if_pos hf] at hpr
      subst hpr
      clear hf HP HB
      go_wp2_with (first
        | (guard_target = wpList _ _ _ (Oper.mk (some 21) (Op.load 24 (.tmp 2)) _ _ _ none :: _) _ _; refine wpList_load_row rfl 24 _ rfl w.heap.size rfl _ _ _ _ hS2.x Try.underlying24 rfl (by kernel_rfl) ?_)
        | (guard_target = wpList _ _ _ (Oper.mk _ (Op.store 24 (.tmp 4) _) _ _ _ none :: _) _ _; refine wpList_store_row rfl 24 _ _ rfl (w.heap.size + 1) (rgc A9 r.buf.length c9 r.head r.many r.most) rfl rfl _ _ j4 (by kernel_rfl) rfl (by simp [Value.oneCell']) ?_))
      have hF : RgS w (w.heap.size + 2) (w.heap.size + 1) 24 r A9 c9 _ := rgs_store j4 tyG hS2.o hS2.b (Nat.le_succ _) (Nat.le_add_right _ 2)
      exact bodyPost_ret (results_ct0 rfl _ _ rfl rfl (load_ring hF.x rfl)) rfl ⟨_, rfl, hF.own, hF.b⟩
    · have hc : decide (r.most - r.many < (l.length : Int)) = false := decide_eq_false (by omega)
      rw [if_neg hf] at hpr
      subst hpr
      have HF := Lib.hid (show r.many + l.length ≤ r.most by omega)
      have HLL := Lib.hid (show l.length ≤ 1024 by omega)
      clear hf
      go_upto_region 6 with (fail)
      have g6 := Held.new u2 49 rz0
      go_upto_region 7 with (first
        | (guard_target = wpList _ _ _ (Oper.mk (some 22) (Op.load 24 (.tmp 2)) _ _ _ none :: _) _ _; refine wpList_load_row rfl 24 _ rfl w.heap.size rfl _ _ _ _ hS2.x Try.underlying24 rfl (by kernel_rfl) ?_)
        | (guard_target = wpList _ _ _ (Oper.mk _ (Op.store 49 (.tmp 6) _) _ _ _ none :: _) _ _; refine wpList_store_row rfl 49 _ _ rfl u2.heap.size (rgc A9 r.buf.length c9 r.head r.many r.most) rfl rfl _ _ g6 (by kernel_rfl) rfl (by simp [Value.oneCell']) ?_))
      have hlt4 := j4.lt
      have hne4 : w.heap.size + 1 ≠ u2.heap.size := by omega
      have hba : Below u2.heap.size u2 (u2.alloc (.cells rz0 49)) := (Below.refl _ _).alloc (Nat.le_refl _) _
      have hS3 : RgS w (w.heap.size + 2) u2.heap.size 49 r A9 c9 _ := rgs_store g6 tyBR (hS2.below hba).o (hS2.below hba).b hS2.b.size (Nat.le_add_right _ 2)
      have j5 := held_row (j4.below hba) hne4 (rgc A9 r.buf.length c9 r.head r.many r.most)
      have CP := push_m c9 c2 _ hS3.x hS3.o (by omega) (HP.out.below hS3.b HB.out) (Nat.le_trans HB.out (Nat.le_add_right _ 2)) HLL.out HM.out HF.out
      have H4 := Lib.hid hlt4
      have HB3 := Lib.hid hS3.b
      have HS3 := Lib.hid hS3.x
      clear hS2 j4 g6 hba x2 x3 hS3 hlt4
      generalize (u2.alloc _).setRow u2.heap.size (rgc A9 r.buf.length c9 r.head r.many r.most) = W3 at *
      generalize u2.heap.size = g6 at *
      go_upto_region 8 with (go_at_call 28; (with_reducible refine CP.mono ?_); rintro _ u3 ⟨rfl, A8, c8, hP⟩)
      have k5 := hP.k _ _ _ j5 hne4 tyG
      have hx5 := hP.x
      go_wp2_with (first
        | (guard_target = wpList _ _ _ (Oper.mk (some 27) _ _ _ _ none :: _) _ _; refine wpList_load_row rfl 24 _ rfl g6 rfl _ _ _ _ hx5 Try.underlying24 rfl (by kernel_rfl) ?_)
        | (guard_target = wpList _ _ _ (Oper.mk _ (Op.store 24 (.tmp 4) _) _ _ _ none :: _) _ _; refine wpList_store_row rfl 24 _ _ rfl (w.heap.size + 1) (rgc A8 (manyR r l).buf.length c8 (manyR r l).head (manyR r l).many (manyR r l).most) rfl rfl _ _ k5 (by kernel_rfl) rfl (by simp [Value.oneCell']) ?_))
      have hF : RgS w (w.heap.size + 2) (w.heap.size + 1) 24 (manyR r l) A8 c8 _ := rgs_store k5 tyG hP.o (HB3.out.trans (hP.b.mono (Nat.le_add_right _ 2))) (Nat.le_succ _) (Nat.le_add_right _ 2)
      exact bodyPost_ret (results_ct0 rfl _ _ rfl rfl (load_ring hF.x rfl)) rfl ⟨_, rfl, hF.own, hF.b⟩
end Go.Proofs.Ythmnaclmbglkdaa
