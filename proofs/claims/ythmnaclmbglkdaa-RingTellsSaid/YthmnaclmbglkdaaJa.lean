/- Layer 11: the code's May, has, place, clone. -/
import Derived.Test.YthmnaclmbglkdaaNq
import Derived.Lib.SliceRun
namespace Go.Proofs.Ythmnaclmbglkdaa
set_option linter.unusedVariables false
set_option linter.unusedSimpArgs false
open Go.RowKit Go.ChangeShapes Go.WideShapes Go.ChangeAt Go.Sort

set_option maxHeartbeats 1000000 in
theorem may_r (A : Option Addr) (n c : Nat) (h m t : Int) : Ct Try.prog 25 #[rgv A n c h m t] (.bool (mayN n h m t)) := fun w => by
  have hb : Below w.heap.size w (w.alloc (.cells #[.slice A n c, .int .i64 h, .int .i64 m, .int .i64 t] 24)) := (Below.refl _ _).alloc (Nat.le_refl _) _
  have hm : mayN n h m t = mayN n h m t := rfl
  have HM : Hid (mayN n h m t = (decide (1 ≤ t) && decide (t ≤ 1024) && (decide (1 ≤ (n : Int)) && decide ((n : Int) ≤ t)) && (decide (0 ≤ h) && decide (h < n)) && (decide (0 ≤ m) && decide (m ≤ n)))) := Lib.hid rfl
  generalize mayN n h m t = R at *
  clear hm
  go_enter Try.func25, Try.ntmps25
  go_wp2_with fail
  all_goals
    go_ret
    rw [HM.out]
    refine ⟨ret_bool ?_, hb⟩
    rw [Bool.eq_iff_iff]
    simp
    try omega
theorem has_iff (r : Rng) : (0 < (itemsR r).length) = (mayR r = true ∧ 0 < r.many) := by
  apply propext
  cases h : mayR r with
  | false => unfold itemsR; rw [h]; simp
  | true =>
    have := items_len h
    simp
    constructor
    · intro h1; omega
    · intro h1; omega
set_option maxHeartbeats 1000000 in
theorem has_r (A : Option Addr) (c : Nat) (r : Rng) : Ct Try.prog 30 #[rgv A r.buf.length c r.head r.many r.most] (.bool (decide (0 < (itemsR r).length))) := fun w => by
  have hb : Below w.heap.size w (w.alloc (.cells (rgc A r.buf.length c r.head r.many r.most) 24)) := (Below.refl _ _).alloc (Nat.le_refl _) _
  have CM := may_r A r.buf.length c r.head r.many r.most
  have hx := Held.new w 24 (rgc A r.buf.length c r.head r.many r.most)
  have HR : Hid (decide (0 < (itemsR r).length) = (mayR r && decide (0 < r.many))) := Lib.hid (by
    rw [Bool.eq_iff_iff]
    simp only [decide_eq_true_eq, Bool.and_eq_true]
    rw [has_iff])
  generalize decide (0 < (itemsR r).length) = R at *
  obtain ⟨b, h, m, t⟩ := r
  simp only at *
  have hmr : mayR ⟨b, h, m, t⟩ = mayN b.length h m t := rfl
  rw [hmr] at HR
  generalize mayN b.length h m t = M at *
  generalize b.length = n at *
  clear hmr
  go_enter Try.func30, Try.ntmps30
  go_upto_region 1 with (fail)
  generalize w.alloc (.cells (rgc A n c h m t) 24) = W0 at *
  cases M
  all_goals
    go_wp2_with (first
      | (guard_target = wpList _ _ _ (Oper.mk _ (Op.load 24 (.tmp 1)) _ _ _ none :: _) _ _; refine wpList_load_row rfl 24 _ rfl w.heap.size rfl _ _ _ _ hx Try.underlying24 rfl (by kernel_rfl) ?_)
      | (go_at_call 25; (with_reducible refine (CM.go _).mono ?_); rintro _ u ⟨rfl, hbu⟩; have x2 := (hx.below hbu).cell 2; simp at x2))
    go_ret
    rw [HR.out]
    refine ⟨?_, Below.step hb hbu⟩
    simp
/-- The place of what stands so many behind the top. -/
theorem place_mod {h n i : Nat} (hh : h < n) (hi : i ≤ n) : (h + i) % n = idxN h n i := by
  unfold idxN
  split
  · rename_i hc
    rw [Nat.mod_eq_sub_mod hc, Nat.mod_eq_of_lt (by omega)]
  · exact Nat.mod_eq_of_lt (by omega)
set_option maxHeartbeats 1000000 in
theorem place_r {A : Option Addr} {n h i : Nat} (c : Nat) (m t : Int) (hh : h < n) (hi : i ≤ n) (hn : n ≤ 1024) : Ct Try.prog 33 #[rgv A n c h m t, .int .i64 i] (.int .i64 (idxN h n i)) := fun w => by
  have hb : Below w.heap.size w (w.alloc (.cells (rgc A n c h m t) 24)) := (Below.refl _ _).alloc (Nat.le_refl _) _
  have h0 : (0 : Int) ≤ h := Int.natCast_nonneg h
  have i0 : (0 : Int) ≤ i := Int.natCast_nonneg i
  have h1 : (h : Int) ≤ 1024 := by omega
  have i1 : (i : Int) ≤ 1024 := by omega
  have n0 : (0 : Int) < n := by omega
  have n1 : (n : Int) ≤ 1024 := by omega
  have hr : Int.tmod ((h : Int) + i) n = (idxN h n i : Nat) := by
    rw [← place_mod hh hi]
    rfl
  have nz : ((n : Int) == 0) = false := by simp; omega
  generalize hI : idxN h n i = I at *
  have hI2 : (I : Int) ≤ 1024 := by
    have : I ≤ 1024 := by
      rw [← hI]; unfold idxN; split <;> omega
    omega
  have I0 : (0 : Int) ≤ I := Int.natCast_nonneg I
  clear hI hh hi hn
  go_enter Try.func33, Try.ntmps33
  go_wp2_with fail
  go_ret
  exact ⟨rfl, hb⟩
/-- A ring told that is the call's own. -/
def CloQ (w : World) (r : Rng) (e : Ending) (w' : World) : Prop := ∃ v, e = .returned v ∧ RingO w' w.heap.size v r ∧ Below w.heap.size w w'
set_option maxHeartbeats 1000000 in
theorem clo_slice {A : Option Addr} {l : List P2} {B : Nat} (c : Nat) (w : World) (hp : PAt w B A l) (hB : B ≤ w.heap.size) (hl : l.length ≤ 100000) : Calls Try.prog 34 #[.slice A l.length c] w (ListQ w l) := by
  have q : ∀ (w : World) (a : Option Addr) (n c n' c' : Nat), (binOp .eql 22 (.slice a n c) (.slice none n' c')).run Try.prog w = .ok (.bool a.isNone) w := fun w a n c n' c' => Lib.run_eql_slice_nil w _ _ a n c n' c' Try.underlying22
  cases A with
  | none =>
    have h0 : l = [] := by
      by_cases h : 0 < l.length
      · obtain ⟨b, off, e, _⟩ := hp h
        cases e
      · exact List.eq_nil_of_length_eq_zero (by omega)
    subst h0
    go_enter Try.func34, Try.ntmps34
    go_wp2_with fail
    go_ret
    exact ⟨none, 0, rfl, Own2.nil _ _ _, Below.refl _ _⟩
  | some a =>
    have hbe : Below w.heap.size w (w.alloc (.cells #[] 33)) := (Below.refl _ _).alloc (Nat.le_refl _) _
    have HVA := Lib.hid (hp.below hbe hB)
    have HBL := Lib.hid (show l.length ≤ 1000000 by omega)
    clear hp hB hl hbe
    go_enter Try.func34, Try.ntmps34
    go_wp2_with (at_builtin; refine wpList_append_rs0 rfl _ _ rfl w rfl rfl rfl rfl HVA.out HBL.out ?_; intro A6 c6 u6 k1 k2)
    go_ret
    exact ⟨A6, c6, rfl, k1, k2⟩
set_option maxHeartbeats 2000000 in
theorem clone_r {A : Option Addr} {r : Rng} {B : Nat} (c : Nat) (w : World) (hp : PAt w B A r.buf) (hB : B ≤ w.heap.size) (hl : r.buf.length ≤ 100000) : Calls Try.prog 27 #[rgv A r.buf.length c r.head r.many r.most] w (CloQ w r) := by
  have hb0 := below2 w (.cells (rgc A r.buf.length c r.head r.many r.most) 24) (.cells rz0 24)
  have g1 := (Held.new w 24 (rgc A r.buf.length c r.head r.many r.most)).alloc (.cells rz0 24)
  have g2 := Held.new1 w (.cells (rgc A r.buf.length c r.head r.many r.most) 24) 24 rz0
  have CI := clo_slice c _ (hp.below hb0 hB) (Nat.le_trans hB hb0.size) hl
  obtain ⟨b, h, m, t⟩ := r
  simp only at *
  have HL := Lib.hid hl
  clear hp hB hl
  go_enter Try.func27, Try.ntmps27
  go_upto_region 1 with (fail)
  have hZ : w.heap.size + 2 ≤ ((w.alloc (.cells (rgc A b.length c h m t) 24)).alloc (.cells rz0 24)).heap.size := by simp
  generalize (w.alloc (.cells (rgc A b.length c h m t) 24)).alloc (.cells rz0 24) = W0 at *
  have x0 := g1.cell 0
  simp at x0
  go_upto_region 2 with (go_at_call 34; (with_reducible refine CI.mono ?_); rintro _ u ⟨A9, c9, rfl, hol, hb⟩; have k1 := g1.below hb; have k2 := g2.below hb; have y0 := k1.cell 0; have z0 := k1.fz 0; simp at y0)
  have k1' := k1.set_at 0 (.slice A9 b.length c9)
  have k2' := k2.far (Nat.succ_ne_self _) 0 (.slice A9 b.length c9)
  have hbu : Below w.heap.size w (u.setCell ⟨w.heap.size, 0, none⟩ (.slice A9 b.length c9)) := (Below.step hb0 hb).setCell (p := ⟨w.heap.size, 0, none⟩) (Nat.le_refl _) _
  have ho' : OwnR (u.setCell ⟨w.heap.size, 0, none⟩ (.slice A9 b.length c9)) w.heap.size (.slice A9 b.length c9) b := r_mono (r_same hol fun q e => Below.heap_setCell _ ⟨w.heap.size, 0, none⟩ _ _ (by have := (hol.lt q e).1; show q ≠ w.heap.size; omega)) (by omega)
  clear k1 k2 y0 z0 x0 hol hb hb0 g1 g2 CI
  generalize u.setCell ⟨w.heap.size, 0, none⟩ (.slice A9 b.length c9) = W1 at *
  go_wp2_with (first
    | (guard_target = wpList _ _ _ (Oper.mk _ (Op.load 24 (.tmp 1)) _ _ _ none :: _) _ _; refine wpList_load_row rfl 24 _ rfl w.heap.size rfl _ _ _ _ k1' Try.underlying24 rfl (by kernel_rfl) ?_)
    | (guard_target = wpList _ _ _ (Oper.mk _ (Op.store 24 (.tmp 2) _) _ _ _ none :: _) _ _; refine wpList_store_row rfl 24 _ _ rfl (w.heap.size + 1) (rgc A9 b.length c9 h m t) rfl rfl _ _ k2' (by kernel_rfl) rfl (by simp [Value.oneCell']) ?_))
  refine bodyPost_ret (results_c0 rfl _ _ rfl (load_ring (held_rowSelf k2' (rgc A9 b.length c9 h m t)) rfl)) rfl ⟨_, rfl, ⟨A9, c9, rfl, ?_⟩, below_setRow hbu (Nat.le_succ _) _⟩
  exact r_same ho' fun q e => row_far0 W1 (w.heap.size + 1) (rgc A9 b.length c9 h m t) q (r_apart ho' k2' tyGR q e)
end Go.Proofs.Ythmnaclmbglkdaa
