/- Layer 11: the code's Half, New. -/
import Derived.Test.YthmnaclmbglkdaaJg
import Derived.Test.YthmnaclmbglkdaaNh
namespace Go.Proofs.Ythmnaclmbglkdaa
set_option linter.unusedVariables false
set_option linter.unusedSimpArgs false
open Go.RowKit Go.ChangeShapes Go.WideShapes Go.ChangeAt Go.Sort

theorem steal_form {r : Rng} (h : mayR r = true) (h0 : 0 < (itemsR r).length) : ∃ (b : List RefP) (hd m t : Nat), r = ⟨b, hd, (m : Int) + 1, t⟩ ∧ hd < b.length ∧ b.length ≤ 1024 ∧ m ≤ 1024 ∧
    stealR r = (⟨b, ((if hd + 1 = b.length then 0 else hd + 1 : Nat) : Int), m, t⟩, b.getD hd (0, 0), true) := by
  have e : stealR r = ({ r with many := r.many - 1, head := if r.head + 1 = r.buf.length then 0 else r.head + 1 }, (itemsR r).getD 0 (0, 0), true) := if_neg (by omega)
  have hll := items_len h
  obtain ⟨b, hd, m, t, rfl, h1, h2, h3, h4, h5, h6⟩ := ring_nat h
  simp only at hll
  obtain ⟨m', rfl⟩ : ∃ m', m = m' + 1 := ⟨m - 1, by omega⟩
  refine ⟨b, hd, m', t, by simp, h5, by omega, by omega, ?_⟩
  rw [e, items_nat h]
  have hgi := itemsN_get (b := b) (h := hd) (m := m' + 1) (i := 0) (by omega)
  have h9 : (itemsN b hd (m' + 1)).getD 0 (0, 0) = b.getD hd (0, 0) := by
    rw [List.getD_eq_getElem?_getD (l := itemsN b hd (m' + 1)), hgi]
    show b.getD (idxN hd b.length 0) (0, 0) = _
    rw [show idxN hd b.length 0 = hd by unfold idxN; rw [if_neg (by omega)]; omega]
  rw [h9]
  congr 2
  · show (if (hd : Int) + 1 = (b.length : Int) then (0 : Int) else (hd : Int) + 1) = _
    split <;> split <;> omega
  · show ((m' + 1 : Nat) : Int) - 1 = m'
    omega
/-- On the way of Half: the ring so far in its block, what was stolen in its own. -/
structure HfS (w : World) (g gl : Nat) (R : Rng) (A : Option Addr) (c N : Nat) (K : List P2) (W : World) : Prop where
  s : RgS w (w.heap.size + 2) g 53 R A c W
  l : OwnR W (w.heap.size + 2) (.slice (some ⟨gl, 0, none⟩) N N) K
  z : Held W (w.heap.size + 1) 24 rz0
  n : ∀ q, (Value.slice A R.buf.length c).ownBlock = some q → q ≠ gl
theorem HfS.below {w : World} {g gl : Nat} {R : Rng} {A : Option Addr} {c N : Nat} {K : List P2} {W W' : World} (h : HfS w g gl R A c N K W) (hb : Below W.heap.size W W') : HfS w g gl R A c N K W' :=
  ⟨h.s.below hb, r_later h.l hb, h.z.below hb, h.n⟩
theorem HfS.turn {w : World} {g gl : Nat} {R R' : Rng} {A : Option Addr} {c N : Nat} {K : List P2} {W W' : World} (h : HfS w g gl R A c N K W) (hx : Held W' g 53 (rgc A R'.buf.length c R'.head R'.many R'.most)) (hg : W.grownBy W' (some g)) (hb : R'.buf = R.buf) : HfS w g gl R' A c N K W' := by
  have hne : w.heap.size + 1 ≠ g := fun e => by
    have h9 := h.z
    unfold Held at h9
    rw [e, h.s.x] at h9
    simp at h9
  refine ⟨⟨hx, ?_, h.s.b.grown hg h.s.b.size (fun q e => by cases e; exact h.s.bg), h.s.bg, h.s.bo⟩, h.l.kept hg (.inr fun e => r_apart h.l h.s.x tyTR g e rfl), held_grown h.z hg (by simpa using Ne.symm hne), ?_⟩
  · rw [hb]
    exact h.s.o.kept hg (.inr fun e => r_apart h.s.o h.s.x tyTR g e rfl)
  · rw [hb]
    exact h.n
theorem HfS.put {w : World} {g gl : Nat} {R : Rng} {A : Option Addr} {c N : Nat} {K : List P2} {W : World} (h : HfS w g gl R A c N K W) (j : Nat) (x : P2) (hj : j < K.length) : HfS w g gl R A c N (K.set j x) ((W.setCell ⟨gl, j * 2, none⟩ (.int .i64 x.1)).setCell ⟨gl, j * 2 + 1, none⟩ (.int .i64 x.2)) := by
  have hne : g ≠ gl := fun e => r_apart h.l h.s.x tyTR gl rfl e.symm
  have hn2 : w.heap.size + 1 ≠ gl := fun e => r_apart h.l h.z tyG gl rfl e.symm
  have hgl := (h.l.lt gl rfl).1
  refine ⟨⟨(h.s.x.far hne _ _).far hne _ _, r_same h.s.o fun q e => ?_, (h.s.b.setCell (p := ⟨gl, _, none⟩) (by show w.heap.size ≤ gl; omega) _).setCell (p := ⟨gl, _, none⟩) (by show w.heap.size ≤ gl; omega) _, h.s.bg, h.s.bo⟩, Own2.set h.l j x hj, (h.z.far hn2 _ _).far hn2 _ _, h.n⟩
  have hq := h.n q e
  exact (Below.heap_setCell _ ⟨gl, _, none⟩ _ q hq).trans (Below.heap_setCell _ ⟨gl, _, none⟩ _ q hq)
/-- What Half leaves. -/
def HalfQ (w : World) (R : Rng × List RefP) (e : Ending) (w' : World) : Prop := ∃ v A c, e = .returned (.tuple #[v, .slice A R.2.length c]) ∧ RingO w' w.heap.size v R.1 ∧ OwnR w' w.heap.size (.slice A R.2.length c) R.2 ∧ Below w.heap.size w w'
set_option maxHeartbeats 4000000 in
set_option maxRecDepth 100000 in
theorem half_r {A : Option Addr} {r : Rng} {B : Nat} (c : Nat) (w : World) (hp : PAt w B A r.buf) (hB : B ≤ w.heap.size) (hn : r.buf.length ≤ 100000) :
    Calls Try.prog 17 #[rgv A r.buf.length c r.head r.many r.most] w (HalfQ w (halfR r)) := by
  obtain ⟨ST, hST⟩ : ∃ S, S = halfR r := ⟨_, rfl⟩
  rw [← hST]
  have HST := Lib.hid hST
  clear hST
  have hb0 := below2 w (.cells (rgc A r.buf.length c r.head r.many r.most) 24) (.cells rz0 24)
  have g1 := (Held.new w 24 (rgc A r.buf.length c r.head r.many r.most)).alloc (.cells rz0 24)
  have g2 := Held.new1 w (.cells (rgc A r.buf.length c r.head r.many r.most) 24) 24 rz0
  have hZ : w.heap.size + 2 ≤ ((w.alloc (.cells (rgc A r.buf.length c r.head r.many r.most) 24)).alloc (.cells rz0 24)).heap.size := by simp
  have CC := clone_r c _ (hp.below hb0 hB) (Nat.le_trans hB hb0.size) hn
  have CH := fun A9 c9 => has_r A9 c9 r
  go_enter Try.func17, Try.ntmps17
  go_upto_region 1 with (fail)
  generalize (w.alloc (.cells (rgc A r.buf.length c r.head r.many r.most) 24)).alloc (.cells rz0 24) = W0 at *
  have HZ := Lib.hid hZ
  clear hZ hp hB hn
  go_upto_region 2 with (first
    | (guard_target = wpList _ _ _ (Oper.mk (some 7) _ _ _ _ none :: _) _ _; refine wpList_load_row rfl 24 _ rfl w.heap.size rfl _ _ _ _ g1 Try.underlying24 rfl (by kernel_rfl) ?_)
    | (go_at_call 27; (with_reducible refine CC.mono ?_); rintro _ u ⟨v, rfl, ⟨A9, c9, rfl, hol⟩, hb⟩; have k5 := Held.new u 53 rz0)
    | (guard_target = wpList _ _ _ (Oper.mk _ (Op.store 53 (.tmp 4) _) _ _ _ none :: _) _ _; refine wpList_store_row rfl 53 _ _ rfl u.heap.size (rgc A9 r.buf.length c9 r.head r.many r.most) rfl rfl _ _ k5 (by kernel_rfl) rfl (by simp [Value.oneCell']) ?_))
  have hba : Below u.heap.size u (u.alloc (.cells rz0 53)) := (Below.refl _ _).alloc (Nat.le_refl _) _
  have hl2 := (g2.below hb).lt
  have hS : RgS w (w.heap.size + 2) u.heap.size 53 r A9 c9 _ := rgs_store k5 tyTR (r_mono (r_later hol hba) HZ.out) (Below.step (Below.step hb0 hb) hba) (by omega) (Nat.le_add_right _ 2)
  have j2 := held_row ((g2.below hb).below hba) (by omega : w.heap.size + 1 ≠ u.heap.size) (rgc A9 r.buf.length c9 r.head r.many r.most)
  clear k5 hol hb g1 g2 hb0 CC HZ hba hl2
  generalize (u.alloc _).setRow u.heap.size (rgc A9 r.buf.length c9 r.head r.many r.most) = W1 at *
  generalize u.heap.size = g5 at *
  by_cases h0 : 0 < (itemsR r).length
  · rw [decide_eq_true h0] at CH
    have hmy := ((has_iff r) ▸ h0 : mayR r = true ∧ 0 < r.many).1
    have hll := items_len hmy
    obtain ⟨N, hN⟩ : ∃ N, N = halfN r := ⟨_, rfl⟩
    have hNl : N ≤ (itemsR r).length ∧ N = ((itemsR r).length + 1) / 2 := by rw [hN]; unfold halfN; omega
    have e : ST = (stealN N r, (itemsR r).take N) := by rw [hN]; exact HST.out
    subst e
    have hm24 : r.many ≤ 1024 := by
      obtain ⟨⟨a1, a2⟩, ⟨b1, b2⟩, ⟨c1, c2⟩, d1, d2⟩ := (mayR_iff r).1 hmy
      omega
    have hm0 : 0 ≤ r.many := by omega
    have hq : r.many - Int.tdiv r.many 2 = (N : Int) := by
      rw [Int.tdiv_eq_ediv_of_nonneg (by omega)]
      omega
    have MK := fun W => make_rs (n := N) (by omega) W
    have hN0 : (0 : Int) ≤ (N : Int) := Int.natCast_nonneg _
    have hN1 : (N : Int) ≤ 1024 := by omega
    have HNL := Lib.hid hNl
    clear hNl hll
    go_upto_region 4 with (first
      | (guard_target = wpList _ _ _ (Oper.mk (some 11) _ _ _ _ none :: _) _ _; refine wpList_load_row rfl 24 _ rfl g5 rfl _ _ _ _ hS.x Try.underlying24 rfl (by kernel_rfl) ?_)
      | (go_at_call 30; (with_reducible refine ((CH _ _).go _).mono ?_); rintro _ u2 ⟨rfl, hb2⟩))
    have hS2 := hS.below hb2
    have k2 := j2.below hb2
    have x2 := hS2.x.cell 2
    simp at x2
    clear hS j2 hb2 CH HST hN
    go_upto_region 5 with (fail)
    have hS3 : HfS w g5 u2.heap.size r A9 c9 N (((itemsR r).take N).take 0 ++ List.replicate (N - 0) (0, 0)) (u2.alloc (.cells (zeroR N) 33)) := by
      have hbz : Below u2.heap.size u2 (u2.alloc (.cells (zeroR N) 33)) := (Below.refl _ _).alloc (Nat.le_refl _) _
      have hlt := k2.lt
      have := zeroR_own (B := w.heap.size + 2) (Held.new u2 33 (zeroR N)) (by omega) (by omega)
      exact ⟨hS2.below hbz, by simpa using this, k2.below hbz, fun q e => Nat.ne_of_lt (hS2.o.lt q e).2⟩
    have HS3 := Lib.hid hS3
    have HMY := Lib.hid (And.intro hmy h0)
    clear hS3 hS2 k2 x2 MK hq hm24 hm0 hmy h0
    generalize u2.alloc (.cells (zeroR N) 33) = W3 at *
    generalize u2.heap.size = gl at *
    generalize hLq : (itemsR r).take N = L at *
    have HLL := Lib.hid (show L.length = N by rw [← hLq, List.length_take]; have := HNL.out.1; omega)
    have HLQ := Lib.hid hLq
    clear hLq
    go_wp2_with fail
    go_loopw [27] (fun iv wr => ∃ j : Nat, iv = .int .i64 j ∧ j ≤ N ∧ HfS w g5 gl (stealN j r) A9 c9 N (L.take j ++ List.replicate (N - j) (0, 0)) wr) (fun iv _ => N - (intOf iv).toNat)
    case atStart => exact ⟨0, rfl, Nat.zero_le _, HS3.out⟩
    case round =>
      obtain ⟨j, rfl, hj, hS⟩ := hrel
      obtain ⟨hmy, h0⟩ := HMY.out
      by_cases hlt : j < N
      · have hjl : j < (itemsR r).length := by have := HNL.out.1; omega
        obtain ⟨t1, -, t3⟩ := steal_at hmy hjl
        have hjn : 0 < (itemsR (stealN j r)).length := by rw [(stealN_ok j hmy (by omega)).2.1, List.length_drop]; omega
        obtain ⟨b, hd, m, t, hr, h5, hb24, hm24, hst⟩ := steal_form t3 hjn
        have hsuc := stealN_succ j r
        rw [hst] at hsuc t1
        simp only at hsuc t1
        have hjL : j < L.length := by rw [HLL.out]; exact hlt
        have hxL : b.getD hd (0, 0) = L[j] := by
          rw [t1, List.getD_eq_getElem?_getD, ← List.getElem?_take_of_lt (show j < N from hlt), HLQ.out, List.getElem?_eq_getElem hjL]
          rfl
        have hfs := fill_set L N j hjL (by rw [HLL.out]; exact Nat.le_refl _)
        have hlen : (L.take j ++ List.replicate (N - j) ((0, 0) : P2)).length = N := by rw [List.length_append, List.length_take, List.length_replicate]; omega
        have CS := steal_m c9 (t : Int) wr (own2_at (by have := hS.s.o; rw [hr] at this; exact this)) (Nat.le_refl _) (off_own hS.s.o hS.s.x tyTR) (by have := hS.s.x; rw [hr] at this; exact this) h5 hm24 hb24
        rw [hxL] at CS
        generalize L[j] = x at *
        obtain ⟨xa, xb⟩ := x
        simp only at CS
        have hlt2 : (j : Int) < N := by omega
        have hj0 : (0 : Int) ≤ j := Int.natCast_nonneg j
        have HS := Lib.hid hS
        have HR := Lib.hid hr
        have HSUC := Lib.hid hsuc
        have HFS := Lib.hid hfs
        have HLEN := Lib.hid hlen
        clear hsuc hst hr hS t1 t3 hjn hxL hfs hlen hjL hjl hmy h0
        go_upto_region 9 with (go_at_call 32; (with_reducible refine CS.mono ?_); rintro _ u3 ⟨rfl, hx3, hg3⟩; have hS4 := HS.out.turn (R' := ⟨b, ((if hd + 1 = b.length then 0 else hd + 1 : Nat) : Int), m, t⟩) hx3 hg3 (by rw [HR.out]); obtain ⟨z0, z1, w0, w1⟩ := own2_cells hS4.l (k := j) (by rw [HLEN.out]; exact hlt); have hS5 := hS4.put j (xa, xb) (by rw [HLEN.out]; exact hlt); rw [HFS.out] at hS5; have HS5 := Lib.hid hS5; clear hS5 hS4 hx3 hg3)
        clear z0 z1 w0 w1
        generalize (u3.setCell ⟨gl, j * 2, none⟩ (.int .i64 xa)).setCell ⟨gl, j * 2 + 1, none⟩ (.int .i64 xb) = W5 at *
        go_wp2_with fail
        go_roundw
        case rel =>
          refine ⟨j + 1, by go_num, by omega, ?_⟩
          rw [HSUC.out]
          exact HS5.out
        case measure => simp [intOf]; omega
      · obtain rfl : j = N := by omega
        have hend : decide ((j : Int) < j) = false := by simp
        have htk : L.take j ++ List.replicate (j - j) ((0, 0) : P2) = L := by rw [List.take_of_length_le (by rw [HLL.out]; exact Nat.le_refl _), Nat.sub_self]; simp
        rw [htk] at hS
        have HLN := Lib.hid hS.l
        have HB := Lib.hid hS.s
        have hs := hS.s
        have k2 := hS.z
        clear hS htk hlt hj hmy h0
        go_wp2_with (first
          | (guard_target = wpList _ _ _ (Oper.mk (some 36) _ _ _ _ none :: _) _ _; refine wpList_load_row rfl 24 _ rfl g5 rfl _ _ _ _ hs.x Try.underlying24 rfl (by kernel_rfl) ?_)
          | (guard_target = wpList _ _ _ (Oper.mk _ (Op.store 24 (.tmp 2) _) _ _ _ none :: _) _ _; refine wpList_store_row rfl 24 _ _ rfl (w.heap.size + 1) (rgc A9 (stealN j r).buf.length c9 (stealN j r).head (stealN j r).many (stealN j r).most) rfl rfl _ _ k2 (by kernel_rfl) rfl (by simp [Value.oneCell']) ?_))
        have hF : RgS w (w.heap.size + 2) (w.heap.size + 1) 24 (stealN j r) A9 c9 _ := rgs_store k2 tyG hs.o hs.b (Nat.le_succ _) (Nat.le_add_right _ 2)
        have hl9 := r_same HLN.out fun q e => row_far0 wr (w.heap.size + 1) (rgc A9 (stealN j r).buf.length c9 (stealN j r).head (stealN j r).many (stealN j r).most) q (r_apart HLN.out k2 tyG q e)
        refine bodyPost_ret (results_ct0 rfl _ _ rfl rfl (load_ring hF.x rfl)) rfl ⟨_, some ⟨gl, 0, none⟩, j, ?_, hF.own, ?_, hF.b⟩
        · rw [show (stealN j r, L).2.length = j from HLL.out]; first | done | rfl
        · rw [show (stealN j r, L).2.length = j from HLL.out]; exact r_mono hl9 (Nat.le_add_right _ 2)
  · rw [decide_eq_false h0] at CH
    have e : ST = (r, []) := by
      rw [HST.out]
      unfold halfR halfN
      rw [show (itemsR r).length = 0 by omega]
      rfl
    subst e
    clear h0
    go_wp2_with (first
      | (guard_target = wpList _ _ _ (Oper.mk (some 11) _ _ _ _ none :: _) _ _; refine wpList_load_row rfl 24 _ rfl g5 rfl _ _ _ _ hS.x Try.underlying24 rfl (by kernel_rfl) ?_)
      | (go_at_call 30; (with_reducible refine ((CH _ _).go _).mono ?_); rintro _ u2 ⟨rfl, hb2⟩; have hS2 := hS.below hb2; have j5 := j2.below hb2)
      | (guard_target = wpList _ _ _ (Oper.mk (some 15) _ _ _ _ none :: _) _ _; refine wpList_load_row rfl 24 _ rfl g5 rfl _ _ _ _ hS2.x Try.underlying24 rfl (by kernel_rfl) ?_)
      | (guard_target = wpList _ _ _ (Oper.mk _ (Op.store 24 (.tmp 2) _) _ _ _ none :: _) _ _; refine wpList_store_row rfl 24 _ _ rfl (w.heap.size + 1) (rgc A9 r.buf.length c9 r.head r.many r.most) rfl rfl _ _ j5 (by kernel_rfl) rfl (by simp [Value.oneCell']) ?_))
    have hF : RgS w (w.heap.size + 2) (w.heap.size + 1) 24 r A9 c9 _ := rgs_store j5 tyG hS2.o hS2.b (Nat.le_succ _) (Nat.le_add_right _ 2)
    exact bodyPost_ret (results_ct0 rfl _ _ rfl rfl (load_ring hF.x rfl)) rfl ⟨_, none, 0, rfl, hF.own, Own2.nil _ _ _, hF.b⟩
set_option maxHeartbeats 2000000 in
set_option maxRecDepth 100000 in
theorem new_r (room most : Int) (w : World) : Calls Try.prog 19 #[.int .i64 room, .int .i64 most] w (RingQ w (newR room most).1 (.bool (newR room most).2)) := by
  have g4 := Held.new w 24 rz0
  have hb0 : Below w.heap.size w (w.alloc (.cells rz0 24)) := (Below.refl _ _).alloc (Nat.le_refl _) _
  by_cases h : 1 ≤ most ∧ most ≤ 1024 ∧ 1 ≤ room ∧ room ≤ most
  · have e : newR room most = (⟨List.replicate room.toNat (0, 0), 0, 0, most⟩, true) := if_pos h
    rw [e]
    obtain ⟨h1, h2, h3, h4⟩ := h
    obtain ⟨n, rfl⟩ : ∃ n : Nat, room = n := ⟨room.toNat, by omega⟩
    have c1 : decide (most < 1) = false := decide_eq_false (by omega)
    have c2 : decide (1024 < most) = false := decide_eq_false (by omega)
    have c3 : decide ((n : Int) < 1) = false := decide_eq_false (by omega)
    have c4 : decide (most < (n : Int)) = false := decide_eq_false (by omega)
    have HN := Lib.hid (show n ≤ 1024 by omega)
    have MK := fun W => make_rs (n := n) (by omega) W
    clear h1 h2 h3 h4 e
    go_enter Try.func19, Try.ntmps19
    go_upto_region 1 with (fail)
    generalize w.alloc (.cells rz0 24) = W0 at *
    have k4 := g4.alloc (.cells (zeroR n) 33)
    have hne := g4.lt
    go_wp2_with (guard_target = wpList _ _ _ (Oper.mk _ (Op.store 24 (.tmp 4) _) _ _ _ none :: _) _ _; refine wpList_store_row rfl 24 _ _ rfl w.heap.size (rgc (some ⟨W0.heap.size, 0, none⟩) n n 0 0 most) rfl rfl _ _ k4 (by kernel_rfl) rfl (by simp [Value.oneCell']) ?_)
    have ho : OwnR ((W0.alloc (.cells (zeroR n) 33)).setRow w.heap.size (rgc (some ⟨W0.heap.size, 0, none⟩) n n 0 0 most)) w.heap.size (.slice (some ⟨W0.heap.size, 0, none⟩) n n) (List.replicate n (0, 0)) :=
      zeroR_own (held_row (Held.new W0 33 (zeroR n)) (by omega) _) (by omega) (by have := HN.out; omega)
    refine bodyPost_ret (results_ct0 rfl _ _ rfl rfl (load_ring (held_rowSelf k4 (rgc (some ⟨W0.heap.size, 0, none⟩) n n 0 0 most)) rfl)) rfl ⟨_, rfl, ⟨some ⟨W0.heap.size, 0, none⟩, n, ?_, ?_⟩, below_setRow (hb0.alloc hb0.size _) (Nat.le_refl _) _⟩
    · simp only [Int.toNat_natCast, List.length_replicate]
    · simp only [Int.toNat_natCast, List.length_replicate]; exact ho
  · have e : newR room most = (⟨[], 0, 0, 0⟩, false) := if_neg h
    rw [e]
    have hcs : decide (most < 1) = true ∨ (decide (most < 1) = false ∧ decide (1024 < most) = true) ∨ (decide (most < 1) = false ∧ decide (1024 < most) = false ∧ decide (room < 1) = true) ∨ (decide (most < 1) = false ∧ decide (1024 < most) = false ∧ decide (room < 1) = false ∧ decide (most < room) = true) := by
      simp only [decide_eq_true_eq, decide_eq_false_iff_not]
      omega
    clear h e
    rcases hcs with c1 | ⟨c1, c2⟩ | ⟨c1, c2, c3⟩ | ⟨c1, c2, c3, c4⟩
    all_goals
      go_enter Try.func19, Try.ntmps19
      go_wp2_with (guard_target = wpList _ _ _ (Oper.mk _ (Op.store 24 (.tmp 4) _) _ _ _ none :: _) _ _; refine wpList_store_row rfl 24 _ _ rfl w.heap.size rz0 rfl rfl _ _ g4 (by kernel_rfl) rfl (by simp [Value.oneCell']) ?_)
      exact bodyPost_ret (results_ct0 rfl _ _ rfl rfl (load_ring (held_rowSelf g4 rz0) rfl)) rfl ⟨_, rfl, ⟨none, 0, rfl, Own2.nil _ _ _⟩, below_setRow hb0 (Nat.le_refl _) _⟩
end Go.Proofs.Ythmnaclmbglkdaa
