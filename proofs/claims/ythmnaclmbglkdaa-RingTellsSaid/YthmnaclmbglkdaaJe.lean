/- Layer 11: the code's method push. -/
import Derived.Test.YthmnaclmbglkdaaJd
namespace Go.Proofs.Ythmnaclmbglkdaa
set_option linter.unusedVariables false
set_option linter.unusedSimpArgs false
open Go.RowKit Go.ChangeShapes Go.WideShapes Go.ChangeAt Go.Sort

theorem tyBR : 49 ≠ 33 := by decide
theorem tyTR : 53 ≠ 33 := by decide
/-- On the way of a push: the ring so far in its block, its places the call's own. -/
structure PshS (w : World) (g C : Nat) (R : Rng) (A : Option Addr) (c : Nat) (W : World) : Prop where
  x : Held W g 49 (rgc A R.buf.length c R.head R.many R.most)
  o : OwnR W C (.slice A R.buf.length c) R.buf
  b : Below C w W
  k : ∀ k t cs, Held w k t cs → k ≠ g → t ≠ 33 → Held W k t cs
theorem PshS.below {w : World} {g C : Nat} {R : Rng} {A : Option Addr} {c : Nat} {W W' : World} (h : PshS w g C R A c W) (hb : Below W.heap.size W W') (hC : C ≤ W.heap.size) : PshS w g C R A c W' :=
  ⟨h.x.below hb, r_later h.o hb, h.b.trans (hb.mono hC), fun k t cs hk h1 h2 => (h.k k t cs hk h1 h2).below hb⟩
theorem PshS.grow {w : World} {g C : Nat} {R R' : Rng} {A A' : Option Addr} {c c' : Nat} {W W' : World} (h : PshS w g C R A c W) (hg : Held W' g 49 (rgc A' R'.buf.length c' R'.head R'.many R'.most)) (ho : OwnR W' W.heap.size (.slice A' R'.buf.length c') R'.buf) (hw : W.grownBy W' (some g)) (hC : C ≤ W.heap.size) (hCg : C ≤ g) : PshS w g C R' A' c' W' :=
  ⟨hg, r_mono ho hC, h.b.grown hw hC (fun q e => by cases e; exact hCg), fun k t cs hk h1 h2 => held_grown (h.k k t cs hk h1 h2) hw (by simpa using Ne.symm h1)⟩
theorem off_own {w : World} {B n c g : Nat} {A : Option Addr} {l : List P2} (ho : OwnR w B (.slice A n c) l) {t : TypeId} {cs : Array Value} (h : Held w g t cs) (ht : t ≠ 33) : Off A g := fun b off e => by
  subst e
  exact r_apart ho h ht b rfl
/-- An item put at its place. -/
theorem PshS.put {w : World} {g C gb c : Nat} {R : Rng} {W : World} (h : PshS w g C R (some ⟨gb, 0, none⟩) c W) (hCg : C ≤ g) (x : P2) (hi : idxN R.head.toNat R.buf.length R.many.toNat < R.buf.length) :
    PshS w g C (putR R x) (some ⟨gb, 0, none⟩) c (((W.setCell ⟨gb, idxN R.head.toNat R.buf.length R.many.toNat * 2, none⟩ (.int .i64 x.1)).setCell ⟨gb, idxN R.head.toNat R.buf.length R.many.toNat * 2 + 1, none⟩ (.int .i64 x.2)).setCell ⟨g, 2, none⟩ (.int .i64 (R.many + 1))) := by
  have hne : gb ≠ g := r_apart h.o h.x tyBR gb rfl
  have hCb := (h.o.lt gb rfl).1
  have hlen : (putR R x).buf.length = R.buf.length := List.length_set
  have hset := Own2.set h.o (idxN R.head.toNat R.buf.length R.many.toNat) x hi
  refine ⟨?_, ?_, ?_, ?_⟩
  · have := (((h.x.far (Ne.symm hne) (idxN R.head.toNat R.buf.length R.many.toNat * 2) (.int .i64 x.1)).far (Ne.symm hne) (idxN R.head.toNat R.buf.length R.many.toNat * 2 + 1) (.int .i64 x.2)).set_at 2 (.int .i64 (R.many + 1)))
    rw [hlen]
    exact this
  · rw [hlen]
    exact r_same hset fun q e => by
      simp only [Value.ownBlock, Option.some.injEq] at e
      subst e
      exact Below.heap_setCell _ ⟨g, 2, none⟩ _ _ hne
  · exact ((h.b.setCell (p := ⟨gb, _, none⟩) hCb _).setCell (p := ⟨gb, _, none⟩) hCb _).setCell (p := ⟨g, 2, none⟩) hCg _
  · intro k t cs hk h1 h2
    have hk1 := h.k k t cs hk h1 h2
    have hkb : k ≠ gb := fun e => by
      subst e
      exact r_apart h.o hk1 h2 k rfl rfl
    exact ((hk1.far hkb _ _).far hkb _ _).far h1 _ _
theorem manyR_succ (r : Rng) (l : List RefP) (i : Nat) (h : i < l.length) : manyR r (l.take (i + 1)) = oneR (manyR r (l.take i)) l[i] := by
  rw [List.take_succ_eq_append_getElem h, many_append]
  rfl
set_option maxHeartbeats 4000000 in
set_option maxRecDepth 100000 in
theorem push_m {A A2 : Option Addr} {r : Rng} {l : List P2} {B C g : Nat} (c c2 : Nat) (w : World) (hx : Held w g 49 (rgc A r.buf.length c r.head r.many r.most)) (ho : OwnR w C (.slice A r.buf.length c) r.buf) (hCg : C ≤ g) (hp : PAt w B A2 l) (hB : B ≤ C) (hl : l.length ≤ 1024) (hmay : mayR r = true) (hfit : r.many + l.length ≤ r.most) :
    Calls Try.prog 28 #[.pointer (some ⟨g, 0, none⟩), .slice A2 l.length c2] w fun e w' => e = .returned (.tuple #[]) ∧ ∃ A' c', PshS w g C (manyR r l) A' c' w' := by
  have hS0 : PshS w g C r A c w := ⟨hx, ho, Below.refl _ _, fun _ _ _ h _ _ => h⟩
  have hCw : C ≤ w.heap.size := Nat.le_of_lt (Nat.lt_of_le_of_lt hCg hx.lt)
  have hl2 : (l.length : Int) ≤ 1024 := by omega
  have HS0 := Lib.hid hS0
  have HP := Lib.hid hp
  have HC := Lib.hid (And.intro hCg (And.intro hCw hB))
  have HM := Lib.hid (And.intro hmay hfit)
  clear hS0 hx ho hCg hp hB hmay hfit hCw
  go_enter Try.func28, Try.ntmps28
  go_wp2_with fail
  go_loopw [8] (fun iv wr => ∃ (i : Nat) (A9 : Option Addr) (c9 : Nat), iv = .int .i64 i ∧ i ≤ l.length ∧ PshS w g C (manyR r (l.take i)) A9 c9 wr) (fun iv _ => l.length - (intOf iv).toNat)
  case atStart => exact ⟨0, A, c, rfl, Nat.zero_le _, HS0.out⟩
  case round =>
    obtain ⟨i, A9, c9, rfl, hi, hS⟩ := hrel
    obtain ⟨hCg, hCw, hBC⟩ := HC.out
    obtain ⟨hmay, hfit⟩ := HM.out
    by_cases hlt : i < l.length
    · obtain ⟨b2, off2, rfl, hb2, hc2⟩ := HP.out (by omega)
      obtain ⟨y0, y1⟩ := hc2 i hlt
      replace y0 := (hS.b.cell (p := ⟨b2, off2 + i * 2, none⟩) (by show b2 < C; omega)).trans y0
      replace y1 := (hS.b.cell (p := ⟨b2, off2 + i * 2 + 1, none⟩) (by show b2 < C; omega)).trans y1
      obtain ⟨m1, -, m3, m4, -, -⟩ := many_ok (l.take i) hmay (by rw [List.length_take]; omega)
      have HSUC := Lib.hid (manyR_succ r l i hlt)
      have hRlt : (manyR r (l.take i)).many < (manyR r (l.take i)).most := by rw [m3, m4, List.length_take]; omega
      clear hc2 m3 m4 hfit hmay
      generalize manyR r (l.take i) = R at *
      generalize l[i] = x at *
      obtain ⟨xa, xb⟩ := x
      simp only at y0 y1
      have hlt2 : (i : Int) < l.length := by omega
      have hi0 : (0 : Int) ≤ i := Int.natCast_nonneg i
      have HCW := Lib.hid (show C ≤ wr.heap.size from Nat.le_trans hCw hS.b.size)
      have HS := Lib.hid hS
      clear hS
      go_upto_region 3 with (fail)
      have hbA : Below wr.heap.size wr (wr.alloc (.cells #[.int .i64 xa, .int .i64 xb] 33)) := (Below.refl _ _).alloc (Nat.le_refl _) _
      have hS1 := HS.out.below hbA HCW.out
      have HOF := Lib.hid (show (Value.slice A9 R.buf.length c9).ownBlock ≠ some wr.heap.size from fun e => Nat.lt_irrefl _ (HS.out.o.lt _ e).2)
      have HCW1 := Lib.hid (Nat.le_trans HCW.out hbA.size)
      have x0 := hS1.x.cell 0
      have x2 := hS1.x.cell 2
      simp at x0 x2
      clear HS y0 y1
      go_quiet (fail)
      have hS2 := hS1.below (below_drewN (Below.refl _ _) nq) HCW1.out
      have hr2 := (Held.new wr 33 #[.int .i64 xa, .int .i64 xb]).below (below_drewN (Below.refl _ _) nq)
      have HCW2 := Lib.hid (Nat.le_trans HCW1.out (below_drewN (Below.refl 0 (wr.alloc (.cells #[.int .i64 xa, .int .i64 xb] 33))) nq).size)
      clear hS1 x0 x2 hbA HCW1
      generalize (wr.alloc (.cells #[.int .i64 xa, .int .i64 xb] 33)).drewN nq = W1 at *
      generalize wr.heap.size = gx at *
      have HROOM := Lib.hid (room_ok m1 hRlt)
      have HONE : Hid (oneR R (xa, xb) = putR (roomR R) (xa, xb)) := Lib.hid rfl
      go_upto_if 23 with (fail)
      go_cut [] (fun wx => ∃ A8 c8, PshS w g C (roomR R) A8 c8 wx ∧ Held wx gx 33 #[.int .i64 xa, .int .i64 xb] ∧ (Value.slice A8 (roomR R).buf.length c8).ownBlock ≠ some gx)
      case first =>
        by_cases hfull : R.many = R.buf.length
        · have ef : (R.many == (R.buf.length : Int)) = true := by simpa using hfull
          have CG := grow_m c9 W1 (own2_at hS2.o) (Nat.le_refl _) (off_own hS2.o hS2.x tyBR) hS2.x m1 hfull hRlt
          have HGX := Lib.hid hr2.lt
          go_wp2_with (go_at_call 35; (with_reducible refine CG.mono ?_); rintro _ u ⟨rfl, A8, c8, hx8, ho8, hg8⟩)
          go_meet
          case rel => exact ⟨A8, c8, hS2.grow hx8 ho8 hg8 HCW2.out hCg, held_grown hr2 hg8 (by
            intro e
            cases e
            have := hS2.x
            unfold Held at this hr2
            rw [hr2] at this
            simp at this), fun e => by
            have := (ho8.lt gx e).1
            have := HGX.out
            omega⟩
        · have ef : (R.many == (R.buf.length : Int)) = false := by simpa using hfull
          have e : roomR R = R := if_neg hfull
          have HE := Lib.hid e
          clear e
          go_wp2_with fail
          go_meet
          case rel =>
            refine ⟨A9, c9, ?_⟩
            rw [HE.out]
            exact ⟨hS2, hr2, HOF.out⟩
      case rest =>
      obtain ⟨A8, c8, hS3, hr3, hof3⟩ := hcut
      generalize wc = W3 at *
      rw [HONE.out] at HSUC
      clear hS2 hr2 HONE HOF
      obtain ⟨r1, -, -, -, r5, -, -⟩ := HROOM.out
      have hm3 : (roomR R).many = R.many := HROOM.out.2.2.1
      rw [← hm3] at r5
      clear HROOM hm3 hRlt m1
      generalize roomR R = RM at *
      obtain ⟨bb, hh, mm, tt, rfl, g1, g2, g3, g4, g5, g6⟩ := ring_nat r1
      simp only at r5 hof3
      have hmb : mm < bb.length := by omega
      obtain ⟨gb, c7, e7⟩ := r_form hS3.o g3
      simp only [Value.slice.injEq, true_and] at e7
      obtain ⟨rfl, rfl⟩ := e7
      have hi2 : idxN hh bb.length mm < bb.length := idxN_lt g5 hmb
      have CP := place_r (A := some ⟨gb, 0, none⟩) (n := bb.length) (h := hh) (i := mm) c8 (mm : Int) (tt : Int) g5 (by omega) (by omega)
      have hput := fun v (h : PshS w g C ⟨bb, hh, mm, tt⟩ (some ⟨gb, 0, none⟩) c8 v) => h.put hCg (xa, xb) (by simpa using hi2)
      simp only [Int.toNat_natCast] at hput
      have HPUT := Lib.hid hput
      have HI := Lib.hid hi2
      have x0 := hS3.x.cell 0
      have x1 := hS3.x.cell 1
      have x2 := hS3.x.cell 2
      have x3 := hS3.x.cell 3
      have q0 := hr3.cell 0
      have q1 := hr3.cell 1
      simp at x0 x1 x2 x3 q0 q1
      have hiI : (idxN hh bb.length mm : Int) < bb.length := by omega
      have hI0 : (0 : Int) ≤ (idxN hh bb.length mm : Int) := Int.natCast_nonneg _
      have hm0 : (0 : Int) ≤ mm := Int.natCast_nonneg mm
      have hm1 : (mm : Int) ≤ 1024 := by omega
      have k0 := fun d os => cell_regrown x0 d os
      have k1 := fun d os => cell_regrown x1 d os
      have k2 := fun d os => cell_regrown x2 d os
      have k3 := fun d os => cell_regrown x3 d os
      have k4 := fun d os => cell_regrown q0 d os
      have k5 := fun d os => cell_regrown q1 d os
      have HC3 := Lib.hid (Nat.le_trans hCw hS3.b.size)
      clear x0 x1 x2 x3 q0 q1 g1 g2 g3 g4 g5 g6 r1 r5 hput hi2 hmb
      generalize idxN hh bb.length mm = I at *
      go_upto_region 5 with (fail)
      refine wp_region_below_tail 17 (by kernel_rfl) (by kernel_rfl) ?_
      simp only [List.take_succ_cons, List.take_zero, List.drop_succ_cons, List.drop_zero]
      repeat (first
        | go_big_quiet_step ((go_at_call 33; (with_reducible exact Calls.regrown_of (CP.go _))))
        | quiet_step ((go_at_call 33; (with_reducible exact Calls.regrown_of (CP.go _)))))
      refine wpQuiet_nil ?_
      intro v hv
      have hbu := below_of_regrown hv
      clear hv k0 k1 k2 k3 k4 k5
      have hS4 := hS3.below hbu HC3.out
      obtain ⟨z0, z1, w0, w1⟩ := own2_cells hS4.o (k := I) HI.out
      simp only at z0 z1
      have hne : gb ≠ g := r_apart hS4.o hS4.x tyBR gb rfl
      have hne2 : g ≠ gb := Ne.symm hne
      have hF := HPUT.out v hS4
      have hx5 := (hS4.x.far hne2 (I * 2) (.int .i64 xa)).far hne2 (I * 2 + 1) (.int .i64 xb)
      have HF := Lib.hid hF
      generalize bb[I] = v0 at z0 z1
      clear hS3 hr3 hbu hF hS4
      go_upto_region 6 with (fail)
      generalize (v.setCell ⟨gb, I * 2, none⟩ (.int .i64 xa)).setCell ⟨gb, I * 2 + 1, none⟩ (.int .i64 xb) = W5 at *
      have x2 := hx5.cell 2
      have y2 := hx5.fz 2
      simp at x2
      clear z0 z1 w0 w1
      go_wp2_with fail
      go_roundw
      case rel =>
        refine ⟨i + 1, some ⟨gb, 0, none⟩, c8, by go_num, by omega, ?_⟩
        rw [HSUC.out]
        exact HF.out
      case measure => simp [intOf]; omega
    · obtain rfl : i = l.length := by omega
      have hend : decide ((l.length : Int) < l.length) = false := by simp
      rw [List.take_length] at hS
      have HS := Lib.hid hS
      clear hS hlt hi hmay hfit
      go_wp2_with fail
      go_end0
      exact ⟨rfl, A9, c9, HS.out⟩
end Go.Proofs.Ythmnaclmbglkdaa
