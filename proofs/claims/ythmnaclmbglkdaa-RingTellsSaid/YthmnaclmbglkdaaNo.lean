/- Layer 11: the document's one: an item more. -/
import Derived.Test.YthmnaclmbglkdaaNn
namespace Go.Proofs.Ythmnaclmbglkdaa
set_option linter.unusedVariables false
set_option linter.unusedSimpArgs false
open Go.RowKit Go.ChangeShapes Go.WideShapes Go.ChangeAt Go.Sort

theorem fill_set (L : List P2) (N i : Nat) (hi : i < L.length) (hN : L.length ≤ N) : (L.take i ++ List.replicate (N - i) ((0, 0) : P2)).set i L[i] = L.take (i + 1) ++ List.replicate (N - (i + 1)) (0, 0) := by
  have hl : (L.take i).length = i := by rw [List.length_take]; omega
  rw [List.set_append_right _ _ (by omega), hl, Nat.sub_self, List.take_succ_eq_append_getElem hi, show N - i = (N - (i + 1)) + 1 by omega, List.replicate_succ, List.set_cons_zero, List.append_assoc]
  rfl
theorem results_c0 {P : Program} {fn : Func} {p : Tmp} {ty1 : TypeId} (h : fn.results = #[.cell p ty1]) (tmps : Array Value) (w : World) {a1 : Addr} {v1 : Value} (hp : tmps.getD p undef = .pointer (some a1)) (l1 : (loadVar ty1 a1).run P w = .ok v1 w) : (results fn tmps).run P w = .ok v1 w := by
  have hp' : tmps[p]?.getD undef = .pointer (some a1) := by simpa using hp
  simp [results, h, hp', asAddr, l1]
/-- On the way: the ring, the ref, the result's cell. -/
structure OneS (w : World) (A : Option Addr) (n c : Nat) (hd m t xa xb : Int) (W : World) : Prop where
  g2 : Held W w.heap.size 24 (rgc A n c hd m t)
  g3 : Held W (w.heap.size + 1) 33 #[.int .i64 xa, .int .i64 xb]
  g4 : Held W (w.heap.size + 1 + 1) 24 rz0
  b : Below w.heap.size w W
  z : w.heap.size + 3 ≤ W.heap.size
theorem OneS.below {w : World} {A : Option Addr} {n c : Nat} {hd m t xa xb : Int} {W W' : World} (h : OneS w A n c hd m t xa xb W) (hb : Below W.heap.size W W') : OneS w A n c hd m t xa xb W' :=
  ⟨h.g2.below hb, h.g3.below hb, h.g4.below hb, Below.step h.b hb, Nat.le_trans h.z hb.size⟩
/-- Refs of the call's own are turned. -/
theorem OneS.turn {w : World} {A : Option Addr} {n c g : Nat} {hd m t xa xb : Int} {W : World} (h : OneS w A n c hd m t xa xb W) (hg : w.heap.size + 3 ≤ g) (i j : Nat) (x y : Value) : OneS w A n c hd m t xa xb ((W.setCell ⟨g, i, none⟩ x).setCell ⟨g, j, none⟩ y) :=
  ⟨(h.g2.far (by omega) _ _).far (by omega) _ _, (h.g3.far (by omega) _ _).far (by omega) _ _, (h.g4.far (by omega) _ _).far (by omega) _ _, (h.b.setCell (p := ⟨g, i, none⟩) (by show w.heap.size ≤ g; omega) _).setCell (p := ⟨g, j, none⟩) (by show w.heap.size ≤ g; omega) _, by simpa [World.setCell] using h.z⟩
set_option maxHeartbeats 4000000 in
set_option maxRecDepth 100000 in
theorem rone_any {A : Option Addr} {r : Rng} {B : Nat} (c : Nat) (x : RefP) (w : World) (hp : PAt w B A r.buf) (hB : B ≤ w.heap.size) (hmay : mayR r = true) (hlt : r.many < r.most) :
    Calls Try.prog 29 #[rgv A r.buf.length c r.head r.many r.most, gv x.1 x.2] w fun e w' => ∃ v, e = .returned v ∧ RingO w' w.heap.size v (oneR r x) ∧ Below w.heap.size w w' := by
  obtain ⟨xa, xb⟩ := x
  have hroom := room_ok hmay hlt
  have hll := items_len hmay
  obtain ⟨b, hd, m, t, rfl, h1, h2, h3, h4, h5, h6⟩ := ring_nat hmay
  have hb0 := below3 w (.cells (rgc A b.length c hd m t) 24) (.cells #[.int .i64 xa, .int .i64 xb] 33) (.cells rz0 24)
  have hS : OneS w A b.length c hd m t xa xb (((w.alloc (.cells (rgc A b.length c hd m t) 24)).alloc (.cells #[.int .i64 xa, .int .i64 xb] 33)).alloc (.cells rz0 24)) :=
    ⟨((Held.new w 24 _).alloc _).alloc _, (Held.new1 w _ 33 _).alloc _, Held.new2 w _ _ 24 rz0, hb0, by simp⟩
  have CI := ritems_any (r := ⟨b, hd, m, t⟩) c _ (hp.below hb0 hB) (Nat.le_trans hB hb0.size)
  simp only at CI hll hlt hroom
  have HP := Lib.hid (fun W (hb : Below w.heap.size w W) => hp.below hb hB)
  have HB := Lib.hid hB
  have hrm : roomR ⟨b, hd, m, t⟩ = if (m : Int) = b.length then ⟨itemsR ⟨b, hd, m, t⟩ ++ List.replicate ((min (2 * (m : Int)) t).toNat - (itemsR ⟨b, hd, m, t⟩).length) (0, 0), 0, m, t⟩ else ⟨b, hd, m, t⟩ := rfl
  generalize itemsR ⟨b, hd, m, t⟩ = L at *
  generalize hRM : roomR ⟨b, hd, m, t⟩ = RM at *
  have HONE : Hid (oneR ⟨b, hd, m, t⟩ (xa, xb) = putR RM (xa, xb)) := Lib.hid (by show putR (roomR _) _ = _; rw [hRM])
  have HRM := Lib.hid hrm
  have HROOM := Lib.hid hroom
  clear hrm hroom hRM hp hB hmay hb0
  have hmn : L.length = m := by omega
  go_enter Try.func29, Try.ntmps29
  go_upto_region 1 with (fail)
  generalize ((w.alloc (.cells (rgc A b.length c hd m t) 24)).alloc (.cells #[.int .i64 xa, .int .i64 xb] 33)).alloc (.cells rz0 24) = W0 at *
  have x0 := hS.g2.cell 0
  have x1 := hS.g2.cell 1
  have x2 := hS.g2.cell 2
  have x3 := hS.g2.cell 3
  simp at x0 x1 x2 x3
  go_upto_region 2 with (go_at_call 24; (with_reducible refine CI.mono ?_); rintro _ u ⟨A5, c5, rfl, hol, hb⟩)
  have hS1 := hS.below hb
  have hbe : Below u.heap.size u (u.alloc (.cells #[] 33)) := (Below.refl _ _).alloc (Nat.le_refl _) _
  have HVA := Lib.hid (HP.out _ (hS1.below hbe).b)
  have HBL := Lib.hid (show b.length ≤ 1000000 by omega)
  have HS1 := Lib.hid hS1
  have HOL := Lib.hid hol
  have HSZ := Lib.hid hS.z
  have HZ := Lib.hid (show w.heap.size + 3 ≤ W0.heap.size from hS.z)
  have x0 := (hS1.below hbe).g2.cell 0
  simp at x0
  have hb' := hb.size
  clear x1 x2 x3 hS CI hbe hb
  go_upto_region 3 with (at_builtin; refine wpList_append_rs0 rfl _ _ rfl u rfl rfl rfl rfl HVA.out HBL.out ?_; intro A6 c6 u6 k1 k2)
  have hS6 := HS1.out.below k2
  have k1' : OwnR u6 W0.heap.size (.slice A6 b.length c6) b := r_mono k1 hb'
  have hol6 : OwnR u6 W0.heap.size (.slice A5 m c5) L := by
    rw [← hmn]
    exact r_later HOL.out k2
  have x1 := hS6.g2.cell 1
  have x0 := hS6.g2.cell 0
  have x3 := hS6.g2.cell 3
  simp at x0 x1 x3
  have HU := Lib.hid k2.size
  clear k1 k2 HVA HBL HS1 HOL
  go_upto_if 23 with (fail)
  go_cut [6, 7] (fun v6 v7 wx => ∃ A7 c7, v6 = .slice A7 RM.buf.length c7 ∧ v7 = .int .i64 RM.head ∧ OwnR wx W0.heap.size (.slice A7 RM.buf.length c7) RM.buf ∧ OneS w A b.length c hd m t xa xb wx)
  case first =>
    by_cases hfull : m = b.length
    · have ef : ((m : Int) == (b.length : Int)) = true := by simp; omega
      obtain ⟨N, hN⟩ : ∃ N : Nat, N = min (2 * m) t := ⟨_, rfl⟩
      have hNN : min (2 * (m : Int)) t = N := by omega
      have hRM := HRM.out
      rw [if_pos (by omega), hNN, Int.toNat_natCast, hmn] at hRM
      subst hRM
      have hmt : m ≤ N := by omega
      have hN2 : N ≤ 1024 := by omega
      have hm0 : (0 : Int) ≤ m := Int.natCast_nonneg m
      have hm1 : (m : Int) ≤ 1024 := by omega
      have MK := fun W => make_rs (n := N) (by omega) W
      have HK := Lib.hid (And.intro hfull (And.intro hmt hN2))
      clear hN hfull hlt h1 h2 h3 h4 h5 h6 hll HRM HROOM HONE
      go_upto_region 5 with (fail)
      go_cut [6] (fun v6 wx => v6 = .slice (some ⟨u6.heap.size, 0, none⟩) N N ∧ wx = u6.alloc (.cells (zeroR N) 33))
      case first =>
        rcases Int.lt_or_le t (2 * (m : Int)) with hle | hle
        · have hv : (N : Int) = t := by omega
          have hle2 : ¬ 2 * (m : Int) ≤ t := by omega
          rw [hv] at MK
          go_wp2_with fail
          go_meet
          exact ⟨rfl, rfl⟩
        · have hv : (N : Int) = 2 * m := by omega
          rw [hv] at MK
          go_wp2_with fail
          go_meet
          exact ⟨rfl, rfl⟩
      case rest =>
      obtain ⟨rfl, rfl⟩ := hcut
      have hbz : Below u6.heap.size u6 (u6.alloc (.cells (zeroR N) 33)) := (Below.refl _ _).alloc (Nat.le_refl _) _
      have hgm : W0.heap.size ≤ u6.heap.size := Nat.le_trans hb' HU.out
      have hzo : OwnR (u6.alloc (.cells (zeroR N) 33)) W0.heap.size (.slice (some ⟨u6.heap.size, 0, none⟩) N N) (L.take 0 ++ List.replicate (N - 0) (0, 0)) := by
        have := zeroR_own (Held.new u6 33 (zeroR N)) hgm (by omega)
        simpa using this
      have hS7 := hS6.below hbz
      have hol7 : OwnR (u6.alloc (.cells (zeroR N) 33)) W0.heap.size (.slice A5 m c5) L := r_later hol6 hbz
      have HLN := Lib.hid (fun q e => (hol6.lt q e).2)
      have HZO := Lib.hid (And.intro hzo (And.intro hS7 hol7))
      have HGM := Lib.hid hgm
      clear hzo hS7 hol7 hbz x0 x1 x3 hS6 k1' hol6 hS1 hol MK hgm
      generalize u6.alloc (.cells (zeroR N) 33) = W7 at *
      generalize u6.heap.size = gm at *
      go_wp2_with fail
      go_loopw [8] (fun iv wr => ∃ i : Nat, iv = .int .i64 i ∧ i ≤ m ∧ OwnR wr W0.heap.size (.slice (some ⟨gm, 0, none⟩) N N) (L.take i ++ List.replicate (N - i) (0, 0)) ∧ OneS w A b.length c hd m t xa xb wr ∧ OwnR wr W0.heap.size (.slice A5 m c5) L) (fun iv _ => m - (intOf iv).toNat)
      case atStart => exact ⟨0, rfl, Nat.zero_le _, HZO.out.1, HZO.out.2.1, HZO.out.2.2⟩
      case round =>
        obtain ⟨i, rfl, hi, hzo, hS7, hol7⟩ := hrel
        obtain ⟨hfull, hmt, hN2⟩ := HK.out
        by_cases hlt : i < m
        · have hlt2 : (i : Int) < m := by omega
          have hltN : (i : Int) < N := by omega
          have hi0 : (0 : Int) ≤ i := Int.natCast_nonneg i
          have hiL : i < L.length := by omega
          have hlen : (L.take i ++ List.replicate (N - i) ((0, 0) : P2)).length = N := by rw [List.length_append, List.length_take, List.length_replicate]; omega
          obtain ⟨z0, z1, w0, w1⟩ := own2_cells hzo (k := i) (by omega)
          generalize (L.take i ++ List.replicate (N - i) ((0, 0) : P2))[i] = v0 at z0 z1
          obtain ⟨g5, c5', e5⟩ := r_form hol7 (by omega)
          simp only [Value.slice.injEq] at e5
          obtain ⟨rfl, -, rfl⟩ := e5
          obtain ⟨y0, y1, -, -⟩ := own2_cells hol7 (k := i) hiL
          have hfs := fill_set L N i hiL (by omega)
          have hn5 : g5 ≠ gm := fun e => by
            have := HLN.out g5 rfl
            omega
          have hgl := (hzo.lt gm rfl).2
          have hset := hzo.set i L[i] (by omega)
          rw [hfs] at hset
          have HSET := Lib.hid hset
          have HG3 := Lib.hid (show w.heap.size + 3 ≤ gm from Nat.le_trans HZ.out HGM.out)
          have HS7 := Lib.hid hS7
          have HO7 := Lib.hid hol7
          clear hset hfs hlen hfull hzo hS7 hol7
          generalize L[i] = v at *
          go_wp2_with fail
          go_roundw
          case rel => exact ⟨i + 1, by go_num, by omega, HSET.out, HS7.out.turn HG3.out _ _ _ _, r_same HO7.out fun q e => by
            simp only [Value.ownBlock, Option.some.injEq] at e
            subst e
            exact (Below.heap_setCell _ ⟨gm, _, none⟩ _ _ hn5).trans (Below.heap_setCell _ ⟨gm, _, none⟩ _ _ hn5)⟩
          case measure => simp [intOf]; omega
        · obtain rfl : i = m := by omega
          have hend : decide ((i : Int) < i) = false := by simp
          have htk : L.take i ++ List.replicate (N - i) ((0, 0) : P2) = L ++ List.replicate (N - i) (0, 0) := by rw [List.take_of_length_le (by omega)]
          rw [htk] at hzo
          have hlen : (L ++ List.replicate (N - i) ((0, 0) : P2)).length = N := by rw [List.length_append, List.length_replicate]; omega
          have HZ2 := Lib.hid hzo
          have HLE := Lib.hid hlen
          clear hzo hlen htk hlt hi
          go_wp2_with fail
          go_meet
          case rel => exact ⟨some ⟨gm, 0, none⟩, N, by rw [HLE.out], rfl, by rw [HLE.out]; exact HZ2.out, hS7⟩
    · have ef : ((m : Int) == (b.length : Int)) = false := by simp; omega
      have hRM := HRM.out
      rw [if_neg (by omega)] at hRM
      subst hRM
      go_wp2_with fail
      go_meet
      case rel => exact ⟨A6, c6, rfl, rfl, k1', hS6⟩
  case rest =>
  obtain ⟨A7, c7, rfl, rfl, ho, hS⟩ := hcut
  generalize wc = W8 at *
  clear x0 x1 x3 hS6 k1' hol6 hS1 hol HP HRM
  obtain ⟨r1, r2, r3, r4, r5, r6, r7⟩ := HROOM.out
  obtain ⟨bb, hh, mm, tt, rfl, g1, g2, g3, g4, g5, g6⟩ := ring_nat r1
  simp only at r3 r4 r5 r6 ho
  obtain rfl : m = mm := by omega
  obtain rfl : t = tt := by omega
  clear HROOM r1 r2 r3 r4 r7
  have hmb : m < bb.length := by omega
  obtain ⟨g7, c7', e7⟩ := r_form ho (by omega)
  simp only [Value.slice.injEq, true_and] at e7
  obtain ⟨rfl, rfl⟩ := e7
  have hi : idxN hh bb.length m < bb.length := idxN_lt g5 hmb
  have hix : ((decide ((bb.length : Int) ≤ (hh : Int) + m) = true ∧ (idxN hh bb.length m : Int) = (hh : Int) + m - bb.length) ∨ (decide ((bb.length : Int) ≤ (hh : Int) + m) = false ∧ (idxN hh bb.length m : Int) = (hh : Int) + m)) := by
    unfold idxN
    by_cases hc : bb.length ≤ hh + m
    · exact .inl ⟨decide_eq_true (by omega), by rw [if_pos hc]; omega⟩
    · exact .inr ⟨decide_eq_false (by omega), by rw [if_neg hc]; omega⟩
  have hput : putR ⟨bb, hh, m, t⟩ (xa, xb) = ⟨bb.set (idxN hh bb.length m) (xa, xb), hh, (m : Int) + 1, t⟩ := by
    unfold putR
    simp only [Int.toNat_natCast]
  obtain ⟨z0, z1, w0, w1⟩ := own2_cells ho (k := idxN hh bb.length m) hi
  have hset := ho.set (idxN hh bb.length m) (xa, xb) hi
  generalize bb[idxN hh bb.length m] = v0 at z0 z1
  generalize idxN hh bb.length m = I at *
  have hiI : (I : Int) < bb.length := by omega
  have hI0 : (0 : Int) ≤ I := Int.natCast_nonneg I
  have hh0 : (0 : Int) ≤ hh := Int.natCast_nonneg hh
  have hm0 : (0 : Int) ≤ m := Int.natCast_nonneg m
  have hh1 : (hh : Int) ≤ 1024 := by omega
  have hm1 : (m : Int) ≤ 1024 := by omega
  have hb1 : (bb.length : Int) ≤ 1024 := by omega
  have hg7 := ho.lt g7 rfl
  have HG7 := Lib.hid (show w.heap.size + 3 ≤ g7 from Nat.le_trans HZ.out hg7.1)
  have HSET := Lib.hid (hset : OwnR _ W0.heap.size _ (bb.set I (xa, xb)))
  have HS := Lib.hid hS
  have HPUT := Lib.hid hput
  have x2 := hS.g2.cell 2
  have x3 := hS.g2.cell 3
  have y0 := hS.g3.cell 0
  have y1 := hS.g3.cell 1
  simp at x2 x3 y0 y1
  clear hset hput hS ho g1 g2 g3 g4 g5 g6 r5 r6 h1 h2 h3 h4 h5 h6 hll hlt hmn hi hmb HSZ hb'
  rcases hix with ⟨hc1, hc2⟩ | ⟨hc1, hc2⟩
  all_goals
    go_upto_region 14 with (fail)
    rw [← hc2]
    clear hc1 hc2
    go_upto_region 15 with (fail)
    have hS9 := HS.out.turn HG7.out (I * 2) (I * 2 + 1) (.int .i64 xa) (.int .i64 xb)
    have ho9 := HSET.out
    simp only at ho9
    clear x2 x3 y0 y1 z0 z1 w0 w1
    generalize (W8.setCell ⟨g7, I * 2, none⟩ (.int .i64 xa)).setCell ⟨g7, I * 2 + 1, none⟩ (.int .i64 xb) = W9 at *
    have x2 := hS9.g2.cell 2
    have x3 := hS9.g2.cell 3
    simp at x2 x3
    have k4 := hS9.g4
    go_wp2_with (guard_target = wpList _ _ _ (Oper.mk _ (Op.store 24 (.tmp 4) _) _ _ _ none :: _) _ _; refine wpList_store_row rfl 24 _ _ rfl (w.heap.size + 1 + 1) (rgc (some ⟨g7, 0, none⟩) bb.length c7 hh ((m : Int) + 1) t) rfl rfl _ _ k4 (by kernel_rfl) rfl (by simp [Value.oneCell']) ?_)
    have ho10 := r_same ho9 fun q e => row_far0 W9 (w.heap.size + 1 + 1) (rgc (some ⟨g7, 0, none⟩) bb.length c7 hh ((m : Int) + 1) t) q (r_apart ho9 k4 tyGR q e)
    have ho11 := r_mono ho10 (show w.heap.size ≤ W0.heap.size by have := HZ.out; omega)
    refine bodyPost_ret (results_c0 rfl _ _ rfl (load_ring (held_rowSelf k4 (rgc (some ⟨g7, 0, none⟩) bb.length c7 hh ((m : Int) + 1) t)) rfl)) rfl ⟨_, rfl, ?_, below_setRow hS9.b (Nat.le_succ_of_le (Nat.le_succ _)) _⟩
    rw [HONE.out, HPUT.out]
    refine ⟨some ⟨g7, 0, none⟩, c7, by simp only [List.length_set], ?_⟩
    have e : (bb.set I (xa, xb)).length = bb.length := List.length_set
    show OwnR _ w.heap.size (.slice (some ⟨g7, 0, none⟩) (bb.set I (xa, xb)).length c7) (bb.set I (xa, xb))
    rw [e]
    exact ho11
end Go.Proofs.Ythmnaclmbglkdaa
