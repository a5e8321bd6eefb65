/- Layer 12: Refs. -/
import Derived.Test.YtkpjlobpaippdaaYj
namespace Go.Proofs.Ytkpjlobpaippdaa
set_option linter.unusedVariables false
set_option linter.unusedSimpArgs false
open Go.RowKit Go.ChangeShapes Go.WideShapes Go.ChangeAt Go.Sort

theorem tyPR : 25 ≠ 27 := by decide
abbrev cz0 : Array Value := #[.int .i64 0, .bool false, .int .i64 0, .int .i64 0, .slice none 0 0, .slice none 0 0, .slice none 0 0, .int .i64 0, .int .i64 0, .int .i64 0, .int .i64 0, .int .i64 0, .int .i64 0, .int .i64 0, .int .i64 0, .int .i64 0, .int .i64 0, .int .i64 0]
theorem refs_step {l : List Cel} {j : Nat} (hj : j < l.length) : refsL (l.take (j + 1)) 0 = refsL (l.take j) 0 ++ (if l[j].used = true then [((j : Int), l[j].gen)] else []) := by
  rw [List.take_succ_eq_append_getElem hj, refsL_app]
  congr 1
  have e : (0 + (l.take j).length) = j := by rw [List.length_take]; omega
  rw [e]
  simp only [refsL]
/-- What a call leaves that tells refs. -/
def RefsQ (w : World) (l : List P2) (e : Ending) (w' : World) : Prop := ∃ A c, e = .returned (.slice A l.length c) ∧ OwnR w' w.heap.size (.slice A l.length c) l ∧ Below w.heap.size w w'
theorem below_grown {w w' : World} {row : Option Nat} {C : Nat} (hg : w.grownBy w' row) (h : ∀ q, row = some q → C ≤ q) (hC : C ≤ w.heap.size) : Below C w w' :=
  ⟨hg.os, hg.tape, hg.output, hg.size, fun k hk => hg.block k (by omega) fun e => absurd (h k e.symm) (by omega)⟩
set_option maxHeartbeats 4000000 in
set_option maxRecDepth 100000 in
theorem refs_z {A A2 : Option Addr} {p : Zp} {B n m : Nat} (c c2 : Nat) (w : World) (hn : p.cells.length = n) (hm : p.free.length = m) (h : PAtZ w B A A2 p) (hl : LenZ p) (hB : B ≤ w.heap.size) :
    Calls Try.prog 25 #[pv A n c A2 m c2 p.most] w (RefsQ w (refsZ p)) := by
  have HN := Lib.hid hn
  have HM := Lib.hid hm
  have hn1 : n ≤ 100000 := by have := hl.cells; omega
  have hm1 : m ≤ 100000 := by have := hl.free; omega
  obtain ⟨b1, hb1⟩ : ∃ b, okZ p = b := ⟨_, rfl⟩
  have MC := fun W (hbs : B ≤ W.heap.size) (hp : PAtZ W B A A2 p) => may_z c c2 W HN.out HM.out hp hn1 hm1 hbs
  simp only [hb1] at MC
  obtain ⟨RR, hRR⟩ : ∃ RR, refsZ p = RR := ⟨_, rfl⟩
  rw [hRR]
  unfold refsZ at hRR
  rw [hb1] at hRR
  have HRR := Lib.hid hRR
  have hp := h.below ((Below.refl _ _).alloc (Nat.le_refl _) (.cells (pc A n c A2 m c2 p.most) 25)) hB
  have hb0 : Below w.heap.size w (w.alloc (.cells (pc A n c A2 m c2 p.most) 25)) := (Below.refl _ _).alloc (Nat.le_refl _) _
  have g1 := Held.new w 25 (pc A n c A2 m c2 p.most)
  have hbs := Nat.le_trans hB hb0.size
  have hB0 := hB
  clear h hl hn hm hB hRR hb1
  cases b1 with
  | false =>
    obtain rfl : [] = RR := HRR.out
    go_enter Try.func25, Try.ntmps25
    go_upto_region 1 with (fail)
    generalize w.alloc (.cells (pc A n c A2 m c2 p.most) 25) = W0 at *
    go_wp2_with (first
  | (guard_target = wpList _ _ _ (Oper.mk (some 6) _ _ _ _ none :: _) _ _; refine wpList_load_row rfl 25 _ rfl w.heap.size rfl _ _ _ _ g1 Try.underlying25 rfl (by kernel_rfl) ?_)
  | (go_at_call 27; (with_reducible refine (MC _ hbs hp).mono ?_); rintro _ u1 ⟨rfl, hb1⟩))
    go_ret
    exact ⟨none, 0, rfl, Own2.nil _ _ _, Below.step hb0 hb1⟩
  | true =>
    go_enter Try.func25, Try.ntmps25
    go_upto_region 1 with (fail)
    generalize w.alloc (.cells (pc A n c A2 m c2 p.most) 25) = W0 at *
    go_upto_region 4 with (first
  | (guard_target = wpList _ _ _ (Oper.mk (some 6) _ _ _ _ none :: _) _ _; refine wpList_load_row rfl 25 _ rfl w.heap.size rfl _ _ _ _ g1 Try.underlying25 rfl (by kernel_rfl) ?_)
  | (go_at_call 27; (with_reducible refine (MC _ hbs hp).mono ?_); rintro _ u1 ⟨rfl, hb1⟩))
    replace g1 := Held.below g1 hb1
    replace hp := hp.below hb1 hbs
    replace hbs := Nat.le_trans hbs hb1.size
    replace hb0 := Below.step hb0 hb1
    have x0 := g1.cell 0
    simp at x0
    have HP := Lib.hid hp
    have HB0 := Lib.hid hb0
    have G1 := Lib.hid g1
    clear hp hb0 g1 MC hb1
    go_upto_region 5 with (fail)
    clear x0
    go_loopw [12, 3] (fun iv sv W => ∃ (j k : Nat) (A9 : Option Addr) (c9 : Nat), iv = .int .i64 j ∧ sv = .slice A9 k c9 ∧ j ≤ n ∧ (refsL (p.cells.take j) 0).length = k ∧ OwnR W w.heap.size (.slice A9 k c9) (refsL (p.cells.take j) 0) ∧ Below w.heap.size w W ∧ PAtZ W B A A2 p ∧ B ≤ W.heap.size) (fun iv _ _ => n - (intOf iv).toNat)
    case atStart => exact ⟨0, 0, _, _, rfl, rfl, by omega, rfl, Own2.nil _ _ _, HB0.out, HP.out, hbs⟩
    case round =>
      clear HP HB0 G1 hbs
      obtain ⟨j, k, A9, c9, rfl, rfl, hj, hk, ho, hbw, hp, hbs⟩ := hrel
      have hj0 : (0 : Int) ≤ j := by omega
      by_cases hlt : j < n
      · have hjn : j < p.cells.length := by rw [HN.out]; exact hlt
        have hlt2 : (j : Int) < n := by omega
        have hnI : (n : Int) ≤ 100000 := by omega
        have HST := Lib.hid (refs_step hjn)
        obtain ⟨b, off, rfl, -, cs, s1, s2, -, -, -, -, hr⟩ := hp.cells.cel hjn
        obtain ⟨u, hu⟩ : ∃ u, p.cells[j].used = u := ⟨_, rfl⟩
        obtain ⟨g, hg⟩ : ∃ g, p.cells[j].gen = g := ⟨_, rfl⟩
        have hcv : celv p.cells[j] cs = .int .i64 g :: .bool u :: cs.toList := by rw [← hg, ← hu]
        rw [hcv] at hr
        rw [hu, hg] at HST
        obtain ⟨arr, harr⟩ : ∃ arr : Array Value, (Value.int .i64 g :: .bool u :: cs.toList).toArray = arr := ⟨_, rfl⟩
        have a1 : arr.size = 18 := by rw [← harr]; simp [s1]
        have a2 : arr.all (·.oneCell') = true := by
          rw [← harr]
          have s3 := Array.all_eq_true_iff_forall_mem.1 s2
          refine Array.all_eq_true_iff_forall_mem.2 fun x hx => ?_
          simp at hx
          rcases hx with rfl | rfl | hx
          · rfl
          · rfl
          · exact s3 x (by simpa using hx)
        have a3 : arr[0]? = some (.int .i64 g) := by rw [← harr]; rfl
        have a4 : arr[1]? = some (.bool u) := by rw [← harr]; rfl
        have HR := Lib.hid (show wr.rangeAt b (off + j * 18) arr.toList by rw [← harr]; exact hr)
        have A1 := Lib.hid a1
        have A2' := Lib.hid a2
        have A3 := Lib.hid a3
        have A4 := Lib.hid a4
        obtain ⟨L, hL⟩ : ∃ L, refsL (p.cells.take j) 0 = L := ⟨_, rfl⟩
        rw [hL] at hk ho HST
        have hkn : k ≤ n := by
          rw [← hk, ← hL]
          have := refsL_len (p.cells.take j) 0
          rw [List.length_take] at this
          omega
        clear hr hcv hu hg harr a1 a2 a3 a4 s1 s2 hL
        have hz := Held.new wr 62 cz0
        go_upto_region 7 with (first
          | (guard_target = wpList _ _ _ (Oper.mk (some 16) _ _ _ _ none :: _) _ _; refine wpList_load_midA rfl 62 _ rfl b (off + j * 18) rfl arr _ HR.out Try.underlying62 rfl (by rw [A1.out]; kernel_rfl) ?_)
          | (guard_target = wpList _ _ _ (Oper.mk (some 5) (Op.alloc 62) _ _ _ none :: _) _ _; refine wpList_plain rfl fun K hK => wp_alloc_R 62 rfl cz0 (by kernel_rfl) (hK _ _ ?_))
          | (guard_target = wpList _ _ _ (Oper.mk _ (Op.store 62 (.tmp 5) _) _ _ _ none :: _) _ _; refine wpList_store_row rfl 62 _ _ rfl wr.heap.size arr rfl rfl _ _ hz (by rw [A1.out]; kernel_rfl) (by rw [A1.out]; rfl) A2'.out ?_))
        have hb5 : Below wr.heap.size wr ((wr.alloc (.cells cz0 62)).setRow wr.heap.size arr) := below_setRow ((Below.refl _ _).alloc (Nat.le_refl _) _) (Nat.le_refl _) _
        have h5 : Held ((wr.alloc (.cells cz0 62)).setRow wr.heap.size arr) wr.heap.size 62 arr := held_rowSelf hz arr
        have c0 := (h5.cell 0).trans A3.out
        have c1 := (h5.cell 1).trans A4.out
        have ho5 : OwnR ((wr.alloc (.cells cz0 62)).setRow wr.heap.size arr) w.heap.size (.slice A9 k c9) L := r_later ho hb5
        have hp5 := hp.below hb5 hbs
        have hbs5 := Nat.le_trans hbs hb5.size
        have hbw5 := Below.step hbw hb5
        clear hz hb5 h5 ho hp hbs hbw HR
        generalize (wr.alloc (.cells cz0 62)).setRow wr.heap.size arr = W5 at *
        generalize wr.heap.size = g5 at *
        cases u with
        | false =>
          have HST' := HST.out
          simp at HST'
          have HS2 := Lib.hid HST'
          have FF := Lib.hid (And.intro ho5 (And.intro hp5 (And.intro hbs5 hbw5)))
          have HK := Lib.hid hk
          clear HST HST' ho5 hp5 hbs5 hbw5 hk
          go_wp2_with fail
          go_roundw
          case rel => exact ⟨j + 1, k, A9, c9, by go_num, rfl, by omega, by rw [HS2.out]; exact HK.out, by rw [HS2.out]; exact FF.out.1, FF.out.2.2.2, FF.out.2.1, FF.out.2.2.1⟩
          case measure => simp [intOf]; omega
        | true =>
          have HST' := HST.out
          simp at HST'
          have HS2 := Lib.hid HST'
          have hbA : Below W5.heap.size W5 (W5.alloc (.cells #[.int .i64 j, .int .i64 g] 27)) := (Below.refl _ _).alloc (Nat.le_refl _) _
          have HOA := Lib.hid (r_later ho5 hbA : OwnR _ w.heap.size (.slice A9 k c9) L)
          have HVA := Lib.hid (one2_at (t := 27) (w := W5) (j : Int) g)
          have HBB := Lib.hid (Below.step hbw5 hbA)
          have HLE := Lib.hid (show L.length + 1 ≤ 1000000 by rw [hk]; omega)
          have HPA := Lib.hid (hp5.below hbA hbs5)
          have HBS := Lib.hid (Nat.le_trans hbs5 hbA.size)
          have HK := Lib.hid hk
          have FB := Lib.hid (show B ≤ w.heap.size from hB0)
          clear HST HST' ho5 hp5 hbs5 hbw5 hk hbA
          go_wp2_with (at_builtin; refine wpList_append_rs (k := [((j : Int), g)]) (n := 1) rfl _ _ rfl w.heap.size _ L rfl HOA.out rfl rfl HVA.out (Nat.le_refl _) HLE.out HBB.out.size ?_; intro v' u6 k1 k2 k3; obtain ⟨A', c', rfl, _⟩ := k1.lies; have K1 := Lib.hid k1; have K2 := Lib.hid k2; clear k1 k2 k3)
          go_roundw
          case rel =>
            have h9 := K1.out
            have hlen : (L ++ [((j : Int), g)]).length = k + 1 := by rw [List.length_append, HK.out]; rfl
            have e9 : L.length + 1 = k + 1 := by rw [HK.out]
            rw [hlen] at h9
            refine ⟨j + 1, k + 1, A', c', by go_num, by rw [HK.out], by omega, by rw [HS2.out]; exact hlen, by rw [HS2.out]; exact h9, HBB.out.grown K2.out HBB.out.size (fun q e => (HOA.out.lt q e).1), ?_, Nat.le_trans HBS.out K2.out.size⟩
            exact HPA.out.below (C := w.heap.size) (below_grown K2.out (fun q e => (HOA.out.lt q e).1) HBB.out.size) FB.out
          case measure => simp [intOf]; omega
      · obtain rfl : j = n := by omega
        have e9 : refsL (p.cells.take j) 0 = RR := by
          rw [List.take_of_length_le (by rw [HN.out]; exact Nat.le_refl _)]
          exact HRR.out
        rw [e9] at hk ho
        subst hk
        have HO := Lib.hid ho
        have HBW := Lib.hid hbw
        clear ho hbw hp hbs hlt e9
        go_wp2_with fail
        go_ret
        exact ⟨A9, c9, rfl, HO.out, HBW.out⟩
set_option maxHeartbeats 4000000 in
set_option maxRecDepth 100000 in
theorem rrefs_z {A A2 : Option Addr} {p : Zp} {B n m : Nat} (c c2 : Nat) (w : World) (hn : p.cells.length = n) (hm : p.free.length = m) (h : PAtZ w B A A2 p) (hl : LenZ p) (hB : B ≤ w.heap.size) :
    Calls Try.prog 26 #[pv A n c A2 m c2 p.most] w (RefsQ w (refsZ p)) := by
  have HN := Lib.hid hn
  have HM := Lib.hid hm
  have hn1 : n ≤ 100000 := by have := hl.cells; omega
  have hm1 : m ≤ 100000 := by have := hl.free; omega
  obtain ⟨b1, hb1⟩ : ∃ b, okZ p = b := ⟨_, rfl⟩
  have MC := fun W (hbs : B ≤ W.heap.size) (hp : PAtZ W B A A2 p) => rmay_z c c2 W HN.out HM.out hp hn1 hm1 hbs
  simp only [hb1] at MC
  obtain ⟨RR, hRR⟩ : ∃ RR, refsZ p = RR := ⟨_, rfl⟩
  rw [hRR]
  unfold refsZ at hRR
  rw [hb1] at hRR
  have HRR := Lib.hid hRR
  have hb0 := below2 w (.cells (pc A n c A2 m c2 p.most) 25) (.cells #[] 27)
  have hp := h.below hb0 hB
  have g1 := (Held.new w 25 (pc A n c A2 m c2 p.most)).alloc (.cells #[] 27)
  have hbs := Nat.le_trans hB hb0.size
  have ho := Own2.made 27 (w.alloc (.cells (pc A n c A2 m c2 p.most) 25))
  have hs1 : (w.alloc (.cells (pc A n c A2 m c2 p.most) 25)).heap.size = w.heap.size + 1 := by simp
  rw [hs1] at ho
  have hB0 := hB
  have hn0 := HN.out
  clear h hl hn hm hB hRR hb1
  go_enter Try.func26, Try.ntmps26
  go_upto_region 1 with (fail)
  go_upto_region 3 with (fail)
  generalize (w.alloc (.cells (pc A n c A2 m c2 p.most) 25)).alloc (.cells #[] 27) = W0 at *
  have G1 := Lib.hid g1
  have HP := Lib.hid hp
  have HO := Lib.hid (r_mono ho (Nat.le_succ _) : OwnR _ w.heap.size _ [])
  have HB0 := Lib.hid hb0
  clear g1 hp ho hb0 hs1
  cases b1 with
  | false =>
    obtain rfl : [] = RR := HRR.out
    go_loopw [4, 3] (fun iv sv W => iv = .int .i64 0 ∧ sv = .slice (some ⟨w.heap.size + 1, 0, none⟩) 0 0 ∧ W = W0) (fun _ _ _ => 0)
    case atStart => exact ⟨rfl, rfl, rfl⟩
    case round =>
      obtain ⟨rfl, rfl, rfl⟩ := hrel
      have g1 := G1.out
      have x0 := g1.cell 0
      simp at x0
      have hp := HP.out
      by_cases hpos : 0 < n
      · have hposI : (0 : Int) < n := by omega
        go_wp2_with (first
  | (guard_target = wpList _ _ _ (Oper.mk (some 12) _ _ _ _ _ :: _) _ _; refine wpList_done rfl ?_; refine wpList_load_row rfl 25 _ rfl w.heap.size rfl _ _ _ _ g1 Try.underlying25 rfl (by kernel_rfl) ?_)
  | (go_at_call 28; (with_reducible refine (MC _ hbs hp).mono ?_); rintro _ u1 ⟨rfl, hb1⟩))
        go_ret
        exact ⟨_, _, rfl, r_later HO.out hb1, Below.step HB0.out hb1⟩
      · obtain rfl : n = 0 := by omega
        go_wp2_with (first
  | (guard_target = wpList _ _ _ (Oper.mk (some 12) _ _ _ _ _ :: _) _ _; refine wpList_done rfl ?_; refine wpList_load_row rfl 25 _ rfl w.heap.size rfl _ _ _ _ g1 Try.underlying25 rfl (by kernel_rfl) ?_)
  | (go_at_call 28; (with_reducible refine (MC _ hbs hp).mono ?_); rintro _ u1 ⟨rfl, hb1⟩))
        go_ret
        exact ⟨_, _, rfl, HO.out, HB0.out⟩
  | true =>
    go_loopw [4, 3] (fun iv sv W => ∃ (j k : Nat) (A9 : Option Addr) (c9 : Nat), iv = .int .i64 j ∧ sv = .slice A9 k c9 ∧ j ≤ n ∧ (refsL (p.cells.take j) 0).length = k ∧ OwnR W w.heap.size (.slice A9 k c9) (refsL (p.cells.take j) 0) ∧ Below w.heap.size w W ∧ PAtZ W B A A2 p ∧ B ≤ W.heap.size ∧ Held W w.heap.size 25 (pc A n c A2 m c2 p.most)) (fun iv _ _ => n - (intOf iv).toNat)
    case atStart => exact ⟨0, 0, _, _, rfl, rfl, by omega, rfl, HO.out, HB0.out, HP.out, hbs, G1.out⟩
    case round =>
      clear HP HB0 G1 hbs HO
      obtain ⟨j, k, A9, c9, rfl, rfl, hj, hk, ho, hbw, hp, hbs, g1⟩ := hrel
      have hj0 : (0 : Int) ≤ j := by omega
      have x0 := g1.cell 0
      simp at x0
      by_cases hlt : j < n
      · have hjn : j < p.cells.length := by rw [HN.out]; exact hlt
        have hlt2 : (j : Int) < n := by omega
        have hnI : (n : Int) ≤ 100000 := by omega
        have HST := Lib.hid (refs_step hjn)
        have HJ := Lib.hid (And.intro ho (And.intro hbw hk))
        clear ho hbw hk
        go_upto_region 5 with (first
  | (guard_target = wpList _ _ _ (Oper.mk (some 12) _ _ _ _ _ :: _) _ _; refine wpList_done rfl ?_; refine wpList_load_row rfl 25 _ rfl w.heap.size rfl _ _ _ _ g1 Try.underlying25 rfl (by kernel_rfl) ?_)
  | (go_at_call 28; (with_reducible refine (MC _ hbs hp).mono ?_); rintro _ u1 ⟨rfl, hb1⟩))
        replace g1 := Held.below g1 hb1
        have hp1 := hp.below hb1 hbs
        have hbs1 := Nat.le_trans hbs hb1.size
        obtain ⟨ho, hbw, hk⟩ := HJ.out
        have hbw1 := Below.step hbw hb1
        have ho1 : OwnR u1 w.heap.size (.slice A9 k c9) (refsL (p.cells.take j) 0) := r_later ho hb1
        have x0 := g1.cell 0
        simp at x0
        obtain ⟨b, off, rfl, -, cs, -, -, -, k0, k1, -, -⟩ := hp1.cells.cel hjn
        obtain ⟨u, hu⟩ : ∃ u, p.cells[j].used = u := ⟨_, rfl⟩
        obtain ⟨g, hg⟩ : ∃ g, p.cells[j].gen = g := ⟨_, rfl⟩
        rw [hg] at k0
        rw [hu] at k1
        rw [hu, hg] at HST
        obtain ⟨L, hL⟩ : ∃ L, refsL (p.cells.take j) 0 = L := ⟨_, rfl⟩
        rw [hL] at hk ho1 HST
        have hkn : k ≤ n := by
          rw [← hk, ← hL]
          have := refsL_len (p.cells.take j) 0
          rw [List.length_take] at this
          omega
        clear hu hg hL hp hbs hbw ho hb1 HJ MC
        cases u with
        | false =>
          have HST' := HST.out
          simp at HST'
          have HS2 := Lib.hid HST'
          have FF := Lib.hid (And.intro ho1 (And.intro hp1 (And.intro hbs1 (And.intro hbw1 g1))))
          have HK := Lib.hid hk
          clear HST HST' ho1 hp1 hbs1 hbw1 hk g1
          go_wp2_with fail
          go_roundw
          case rel => exact ⟨j + 1, k, A9, c9, by go_num, rfl, by omega, by rw [HS2.out]; exact HK.out, by rw [HS2.out]; exact FF.out.1, FF.out.2.2.2.1, FF.out.2.1, FF.out.2.2.1, FF.out.2.2.2.2⟩
          case measure => simp [intOf]; omega
        | true =>
          have HST' := HST.out
          simp at HST'
          have HS2 := Lib.hid HST'
          have hbA : Below u1.heap.size u1 (u1.alloc (.cells #[.int .i64 j, .int .i64 g] 27)) := (Below.refl _ _).alloc (Nat.le_refl _) _
          have HOA := Lib.hid (r_later ho1 hbA : OwnR _ w.heap.size (.slice A9 k c9) L)
          have HVA := Lib.hid (one2_at (t := 27) (w := u1) (j : Int) g)
          have HBB := Lib.hid (Below.step hbw1 hbA)
          have HLE := Lib.hid (show L.length + 1 ≤ 1000000 by rw [hk]; omega)
          have HPA := Lib.hid (hp1.below hbA hbs1)
          have HBS := Lib.hid (Nat.le_trans hbs1 hbA.size)
          have HK := Lib.hid hk
          have FB := Lib.hid (show B ≤ w.heap.size from hB0)
          have HXA := Lib.hid (Held.below g1 hbA)
          have HNE : Hid ((Value.slice A9 k c9).ownBlock ≠ some w.heap.size) := Lib.hid (fun e => r_apart HOA.out HXA.out tyPR _ e rfl)
          clear HST HST' ho1 hp1 hbs1 hbw1 hk hbA g1
          go_wp2_with (at_builtin; refine wpList_append_rs (k := [((j : Int), g)]) (n := 1) rfl _ _ rfl w.heap.size _ L rfl HOA.out rfl rfl HVA.out (Nat.le_refl _) HLE.out HBB.out.size ?_; intro v' u6 k1 k2 k3; obtain ⟨A', c', rfl, _⟩ := k1.lies; have K1 := Lib.hid k1; have K2 := Lib.hid k2; clear k1 k2 k3)
          go_roundw
          case rel =>
            have h9 := K1.out
            have hlen : (L ++ [((j : Int), g)]).length = k + 1 := by rw [List.length_append, HK.out]; rfl
            rw [hlen] at h9
            refine ⟨j + 1, k + 1, A', c', by go_num, by rw [HK.out], by omega, by rw [HS2.out]; exact hlen, by rw [HS2.out]; exact h9, HBB.out.grown K2.out HBB.out.size (fun q e => (HOA.out.lt q e).1), ?_, Nat.le_trans HBS.out K2.out.size, held_grown HXA.out K2.out HNE.out⟩
            exact HPA.out.below (C := w.heap.size) (below_grown K2.out (fun q e => (HOA.out.lt q e).1) HBB.out.size) FB.out
          case measure => simp [intOf]; omega
      · obtain rfl : j = n := by omega
        have e9 : refsL (p.cells.take j) 0 = RR := by
          rw [List.take_of_length_le (by rw [HN.out]; exact Nat.le_refl _)]
          exact HRR.out
        rw [e9] at hk ho
        subst hk
        have HO := Lib.hid ho
        have HBW := Lib.hid hbw
        have hlt2 : decide ((j : Int) < j) = false := by simp
        clear ho hbw hp hbs hlt e9 g1
        go_wp2_with fail
        go_ret
        exact ⟨A9, c9, rfl, HO.out, HBW.out⟩
end Go.Proofs.Ytkpjlobpaippdaa
