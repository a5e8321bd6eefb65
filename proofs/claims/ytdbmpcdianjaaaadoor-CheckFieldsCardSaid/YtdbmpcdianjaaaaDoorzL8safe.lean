/- Layer 8: CheckSafe: of a program with which nothing is wrong each place that is reached takes off no more than there is, and lays on no more than there is room for; each place that follows it is there, and is reached, with the depth behind it; its fields tell what there is. For all programs. -/
import Derived.Test.YtdbmpcdianjaaaaDoorzL8tells
namespace Go.Proofs.YtdbmpcdianjaaaaDoor
set_option linter.unusedVariables false
set_option linter.unusedSimpArgs false
open Go.ChangeShapes Go.WideShapes Go.ChangeAt Go.RowKit Go.Sort
/-- What is known of a function of a program with which nothing is wrong. -/
theorem solved_at {p : List Fun} (h : (checkP p).2.2 = 0) {k : Nat} (hk : k < p.length) : Solved (grF p p[k].code) p[k].code.length (depthsP p k) := by
  have hmem : p[k] ∈ p := List.getElem_mem hk
  have hok := check_ok h hmem
  have hfl := (fun_facts ((check_facts h).2 _ hmem)).2.2
  rw [depths_at h hk]
  exact flow_solved hok.fine hok.n1 (by have := hok.n2; omega) hfl
end Go.Proofs.YtdbmpcdianjaaaaDoor
namespace Go.Proofs.YtdbmpcdianjaaaaDoor.checkSafe
open Go.ChangeShapes Go.WideShapes Go.ChangeAt Go.RowKit Go.Sort

set_option maxHeartbeats 4000000 in
set_option maxRecDepth 100000 in
theorem out {A : Option Addr} {p : List Fun} (c : Nat) (n : Int) (w : World) (hT : Otab w) (ha : ProgAt w w.heap.size A p) (hz : SizedP p) (h : smallP p 300 = false ∨ n < 0 ∨ (p.length : Int) ≤ n ∨ (checkP p).2.2 ≠ 0) :
    Calls Tryd.prog 4 #[.slice A p.length c, .int .i64 n] w fun e w' => e = .returned (.bool true) ∧ Below w.heap.size w w' := by
  have hw : Below w.heap.size w w := Below.refl _ _
  have S1 := fun W (h : ProgAt W W.heap.size A p) => Lib.hid (psmall_any c 300 W h)
  have CK := fun W (h1 : Otab W) (h : ProgAt W W.heap.size A p) => Lib.hid (check_any c W h1 h hz (Nat.le_refl _))
  have DP := fun W (h1 : Otab W) (h : ProgAt W W.heap.size A p) => Lib.hid (depths_any c n W h1 h hz (Nat.le_refl _))
  have HA := Lib.hid ha
  have hdb := fun h : (checkP p).2.2 ≠ 0 => depths_bad (n := n) (.inl h)
  clear ha
  generalize smallP p 300 = b1 at *
  generalize checkP p = R at *
  generalize depthsP p n = D at *
  obtain ⟨r1, r2, r3⟩ := R
  simp only at h hdb CK
  cases b1
  · clear h hdb
    go_enter Tryd.func4, Tryd.ntmps4
    go_wp2_with (first
      | (go_at_call 10; (with_reducible refine (fixed8 _ hT).mono ?_); rintro e v ⟨rfl, hb⟩; replace HA := Lib.hid ((HA.out.below hb (Nat.le_refl _)).more hb.size); replace hT := hT.below hb; replace hw := Below.step hw hb; clear hb)
      | (go_at_call 9; (with_reducible refine (S1 _ HA.out).out.mono ?_); rintro e v ⟨rfl, rfl⟩))
    go_ret
    exact ⟨rfl, hw⟩
  by_cases h1 : n < 0
  · clear h hdb
    go_enter Tryd.func4, Tryd.ntmps4
    go_wp2_with (first
      | (go_at_call 10; (with_reducible refine (fixed8 _ hT).mono ?_); rintro e v ⟨rfl, hb⟩; replace HA := Lib.hid ((HA.out.below hb (Nat.le_refl _)).more hb.size); replace hT := hT.below hb; replace hw := Below.step hw hb; clear hb)
      | (go_at_call 9; (with_reducible refine (S1 _ HA.out).out.mono ?_); rintro e v ⟨rfl, rfl⟩))
    go_ret
    exact ⟨rfl, hw⟩
  by_cases h2 : (p.length : Int) ≤ n
  · clear h hdb
    go_enter Tryd.func4, Tryd.ntmps4
    go_wp2_with (first
      | (go_at_call 10; (with_reducible refine (fixed8 _ hT).mono ?_); rintro e v ⟨rfl, hb⟩; replace HA := Lib.hid ((HA.out.below hb (Nat.le_refl _)).more hb.size); replace hT := hT.below hb; replace hw := Below.step hw hb; clear hb)
      | (go_at_call 9; (with_reducible refine (S1 _ HA.out).out.mono ?_); rintro e v ⟨rfl, rfl⟩))
    go_ret
    exact ⟨rfl, hw⟩
  · have h3 : r3 ≠ 0 := by
      rcases h with h | h | h | h
      · cases h
      · exact absurd h h1
      · exact absurd h h2
      · exact h
    have hne : (r3 != 0) = true := by simpa using h3
    obtain rfl := hdb h3
    clear h hdb h3
    go_enter Tryd.func4, Tryd.ntmps4
    go_wp2_with (first
      | (go_at_call 10; (with_reducible refine (fixed8 _ hT).mono ?_); rintro e v ⟨rfl, hb⟩; replace HA := Lib.hid ((HA.out.below hb (Nat.le_refl _)).more hb.size); replace hT := hT.below hb; replace hw := Below.step hw hb; clear hb)
      | (go_at_call 9; (with_reducible refine (S1 _ HA.out).out.mono ?_); rintro e v ⟨rfl, rfl⟩)
      | (go_at_call 11; (with_reducible refine (CK _ hT HA.out).out.mono ?_); rintro e v ⟨rfl, hb⟩; replace HA := Lib.hid ((HA.out.below hb (Nat.le_refl _)).more hb.size); replace hT := hT.below hb; replace hw := Below.step hw hb; clear hb)
      | (go_at_call 14; (with_reducible refine (DP _ hT HA.out).out.mono ?_); rintro e v ⟨x, rfl, hL, hb⟩; obtain ⟨A4, c4, rfl, _⟩ := hL.slice; replace hw := Below.step hw hb; clear hb))
    go_ret
    exact ⟨rfl, hw⟩

set_option maxHeartbeats 4000000 in
set_option maxRecDepth 100000 in
theorem good {A : Option Addr} {p : List Fun} (c : Nat) (k : Nat) (hk : k < p.length) (w : World) (hT : Otab w) (ha : ProgAt w w.heap.size A p) (hz : SizedP p) (hs : smallP p 300 = true) (he : (checkP p).2.2 = 0) :
    Calls Tryd.prog 4 #[.slice A p.length c, .int .i64 k] w fun e w' => e = .returned (.bool true) ∧ Below w.heap.size w w' := by
  have hw : Below w.heap.size w w := Below.refl _ _
  have S1 := fun W (h : ProgAt W W.heap.size A p) => Lib.hid (psmall_any c 300 W h)
  have CK := fun W (h1 : Otab W) (h : ProgAt W W.heap.size A p) => Lib.hid (check_any c W h1 h hz (Nat.le_refl _))
  have DP := fun W (h1 : Otab W) (h : ProgAt W W.heap.size A p) => Lib.hid (depths_any c k W h1 h hz (Nat.le_refl _))
  have HS := Lib.hid (solved_at he hk)
  have hmem : p[k] ∈ p := List.getElem_mem hk
  have HOK := Lib.hid (check_ok he hmem)
  have hff := fun_facts ((check_facts he).2 _ hmem)
  have hal := hff.1
  have HFI := Lib.hid hff.2.1
  rw [hs] at S1
  have HA := Lib.hid ha
  obtain ⟨bb, off, rfl, hbl, hc⟩ := ha (by omega)
  obtain ⟨f0, f1, f2, Ac, cc, f3, hcode⟩ := hc k hk
  generalize checkP p = R at *
  obtain ⟨r1, r2, r3⟩ := R
  simp only at he CK
  subst he
  generalize depthsP p k = D at *
  generalize p[k] = f at *
  have HC := Lib.hid hcode
  have F0 := Lib.hid f0
  have F1 := Lib.hid f1
  have F2 := Lib.hid f2
  have F3 := Lib.hid f3
  have hn1 := HOK.out.n1
  have hn2 := HOK.out.n2
  have hdl := HS.out.dl
  have hk2 : (k : Int) < p.length := by omega
  have hnd : 0 < D.length := by omega
  have hz0 : D[0] = 0 := by
    have := HS.out.zero
    rw [List.getElem?_eq_getElem hnd] at this
    exact Option.some.inj this
  have hde : ((D.length : Int) != (f.code.length : Int)) = false := by simp; omega
  clear ha hcode f0 f1 f2 f3 hc hmem hff
  go_enter Tryd.func4, Tryd.ntmps4
  go_wp2_with (first
    | (go_at_call 10; (with_reducible refine (fixed8 _ hT).mono ?_); rintro e v ⟨rfl, hb⟩; replace HA := Lib.hid ((HA.out.below hb (Nat.le_refl _)).more hb.size); replace hT := hT.below hb; replace hw := Below.step hw hb; clear hb)
    | (go_at_call 9; (with_reducible refine (S1 _ HA.out).out.mono ?_); rintro e v ⟨rfl, rfl⟩)
    | (go_at_call 11; (with_reducible refine (CK _ hT HA.out).out.mono ?_); rintro e v ⟨rfl, hb⟩; replace HA := Lib.hid ((HA.out.below hb (Nat.le_refl _)).more hb.size); replace hT := hT.below hb; replace hw := Below.step hw hb; clear hb)
    | (go_at_call 14; (with_reducible refine (DP _ hT HA.out).out.mono ?_); rintro e u ⟨x, rfl, hL, hb⟩; obtain ⟨Ad, cd, rfl, hcell⟩ := hL.slice; replace HA := Lib.hid ((HA.out.below hb (Nat.le_refl _)).more hb.size); replace hw := Below.step hw hb; clear hb; obtain ⟨dB, rfl, _, d0⟩ := hcell 0 hnd; rw [hz0] at d0; have hdB : dB < u.heap.size := block_lt_of_cell d0; have f0 := (hw.cell (p := ⟨bb, off + k * 4, none⟩) hbl).trans F0.out; have f1 := (hw.cell (p := ⟨bb, off + k * 4 + 1, none⟩) hbl).trans F1.out; have f2 := (hw.cell (p := ⟨bb, off + k * 4 + 2, none⟩) hbl).trans F2.out; have f3 := (hw.cell (p := ⟨bb, off + k * 4 + 3, none⟩) hbl).trans F3.out))
  have HAA := Lib.hid ((HA.out.below ((Below.refl _ _).alloc (Nat.le_refl _) (.cells #[.int .i64 f.ar, .int .i64 f.lo, .int .i64 f.sl, .slice Ac f.code.length cc] 34)) (Nat.le_refl _)).more (show u.heap.size ≤ (u.alloc (.cells #[.int .i64 f.ar, .int .i64 f.lo, .int .i64 f.sl, .slice Ac f.code.length cc] 34)).heap.size by simp))
  have HX := Lib.hid (Held.new u 34 #[.int .i64 f.ar, .int .i64 f.lo, .int .i64 f.sl, .slice Ac f.code.length cc])
  have HCC := Lib.hid (HC.out.below (hw.alloc hw.size (.cells #[.int .i64 f.ar, .int .i64 f.lo, .int .i64 f.sl, .slice Ac f.code.length cc] 34)) (Nat.le_refl _))
  have HCD : Hid (∀ i (hi : i < D.length), (u.alloc (.cells #[.int .i64 f.ar, .int .i64 f.lo, .int .i64 f.sl, .slice Ac f.code.length cc] 34)).cell? ⟨dB, i, none⟩ = some (.int .i64 D[i])) := Lib.hid fun i hi => by
    obtain ⟨b2, e, _, h⟩ := hcell i hi
    cases e
    exact (((Below.refl _ _).alloc (Nat.le_refl _) _).cell (p := ⟨dB, i, none⟩) hdB).trans h
  have HW := Lib.hid (hw.alloc hw.size (.cells #[.int .i64 f.ar, .int .i64 f.lo, .int .i64 f.sl, .slice Ac f.code.length cc] 34))
  have hus : w.heap.size ≤ u.heap.size := hw.size
  clear hcell hw hL f0 f1 f2 f3 d0 HC HA CK DP S1 hT
  generalize hU : u.alloc (.cells #[.int .i64 f.ar, .int .i64 f.lo, .int .i64 f.sl, .slice Ac f.code.length cc] 34) = U at *
  generalize hxb : u.heap.size = xb at *
  have hdB2 : dB < U.heap.size := by rw [← hU]; simp; omega
  have hxU : xb < U.heap.size := by rw [← hU]; simp; omega
  have hwU : w.heap.size ≤ U.heap.size := by omega
  clear hU
  go_loopw [10, 11, 12, 13, 14] (fun iv _ _ _ _ W => ∃ i : Nat, iv = .int .i64 i ∧ i ≤ f.code.length ∧ Below U.heap.size U W) (fun iv _ _ _ _ _ => f.code.length - (intOf iv).toNat)
  case atStart => exact ⟨0, rfl, by omega, Below.refl _ _⟩
  case round =>
    obtain ⟨i, rfl, hi, hw⟩ := hrel
    have hx := HX.out.below hw
    have e0 := hx.cell 0
    have e1 := hx.cell 1
    have e2 := hx.cell 2
    have e3 := hx.cell 3
    have exl := hx.lt
    simp at e0 e1 e2 e3
    by_cases hlt : i < f.code.length
    · obtain ⟨b2, off2, rfl, hb2, hcc⟩ := HCC.out (by omega)
      obtain ⟨a0, a1, a2⟩ := hcc i hlt
      have hb2U : b2 < U.heap.size := by omega
      replace a0 := (hw.cell (p := ⟨b2, off2 + i * 3, none⟩) hb2U).trans a0
      replace a1 := (hw.cell (p := ⟨b2, off2 + i * 3 + 1, none⟩) hb2U).trans a1
      replace a2 := (hw.cell (p := ⟨b2, off2 + i * 3 + 2, none⟩) hb2U).trans a2
      have hiD : i < D.length := by omega
      have hD0 : D[i]? = some D[i] := List.getElem?_eq_getElem hiD
      have dc := (hw.cell (p := ⟨dB, i, none⟩) hdB2).trans (HCD.out i hiD)
      have hmm : f.code[i] ∈ f.code := List.getElem_mem hlt
      have hfo := fields_ok (HFI.out _ hmm)
      have hoff := HOK.out.off _ hmm
      have hon := HOK.out.on _ hmm
      have hsp := HOK.out.spawn _ hmm
      have hnx := HOK.out.next i hlt
      have hrg := HS.out.range i _ hD0
      have hdn := HS.out.done i _ hD0
      rw [grF_at hlt] at hdn
      change _ → offI p f.code[i] ≤ D[i] ∧ D[i] - offI p f.code[i] + (rz f.code[i].1).q ≤ 16 ∧ ∀ t ∈ nextI f.code[i] i, t < f.code.length ∧ D[t.toNat]? = some (D[i] - offI p f.code[i] + (rz f.code[i].1).q) at hdn
      have OF := fun W (hb : Below U.heap.size U W) d os => Lib.hid (off_any c f.code[i].1 f.code[i].2.1 f.code[i].2.2 (grow (redrawn W d) os) (HAA.out.below (hb.trans ((below_regrown W d os).mono hb.size)) (Nat.le_refl _)) (Nat.le_trans hb.size (below_regrown W d os).size) hsp)
      change ∀ W (hb : Below U.heap.size U W) d os, Hid (Calls Tryd.prog 16 #[.slice (some ⟨bb, off, none⟩) p.length c, .agg #[.int .i64 f.code[i].1, .int .i64 f.code[i].2.1, .int .i64 f.code[i].2.2]] (grow (redrawn W d) os) fun x w' => x = .returned (.int .i64 (offI p f.code[i])) ∧ Below (grow (redrawn W d) os).heap.size (grow (redrawn W d) os) w') at OF
      have ON := ron_any f.code[i].1
      have NX := fun W => Lib.hid (rnext_any f.code[i].1 f.code[i].2.1 f.code[i].2.2 i W (by omega) (by omega))
      change ∀ W, Hid (Calls Tryd.prog 18 #[.agg #[.int .i64 f.code[i].1, .int .i64 f.code[i].2.1, .int .i64 f.code[i].2.2], .int .i64 i] W fun e w' => ∃ x, e = .returned x ∧ LstAt w' W.heap.size x (nextI f.code[i] i) ∧ Below W.heap.size W w') at NX
      have hll := next_len f.code[i] i
      have HDN := Lib.hid hdn
      have HNX := Lib.hid hnx
      generalize nextI f.code[i] i = l at *
      generalize offI p f.code[i] = q at *
      generalize (rz f.code[i].1).q = r at *
      generalize f.code[i].1 = xo at *
      generalize f.code[i].2.1 = xa at *
      generalize f.code[i].2.2 = xb2 at *
      generalize D[i] = e at *
      obtain ⟨q1, q2⟩ := hoff
      obtain ⟨r1', r2'⟩ := hon
      have HWr := Lib.hid hw
      have hdw : dB < wr.heap.size := Nat.lt_of_lt_of_le hdB2 hw.size
      clear hcc hmm hsp hnx hdn hD0 hx hw
      have hcls : ((xo == 1) = true ∧ (xo == 2) = false ∧ (xo == 13) = false ∧ (xo == 14) = false ∧ xa < f.lo) ∨ ((xo == 1) = false ∧ (xo == 2) = true ∧ (xo == 13) = false ∧ (xo == 14) = false ∧ xa < f.lo) ∨ ((xo == 1) = false ∧ (xo == 2) = false ∧ (xo == 13) = true ∧ (xo == 14) = false ∧ (xb2 < f.sl ∧ xa < p.length)) ∨ ((xo == 1) = false ∧ (xo == 2) = false ∧ (xo == 13) = false ∧ (xo == 14) = true ∧ xa < f.sl) ∨ ((xo == 1) = false ∧ (xo == 2) = false ∧ (xo == 13) = false ∧ (xo == 14) = false ∧ True) := by
        by_cases h1 : xo = 1
        · exact .inl ⟨by simpa using h1, by simp; omega, by simp; omega, by simp; omega, hfo.1 (.inl h1)⟩
        by_cases h2 : xo = 2
        · exact .inr (.inl ⟨by simpa using h1, by simpa using h2, by simp; omega, by simp; omega, hfo.1 (.inr h2)⟩)
        by_cases h3 : xo = 13
        · exact .inr (.inr (.inl ⟨by simpa using h1, by simpa using h2, by simpa using h3, by simp; omega, hfo.2.2.1 h3⟩))
        by_cases h4 : xo = 14
        · exact .inr (.inr (.inr (.inl ⟨by simpa using h1, by simpa using h2, by simpa using h3, by simpa using h4, hfo.2.1 h4⟩)))
        · exact .inr (.inr (.inr (.inr ⟨by simpa using h1, by simpa using h2, by simpa using h3, by simpa using h4, trivial⟩)))
      clear hfo
      go_upto_region 14 with (fail)
      have hxk := Held.new wr 36 #[.int .i64 xo, .int .i64 xa, .int .i64 xb2]
      have HW1 := Lib.hid (HWr.out.alloc HWr.out.size (.cells #[.int .i64 xo, .int .i64 xa, .int .i64 xb2] 36))
      have dc1 := (((Below.refl wr.heap.size wr).alloc (Nat.le_refl _) (.cells #[.int .i64 xo, .int .i64 xa, .int .i64 xb2] 36)).cell (p := ⟨dB, i, none⟩) hdw).trans dc
      have hxx := (HX.out.below HWr.out).alloc (.cells #[.int .i64 xo, .int .i64 xa, .int .i64 xb2] 36)
      have hdw1 : dB < (wr.alloc (.cells #[.int .i64 xo, .int .i64 xa, .int .i64 xb2] 36)).heap.size := by simp; omega
      generalize wr.alloc (.cells #[.int .i64 xo, .int .i64 xa, .int .i64 xb2] 36) = W1 at *
      have x0 := hxk.cell 0
      have x1 := hxk.cell 1
      have x2 := hxk.cell 2
      have y1 := hxx.cell 1
      have y2 := hxx.cell 2
      simp at x0 x1 x2 y1 y2
      clear dc a0 a1 a2 e0 e1 e2 e3 hxk hxx
      go_cut [126] from 81 to 126 (fun c wx => c = .bool false ∧ wx = W1)
      case first =>
        rcases hcls with ⟨t1, t2, t3, t4, g1⟩ | ⟨t1, t2, t3, t4, g1⟩ | ⟨t1, t2, t3, t4, g1, g2⟩ | ⟨t1, t2, t3, t4, g1⟩ | ⟨t1, t2, t3, t4, g1⟩
        all_goals
          go_wp2_with fail
          go_meet
          first | exact ⟨rfl, rfl⟩ | exact ⟨by simp; omega, rfl⟩
      case rest =>
        obtain ⟨rfl, rfl⟩ := hcut
        clear hcls
        by_cases he0 : e < 0
        · go_wp2_with fail
          go_roundw
          case rel => exact ⟨i + 1, by go_num, by omega, HW1.out⟩
          case measure => simp [intOf]; omega
        · have he1 : 0 ≤ e := by omega
          have hdn := HDN.out (by omega)
          have d1 := hdn.1
          have d2 := hdn.2.1
          have HD3 := Lib.hid hdn.2.2
          have he16 := hrg.2
          clear hdn he0
          go_upto_region 17 with (fail)
          have dc1K := Lib.hid dc1
          have x0K := Lib.hid x0
          have x1K := Lib.hid x1
          have x2K := Lib.hid x2
          have dc1g := fun d os => cell_regrown dc1 d os
          have x0g := fun d os => cell_regrown x0 d os
          have x1g := fun d os => cell_regrown x1 d os
          have x2g := fun d os => cell_regrown x2 d os
          clear dc1 x0 x1 x2
          refine wp_region_quiet_below (by kernel_rfl) (by kernel_rfl) ?_
          repeat (first
            | go_big_quiet_step ((first
                | (go_at_call 16; (with_reducible exact Calls.regrown_of (OF _ HW1.out _ _).out))
                | (go_at_call 17; (with_reducible exact Calls.regrown_same (ON.go _)))))
            | quiet_step ((first
                | (go_at_call 16; (with_reducible exact Calls.regrown_of (OF _ HW1.out _ _).out))
                | (go_at_call 17; (with_reducible exact Calls.regrown_same (ON.go _))))))
          refine wpQuiet_nil ?_
          intro W2 hv
          have hb := below_of_regrown hv
          clear hv dc1g x0g x1g x2g
          have dc1 := (hb.cell (block_lt_of_cell dc1K.out)).trans dc1K.out
          have x0 := (hb.cell (block_lt_of_cell x0K.out)).trans x0K.out
          have x1 := (hb.cell (block_lt_of_cell x1K.out)).trans x1K.out
          have x2 := (hb.cell (block_lt_of_cell x2K.out)).trans x2K.out
          clear dc1K x0K x1K x2K
          have HW2 := Lib.hid (HW1.out.trans (hb.mono HW1.out.size))
          clear hb
          have hbad1 : ¬ q > e := by omega
          have hbad2 : ¬ e - q + r > 16 := by omega
          have hbad3 : ¬ e > 16 := by omega
          go_upto_region 18 with (fail)
          have dc1K := Lib.hid dc1
          have x0K := Lib.hid x0
          have x1K := Lib.hid x1
          have x2K := Lib.hid x2
          have dc1g := fun d os => cell_regrown dc1 d os
          have x0g := fun d os => cell_regrown x0 d os
          have x1g := fun d os => cell_regrown x1 d os
          have x2g := fun d os => cell_regrown x2 d os
          clear dc1 x0 x1 x2
          refine wp_region_quiet_below (by kernel_rfl) (by kernel_rfl) ?_
          repeat (first
            | go_big_quiet_step ((first
                | (go_at_call 16; (with_reducible exact Calls.regrown_of (OF _ HW2.out _ _).out))
                | (go_at_call 17; (with_reducible exact Calls.regrown_same (ON.go _)))))
            | quiet_step ((first
                | (go_at_call 16; (with_reducible exact Calls.regrown_of (OF _ HW2.out _ _).out))
                | (go_at_call 17; (with_reducible exact Calls.regrown_same (ON.go _))))))
          refine wpQuiet_nil ?_
          intro W3 hv
          have hb := below_of_regrown hv
          clear hv dc1g x0g x1g x2g
          have dc1 := (hb.cell (block_lt_of_cell dc1K.out)).trans dc1K.out
          have x0 := (hb.cell (block_lt_of_cell x0K.out)).trans x0K.out
          have x1 := (hb.cell (block_lt_of_cell x1K.out)).trans x1K.out
          have x2 := (hb.cell (block_lt_of_cell x2K.out)).trans x2K.out
          clear dc1K x0K x1K x2K
          have HW3 := Lib.hid (HW2.out.trans (hb.mono HW2.out.size))
          clear hb
          have hbs := HW3.out.size
          go_wp2_with (go_at_call 18; (with_reducible refine (NX _).out.mono ?_); rintro _ u2 ⟨x, rfl, hL, hb⟩; obtain ⟨A5, c5, rfl, hcell⟩ := hL.slice; clear hL)
          have HC5 := Lib.hid hcell
          have hs5 := hb.size
          have HW4 := Lib.hid (HW3.out.trans (hb.mono HW3.out.size))
          have HCD4 : Hid (∀ i (hi : i < D.length), u2.cell? ⟨dB, i, none⟩ = some (.int .i64 D[i])) := Lib.hid fun i hi => (HW4.out.cell (p := ⟨dB, i, none⟩) hdB2).trans (HCD.out i hi)
          clear hcell hb dc1 x0 x1 x2 NX OF ON HW1 HW2 HW3
          go_loop [14] (fun kv => ∃ m : Nat, kv = .int .i64 m ∧ m ≤ l.length) (fun kv => l.length - (intOf kv).toNat)
          case atStart => exact ⟨0, rfl, by omega⟩
          case round =>
            obtain ⟨m, rfl, hm⟩ := hrel
            by_cases hml : m < l.length
            · obtain ⟨b6, rfl, _, l0⟩ := HC5.out m hml
              have hlm := List.getElem_mem hml
              have hd3 := HD3.out _ hlm
              have hn3 := HNX.out _ hlm
              generalize l[m] = t at *
              obtain ⟨t1, t2⟩ := hd3
              obtain ⟨t, rfl⟩ := Int.eq_ofNat_of_zero_le hn3.1
              have htD : t < D.length := by omega
              have hdt := HCD4.out t htD
              have hval : D[t] = e - q + r := by
                rw [Int.toNat_natCast, List.getElem?_eq_getElem htD] at t2
                exact Option.some.inj t2
              rw [hval] at hdt
              have hbb : ((e - q + r) != (e - q + r)) = false := by simp
              have HT := Lib.hid t1
              clear t2 hlm hn3 hval
              go_wp2_with fail
              go_round
              case rel => exact ⟨m + 1, by go_num, by omega⟩
              case measure => simp [intOf]; omega
            · obtain rfl : m = l.length := by omega
              go_wp2_with fail
              go_roundw
              case rel => exact ⟨i + 1, by go_num, by omega, HW4.out⟩
              case measure => simp [intOf]; omega
    · obtain rfl : i = f.code.length := by omega
      have HWW := Lib.hid (HW.out.trans (hw.mono hwU))
      clear hw hx e0 e1 e2 e3
      go_wp2_with fail
      go_ret
      exact ⟨rfl, HWW.out⟩
theorem walk {A : Option Addr} {p : List Fun} (c : Nat) (n : Int) (w : World) (hT : Otab w) (ha : ProgAt w w.heap.size A p) (hz : SizedP p) :
    Calls Tryd.prog 4 #[.slice A p.length c, .int .i64 n] w fun e w' => e = .returned (.bool true) ∧ Below w.heap.size w w' := by
  by_cases h : smallP p 300 = false ∨ n < 0 ∨ (p.length : Int) ≤ n ∨ (checkP p).2.2 ≠ 0
  · exact out c n w hT ha hz h
  · have h1 : smallP p 300 = true := by
      cases hs : smallP p 300
      · exact absurd (.inl hs) h
      · rfl
    have h2 : ¬ n < 0 := fun e => h (.inr (.inl e))
    have h3 : ¬ (p.length : Int) ≤ n := fun e => h (.inr (.inr (.inl e)))
    have h4 : (checkP p).2.2 = 0 := Decidable.byContradiction fun e => h (.inr (.inr (.inr e)))
    obtain ⟨k, rfl⟩ := Int.eq_ofNat_of_zero_le (show 0 ≤ n by omega)
    exact good c k (by omega) w hT ha hz h1 h4
theorem entry {H : Type} {enc : TypeId × Value → H} (W : World) (base : Nat) (v0 v1 : Value) (d0 d1 : DataW H) (p0 p1 : List MemPlace)
    (k0 : Value.okWide Tryd.prog W .any base 23 v0)
    (k1 : Value.okWide Tryd.prog W .any base 3 v1)
    (h0 : DataW.Trod enc Tryd.prog W 0 (fun _ => true) true 23 v0 d0 p0)
    (h1 : DataW.Trod enc Tryd.prog W 0 (fun _ => true) true 3 v1 d1 p1)
    (hT : Otab W) : Calls Tryd.prog 4 #[v0, v1] W fun e w' => e = .returned (.bool true) ∧ Below W.heap.size W w' := by
  obtain ⟨A0, c0, ps0, rfl, hp0, hz0⟩ := open_prog k0 h0
  obtain ⟨a1, rfl, rfl, rfl, w1⟩ := open_int Tryd.underlying3 k1 h1
  exact walk c0 a1 W hT hp0 hz0
end Go.Proofs.YtdbmpcdianjaaaaDoor.checkSafe

