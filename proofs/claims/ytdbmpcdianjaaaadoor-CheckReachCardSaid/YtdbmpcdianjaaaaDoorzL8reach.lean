/- Layer 8: CheckReach: a place that is reached, but for the first one, follows one that is reached. For all programs. -/
import Derived.Test.YtdbmpcdianjaaaaDoorzL8safe
namespace Go.Proofs.YtdbmpcdianjaaaaDoor.checkReach
set_option linter.unusedVariables false
set_option linter.unusedSimpArgs false
open Go.ChangeShapes Go.WideShapes Go.ChangeAt Go.RowKit Go.Sort

/-- Does a place that is reached, among the first ones, go on to that one? -/
def accB (D : List Int) (N : Nat → List Int) (a : Int) (i : Nat) : Bool := (List.range i).any fun j => decide (0 ≤ D.getD j 0) && (N j).any (· == a)
theorem acc_zero (D : List Int) (N : Nat → List Int) (a : Int) : accB D N a 0 = false := rfl
theorem acc_succ (D : List Int) (N : Nat → List Int) (a : Int) (i : Nat) : accB D N a (i + 1) = (accB D N a i || (decide (0 ≤ D.getD i 0) && (N i).any (· == a))) := by
  unfold accB
  rw [List.range_succ, List.any_append]
  simp
theorem acc_all {G : Nat → Int × Int × List Int} {n : Nat} {D : List Int} (hS : Solved G n D) (hF : Fine G n) {a : Nat} (h0 : 0 < a) (ha : a < n) (hd : a < D.length) : accB D (fun j => (G j).2.2) a n = decide (0 ≤ D[a]) := by
  rw [Bool.eq_iff_iff, decide_eq_true_iff]
  unfold accB
  rw [List.any_eq_true]
  have hdl := hS.dl
  constructor
  · rintro ⟨j, hj, h⟩
    simp only [List.mem_range] at hj
    simp only [Bool.and_eq_true, decide_eq_true_eq, List.any_eq_true, beq_iff_eq] at h
    obtain ⟨h1, t, h2, rfl⟩ := h
    have hj0 : D[j]? = some D[j] := List.getElem?_eq_getElem (by omega)
    rw [List.getD_eq_getElem?_getD, hj0] at h1
    simp only [Option.getD_some] at h1
    obtain ⟨g1, g2, g3⟩ := hS.done j _ hj0 (by omega)
    have := (g3 _ h2).2
    rw [Int.toNat_natCast, List.getElem?_eq_getElem hd] at this
    have hv := Option.some.inj this
    have := (hF j hj).1
    omega
  · intro h
    have hr := hS.from_ a _ h0 (List.getElem?_eq_getElem hd) (by omega)
    obtain ⟨j, e, g1, g2, t, g3, g4⟩ := hr
    obtain ⟨hj, hje⟩ := List.getElem?_eq_some_iff.1 g1
    have h2 := hS.range j e g1
    refine ⟨j, by simp; omega, ?_⟩
    have h3 := (hF j (by omega)).2 t g3
    simp only [Bool.and_eq_true, decide_eq_true_eq, List.any_eq_true, beq_iff_eq]
    refine ⟨?_, t, g3, by omega⟩
    rw [List.getD_eq_getElem?_getD, g1]
    simp only [Option.getD_some]
    omega

set_option maxHeartbeats 4000000 in
set_option maxRecDepth 100000 in
theorem out {A : Option Addr} {p : List Fun} (c : Nat) (n : Int) (w : World) (hT : Otab w) (ha : ProgAt w w.heap.size A p) (hz : SizedP p) (h : smallP p 300 = false ∨ n < 0 ∨ (p.length : Int) ≤ n ∨ (checkP p).2.2 ≠ 0) :
    Calls Tryd.prog 5 #[.slice A p.length c, .int .i64 n] w fun e w' => e = .returned (.bool true) ∧ Below w.heap.size w w' := by
  have hw : Below w.heap.size w w := Below.refl _ _
  have S1 := fun W (h : ProgAt W W.heap.size A p) => Lib.hid (psmall_any c 300 W h)
  have DP := fun W (h1 : Otab W) (h : ProgAt W W.heap.size A p) => Lib.hid (depths_any c n W h1 h hz (Nat.le_refl _))
  have HA := Lib.hid ha
  clear ha
  by_cases hb1 : smallP p 300 = false
  · rw [hb1] at S1
    clear h hb1
    go_enter Tryd.func5, Tryd.ntmps5
    go_wp2_with (first
      | (go_at_call 10; (with_reducible refine (fixed8 _ hT).mono ?_); rintro e v ⟨rfl, hb⟩; replace HA := Lib.hid ((HA.out.below hb (Nat.le_refl _)).more hb.size); replace hT := hT.below hb; replace hw := Below.step hw hb; clear hb)
      | (go_at_call 9; (with_reducible refine (S1 _ HA.out).out.mono ?_); rintro e v ⟨rfl, rfl⟩))
    go_ret
    exact ⟨rfl, hw⟩
  · have hb2 : smallP p 300 = true := by simpa using hb1
    have hdb : depthsP p n = [] := depths_bad (by
      rcases h with h | h | h | h
      · exact absurd h hb1
      · exact .inr (.inl h)
      · exact .inr (.inr h)
      · exact .inl h)
    rw [hb2] at S1
    rw [hdb] at DP
    clear h hb1 hb2 hdb
    go_enter Tryd.func5, Tryd.ntmps5
    go_wp2_with (first
      | (go_at_call 10; (with_reducible refine (fixed8 _ hT).mono ?_); rintro e v ⟨rfl, hb⟩; replace HA := Lib.hid ((HA.out.below hb (Nat.le_refl _)).more hb.size); replace hT := hT.below hb; replace hw := Below.step hw hb; clear hb)
      | (go_at_call 9; (with_reducible refine (S1 _ HA.out).out.mono ?_); rintro e v ⟨rfl, rfl⟩)
      | (go_at_call 14; (with_reducible refine (DP _ hT HA.out).out.mono ?_); rintro e v ⟨x, rfl, hL, hb⟩; obtain ⟨A4, c4, rfl, _⟩ := hL.slice; replace hw := Below.step hw hb; clear hb))
    go_loop [6] (fun i => i = .int .i64 1) (fun _ => 0)
    case atStart => rfl
    case round =>
      subst hrel
      go_wp2_with fail
      go_ret
      exact ⟨rfl, hw⟩

set_option maxHeartbeats 4000000 in
set_option maxRecDepth 100000 in
theorem good {A : Option Addr} {p : List Fun} (c : Nat) (k : Nat) (hk : k < p.length) (w : World) (hT : Otab w) (ha : ProgAt w w.heap.size A p) (hz : SizedP p) (hs : smallP p 300 = true) (he : (checkP p).2.2 = 0) :
    Calls Tryd.prog 5 #[.slice A p.length c, .int .i64 k] w fun e w' => e = .returned (.bool true) ∧ Below w.heap.size w w' := by
  have hw : Below w.heap.size w w := Below.refl _ _
  have S1 := fun W (h : ProgAt W W.heap.size A p) => Lib.hid (psmall_any c 300 W h)
  have DP := fun W (h1 : Otab W) (h : ProgAt W W.heap.size A p) => Lib.hid (depths_any c k W h1 h hz (Nat.le_refl _))
  have hS := solved_at he hk
  have hmem : p[k] ∈ p := List.getElem_mem hk
  have HOK := Lib.hid (check_ok he hmem)
  obtain ⟨N, hN⟩ : ∃ N : Nat → List Int, N = fun j => (grF p p[k].code j).2.2 := ⟨_, rfl⟩
  have HALL := Lib.hid (fun (a : Nat) (h0 : 0 < a) (h1 : a < p[k].code.length) (h2 : a < (depthsP p k).length) => show accB (depthsP p k) N a p[k].code.length = decide (0 ≤ (depthsP p k)[a]) by rw [hN]; exact acc_all hS HOK.out.fine h0 h1 h2)
  have HG := Lib.hid (fun (i : Nat) (hi : i < p[k].code.length) => show N i = nextI p[k].code[i] i by rw [hN]; show (grF p p[k].code i).2.2 = _; rw [grF_at hi]; rfl)
  clear hN
  have hdl := hS.dl
  rw [hs] at S1
  have HA := Lib.hid ha
  obtain ⟨bb, off, rfl, hbl, hc⟩ := ha (by omega)
  obtain ⟨f0, f1, f2, Ac, cc, f3, hcode⟩ := hc k hk
  generalize depthsP p k = D at *
  generalize p[k] = f at *
  have HC := Lib.hid hcode
  have F3 := Lib.hid f3
  have hn1 := HOK.out.n1
  have hn2 := HOK.out.n2
  have hk2 : (k : Int) < p.length := by omega
  clear ha hcode f0 f1 f2 f3 hc hmem hS
  go_enter Tryd.func5, Tryd.ntmps5
  go_wp2_with (first
    | (go_at_call 10; (with_reducible refine (fixed8 _ hT).mono ?_); rintro e v ⟨rfl, hb⟩; replace HA := Lib.hid ((HA.out.below hb (Nat.le_refl _)).more hb.size); replace hT := hT.below hb; replace hw := Below.step hw hb; clear hb)
    | (go_at_call 9; (with_reducible refine (S1 _ HA.out).out.mono ?_); rintro e v ⟨rfl, rfl⟩)
    | (go_at_call 14; (with_reducible refine (DP _ hT HA.out).out.mono ?_); rintro e u ⟨x, rfl, hL, hb⟩; obtain ⟨Ad, cd, rfl, hcell⟩ := hL.slice; replace hw := Below.step hw hb; clear hb))
  have hnd : 0 < D.length := by omega
  obtain ⟨dB, rfl, _, d0⟩ := hcell 0 hnd
  have hdB : dB < u.heap.size := block_lt_of_cell d0
  have HCD : Hid (∀ i (hi : i < D.length), u.cell? ⟨dB, i, none⟩ = some (.int .i64 D[i])) := Lib.hid fun i hi => by
    obtain ⟨b2, e, _, h⟩ := hcell i hi
    cases e
    exact h
  have HW := Lib.hid hw
  have hus : w.heap.size ≤ u.heap.size := hw.size
  have HF3 := Lib.hid ((hw.cell (p := ⟨bb, off + k * 4 + 3, none⟩) hbl).trans F3.out)
  have HCC := Lib.hid (HC.out.below hw (Nat.le_refl _))
  clear hcell hw hL d0 HC HA DP S1 hT F3
  go_loopw [6, 7, 8, 9, 10] (fun av _ _ _ _ W => ∃ a : Nat, av = .int .i64 a ∧ 1 ≤ a ∧ a ≤ f.code.length ∧ Below u.heap.size u W) (fun av _ _ _ _ _ => f.code.length - (intOf av).toNat)
  case atStart => exact ⟨1, rfl, by omega, by omega, Below.refl _ _⟩
  case round =>
    obtain ⟨a, rfl, ha1, ha, hw⟩ := hrel
    by_cases hlt : a < f.code.length
    · have HWa := Lib.hid hw
      clear hw
      go_wp2_with fail
      go_loopw [7, 8, 9, 10] (fun bv iv _ _ W => ∃ i : Nat, iv = .int .i64 i ∧ i ≤ f.code.length ∧ bv = .bool (accB D N a i) ∧ Below u.heap.size u W) (fun _ iv _ _ _ => f.code.length - (intOf iv).toNat)
      case atStart => exact ⟨0, rfl, by omega, rfl, HWa.out⟩
      case round =>
        obtain ⟨i, rfl, hi, rfl, hw⟩ := hrel
        by_cases hil : i < f.code.length
        · obtain ⟨b2, off2, rfl, hb2, hcc⟩ := HCC.out (by omega)
          obtain ⟨a0, a1, a2⟩ := hcc i hil
          have hb2U : b2 < u.heap.size := by omega
          have hbU : bb < u.heap.size := by omega
          replace a0 := (hw.cell (p := ⟨b2, off2 + i * 3, none⟩) hb2U).trans a0
          replace a1 := (hw.cell (p := ⟨b2, off2 + i * 3 + 1, none⟩) hb2U).trans a1
          replace a2 := (hw.cell (p := ⟨b2, off2 + i * 3 + 2, none⟩) hb2U).trans a2
          have f3 := (hw.cell (p := ⟨bb, off + k * 4 + 3, none⟩) hbU).trans HF3.out
          have hiD : i < D.length := by omega
          have dc := (hw.cell (p := ⟨dB, i, none⟩) hdB).trans (HCD.out i hiD)
          have NX := fun W => Lib.hid (rnext_any f.code[i].1 f.code[i].2.1 f.code[i].2.2 i W (by omega) (by omega))
          change ∀ W, Hid (Calls Tryd.prog 18 #[.agg #[.int .i64 f.code[i].1, .int .i64 f.code[i].2.1, .int .i64 f.code[i].2.2], .int .i64 i] W fun e w' => ∃ x, e = .returned x ∧ LstAt w' W.heap.size x (nextI f.code[i] i) ∧ Below W.heap.size W w') at NX
          have hll := next_len f.code[i] i
          have hgi := HG.out i hil
          have hsc := acc_succ D N a i
          have hge : D.getD i 0 = D[i] := by rw [List.getD_eq_getElem?_getD, List.getElem?_eq_getElem hiD]; rfl
          rw [hgi, hge] at hsc
          generalize nextI f.code[i] i = l at *
          generalize f.code[i].1 = xo at *
          generalize f.code[i].2.1 = xa at *
          generalize f.code[i].2.2 = xb at *
          generalize D[i] = e at *
          generalize hA : accB D N a i = A0 at *
          have HS := Lib.hid hsc
          have HWi := Lib.hid hw
          clear hcc hgi hge hsc hA hw
          go_wp2_with (go_at_call 18; (with_reducible refine (NX _).out.mono ?_); rintro _ u2 ⟨x, rfl, hL, hb⟩; obtain ⟨A5, c5, rfl, hcell⟩ := hL.slice; clear hL)
          have HC5 := Lib.hid hcell
          have HW4 := Lib.hid (HWi.out.trans (hb.mono HWi.out.size))
          have dc4 := (hb.cell (block_lt_of_cell dc)).trans dc
          have DC4 := Lib.hid dc4
          clear hcell hb dc a0 a1 a2 f3 NX dc4
          go_loop [7, 10] (fun bv kv => ∃ m : Nat, kv = .int .i64 m ∧ m ≤ l.length ∧ bv = .bool (A0 || (decide (0 ≤ e) && (l.take m).any (· == (a : Int))))) (fun _ kv => l.length - (intOf kv).toNat)
          case atStart => exact ⟨0, rfl, by omega, by simp⟩
          case round =>
            obtain ⟨m, rfl, hm, rfl⟩ := hrel
            by_cases hml : m < l.length
            · obtain ⟨b6, rfl, _, l0⟩ := HC5.out m hml
              have htk : l.take (m + 1) = l.take m ++ [l[m]] := List.take_succ_eq_append_getElem hml
              have dc := DC4.out
              have hres : (A0 || (decide (0 ≤ e) && (l.take (m + 1)).any (· == (a : Int)))) = ((A0 || (decide (0 ≤ e) && (l.take m).any (· == (a : Int)))) || (decide (0 ≤ e) && (l[m] == (a : Int)))) := by
                rw [htk, List.any_append]
                cases A0 <;> cases decide (0 ≤ e) <;> simp
              generalize l[m] = t at *
              generalize (A0 || (decide (0 ≤ e) && (l.take m).any (· == (a : Int)))) = b0 at *
              have HR := Lib.hid hres
              clear htk hres
              cases b0 with
              | true =>
                go_wp2_with fail
                go_round
                case rel => exact ⟨m + 1, by go_num, by omega, by rw [HR.out]; rfl⟩
                case measure => simp [intOf]; omega
              | false =>
                by_cases he0 : 0 ≤ e
                · cases hta : (t == (a : Int)) with
                  | true =>
                    go_wp2_with fail
                    go_round
                    case rel => exact ⟨m + 1, by go_num, by omega, by rw [HR.out, hta]; simp [he0]⟩
                    case measure => simp [intOf]; omega
                  | false =>
                    go_wp2_with fail
                    go_round
                    case rel => exact ⟨m + 1, by go_num, by omega, by rw [HR.out, hta]; simp⟩
                    case measure => simp [intOf]; omega
                · go_wp2_with fail
                  go_round
                  case rel => exact ⟨m + 1, by go_num, by omega, by rw [HR.out]; simp [he0]⟩
                  case measure => simp [intOf]; omega
            · obtain rfl : m = l.length := by omega
              rw [List.take_length]
              go_wp2_with fail
              go_roundw
              case rel => exact ⟨i + 1, by go_num, by omega, by rw [HS.out], HW4.out⟩
              case measure => simp [intOf]; omega
        · obtain rfl : i = f.code.length := by omega
          have haD : a < D.length := by omega
          have hal := HALL.out a (by omega) hlt haD
          rw [hal]
          have dc := (hw.cell (p := ⟨dB, a, none⟩) hdB).trans (HCD.out a haD)
          generalize D[a] = e at *
          have HWi := Lib.hid hw
          clear hw hal
          go_wp2_with fail
          go_roundw
          case rel => exact ⟨a + 1, by go_num, by omega, by omega, HWi.out⟩
          case measure => simp [intOf]; omega
    · obtain rfl : a = f.code.length := by omega
      have HWW := Lib.hid (HW.out.trans (hw.mono hus))
      clear hw
      go_wp2_with fail
      go_ret
      exact ⟨rfl, HWW.out⟩
theorem walk {A : Option Addr} {p : List Fun} (c : Nat) (n : Int) (w : World) (hT : Otab w) (ha : ProgAt w w.heap.size A p) (hz : SizedP p) :
    Calls Tryd.prog 5 #[.slice A p.length c, .int .i64 n] w fun e w' => e = .returned (.bool true) ∧ Below w.heap.size w w' := by
  by_cases h : smallP p 300 = false ∨ n < 0 ∨ (p.length : Int) ≤ n ∨ (checkP p).2.2 ≠ 0
  · exact out c n w hT ha hz h
  · have h1 : smallP p 300 = true := by
      cases hs : smallP p 300
      · exact absurd (.inl hs) h
      · rfl
    have h2 : ¬ n < 0 := fun e => h (.inr (.inl e))
    have h3 : ¬ (p.length : Int) ≤ n := fun e => h (.inr (.inr (.inl e)))
    have h4 : (checkP p).2.2 = 0 := Decidable.byContradiction fun e => h (.inr (.inr (.inr e)))
    obtain ⟨k, rfl⟩ := Int.eq_ofNat_of_zero_le (show 0 ≤ n by omega)
    exact good c k (by omega) w hT ha hz h1 h4
theorem entry {H : Type} {enc : TypeId × Value → H} (W : World) (base : Nat) (v0 v1 : Value) (d0 d1 : DataW H) (p0 p1 : List MemPlace)
    (k0 : Value.okWide Tryd.prog W .any base 23 v0)
    (k1 : Value.okWide Tryd.prog W .any base 3 v1)
    (h0 : DataW.Trod enc Tryd.prog W 0 (fun _ => true) true 23 v0 d0 p0)
    (h1 : DataW.Trod enc Tryd.prog W 0 (fun _ => true) true 3 v1 d1 p1)
    (hT : Otab W) : Calls Tryd.prog 5 #[v0, v1] W fun e w' => e = .returned (.bool true) ∧ Below W.heap.size W w' := by
  obtain ⟨A0, c0, ps0, rfl, hp0, hz0⟩ := open_prog k0 h0
  obtain ⟨a1, rfl, rfl, rfl, w1⟩ := open_int Tryd.underlying3 k1 h1
  exact walk c0 a1 W hT hp0 hz0
end Go.Proofs.YtdbmpcdianjaaaaDoor.checkReach

