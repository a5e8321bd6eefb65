/- Layer 10: SeqValue: a program with which nothing is wrong, and whose arguments are values, ends with a value, or with a trap that is none of want of values or places; a program with which something is wrong is not run. For all programs, arguments, seeds, fuels. -/
import Derived.Test.YtagjddnpaahebaaGreatDoorzSh
import Derived.Test.YtagjddnpaahebaaGreatDoorzSg
import Derived.Test.YtagjddnpaahebaaGreatDoorzGv
import Derived.Test.YtagjddnpaahebaaGreatDoorzSr
namespace Go.Proofs.YtagjddnpaahebaaGreatDoor.seqValue
set_option linter.unusedVariables false
set_option linter.unusedSimpArgs false
open Gm Go.RowKit Go.ChangeShapes Go.WideShapes Go.ChangeAt Go.Sort

theorem meas_lt {k n : Nat} (h : k < n) : n - (intOf (.int .i64 ((k : Int) + 1))).toNat < n - (intOf (.int .i64 k)).toNat := by simp [intOf]; omega
theorem num1 (k : Nat) : Value.int .i64 ((k : Int) + 1) = Value.int .i64 ((k + 1 : Nat) : Int) := rfl
theorem lt_cast {i n m : Nat} (h : i < n) (e : n = m) : (i : Int) < (m : Int) := by omega
theorem le_tr {n m k M : Nat} (e : n = m) (h : m ≤ k) (hk : k ≤ M) : n ≤ M := by omega
theorem ne_of16 {a y : Int} (h : a = y) (hy : 16 ≤ y) : a ≠ 0 := by omega
theorem wrap_succ {k n : Nat} (h : k < n) (hn : n ≤ maxLen) : wrap64 ((k : Int) + 1) = (k : Int) + 1 := by unfold wrap64; unfold maxLen at hn; omega
set_option maxHeartbeats 8000000 in
set_option maxRecDepth 100000 in
theorem out {A A2 : Option Addr} {p : List Fun} {args : List V} (c c2 : Nat) (s fuel : Int) (w : World) (hT : TabB w w.heap.size) (h : ProgAt w w.heap.size A p)
    (hs : (smallP p 300 && decide (args.length ≤ 40)) = false ∨ decide (fuel < 1) = true ∨ decide (3000 < fuel) = true) :
    Calls Tryz.prog 4 #[.agg (inpA A p.length c A2 args.length c2 s), .int .i64 fuel] w fun e w' => e = .returned (.bool true) ∧ Below w.heap.size w w' := by
  have F10 := fun W (hw : Below w.heap.size w W) => Lib.hid (fixed10 W ((hT.below hw (Nat.le_refl _)).more hw.size))
  have SM := fun W (hw : Below w.heap.size w W) => Lib.hid (small10 (A2 := A2) c args.length c2 s W ((h.below hw (Nat.le_refl _)).more hw.size))
  clear hT h
  generalize (smallP p 300 && decide (args.length ≤ 40)) = b1 at *
  generalize hb2 : decide (fuel < 1) = b2 at *
  generalize hb3 : decide (3000 < fuel) = b3 at *
  generalize p.length = pl at *
  generalize args.length = al at *
  have hw0 : Below w.heap.size w (w.alloc (.cells (inpA A pl c A2 al c2 s) 26)) := (Below.refl _ _).alloc (Nat.le_refl _) _
  have hI := Held.new w 26 (inpA A pl c A2 al c2 s)
  cases b1 <;> cases b2 <;> cases b3 <;> simp at hs
  all_goals go_enter Tryz.func4, Tryz.ntmps4
  all_goals go_wp2_with (first
    | (refine wpList_box_arr rfl 26 (.tmp 0) rfl (inpA A pl c A2 al c2 s) rfl ?_)
    | (go_at_call 9; (with_reducible refine (F10 _ hw0).out.mono ?_); rintro _ u ⟨rfl, hb⟩; replace hI := hI.below hb; replace hw0 := Below.step hw0 hb)
    | (guard_target = wpList _ _ _ (Oper.mk _ (Op.load 26 (.tmp 2)) _ _ _ (some _) :: _) _ _; refine wpList_load_rowG 26 (.tmp 2) rfl w.heap.size rfl 26 (inpA A pl c A2 al c2 s) (0, 0) _ hI Tryz.underlying26 rfl (by kernel_rfl) rfl ?_)
    | (go_at_call 8; (with_reducible refine (SM _ hw0).out.mono ?_); rintro _ u ⟨rfl, hb⟩; replace hI := hI.below hb; replace hw0 := Below.step hw0 hb))
  all_goals go_ret
  all_goals exact ⟨rfl, hw0⟩
set_option maxHeartbeats 8000000 in
set_option maxRecDepth 100000 in
theorem good {A A2 : Option Addr} {p : List Fun} {args : List V} (c c2 : Nat) (s fuel : Int) (w : World) (hT : TabB w w.heap.size) (h : ProgAt w w.heap.size A p) (hz : SizedP p) (ha : VAt w w.heap.size A2 args)
    (h1 : (smallP p 300 && decide (args.length ≤ 40)) = true) (h2 : decide (fuel < 1) = false) (h3 : decide (3000 < fuel) = false) {a0 a1 a2 n e : Int} (hR : evalP p args s fuel = ((a0, (a1, a2)), n, e)) {V : Bool}
    (hV : (((checkP p).2.2 == 0) = false ∧ V = false) ∨ (((checkP p).2.2 == 0) = true ∧ isZ s = false ∧ V = false) ∨ (((checkP p).2.2 == 0) = true ∧ isZ s = true ∧ ∃ h : 0 < p.length, ((args.length : Int) == p[0].ar) = V))
    (hT0 : V = true → ∀ f ∈ p, ∀ x ∈ f.code, x.1 = 16 → 16 ≤ x.2.1)
    (hM : ((V && args.all fun v => mayB v.1 v.2) = false ∧ e = 1) ∨ ((V && args.all fun v => mayB v.1 v.2) = true ∧ ((e = 100 ∧ a0 = 0) ∨ (e = 0 ∧ mayB a1 a2 = true ∧ (a0 = 0 ∨ a0 = 1 ∨ a0 = 2 ∨ InTrap p a0) ∧ (a0 ≠ 0 → a1 = 0 ∧ a2 = 0))))) :
    Calls Tryz.prog 4 #[.agg (inpA A p.length c A2 args.length c2 s), .int .i64 fuel] w fun e w' => e = .returned (.bool true) ∧ Below w.heap.size w w' := by
  have hV2 : (((checkP p).2.2 == 0) = false ∧ V = false) ∨ (((checkP p).2.2 == 0) = true ∧ isZ s = false ∧ V = false) ∨ (((checkP p).2.2 == 0) = true ∧ isZ s = true ∧ decide ((0 : Int) < p.length) = true ∧ 0 < p.length ∧ ∃ b off, A = some ⟨b, off, none⟩ ∧ b < w.heap.size ∧ ∃ a : Int, w.cell? ⟨b, off, none⟩ = some (.int .i64 a) ∧ ((args.length : Int) == a) = V) := by
    rcases hV with hV | hV | ⟨hv1, hv2, hlen, hv3⟩
    · exact .inl hV
    · exact .inr (.inl hV)
    · obtain ⟨b, off, rfl, hbl, hc⟩ := h hlen
      obtain ⟨k0, _⟩ := hc 0 hlen
      exact .inr (.inr ⟨hv1, hv2, decide_eq_true (by omega), hlen, b, off, rfl, hbl, _, by simpa using k0, hv3⟩)
  clear hV
  have HM := Lib.hid hM
  have HT0 := Lib.hid hT0
  have RM := fun (v : Int × Int) W => Lib.hid (rgmay_any v.1 v.2 W)
  have RMA := fun W => Lib.hid (rgmay_any a1 a2 W)
  clear hM hT0
  have F10 := fun W (hw : Below w.heap.size w W) => Lib.hid (fixed10 W ((hT.below hw (Nat.le_refl _)).more hw.size))
  have SM := fun W (hw : Below w.heap.size w W) => Lib.hid (small10 (A2 := A2) c args.length c2 s W ((h.below hw (Nat.le_refl _)).more hw.size))
  have IS5 := fun W => Lib.hid (is_any s W)
  rw [h1] at SM
  have hl : args.length ≤ 1000 := by simp only [Bool.and_eq_true, decide_eq_true_eq] at h1; omega
  have hpl : p.length ≤ 20 := by simp only [Bool.and_eq_true, smallP, decide_eq_true_eq] at h1; exact h1.1.1
  have EV := Lib.hid (show Ev p A p.length c w from ev_of (c := c) hT h hz)
  have HA := fun W (hw : Below w.heap.size w W) => Lib.hid ((ha.below hw (Nat.le_refl _)).more hw.size)
  have GD := fun W (hw : Below w.heap.size w W) d os => Lib.hid (rgood_any c (grow (redrawn W d) os) ((h.below (hw.trans ((below_regrown W d os).mono hw.size)) (Nat.le_refl _)).more (hw.trans ((below_regrown W d os).mono hw.size)).size) hz (Nat.le_refl _))
  have HP := Lib.hid h
  have HZ := Lib.hid hz
  have HL := Lib.hid hl
  have HPL := Lib.hid hpl
  have E1 := Lib.hid hR
  clear hT h hz ha h1 hl hpl hR
  generalize hpl : p.length = pl at *
  have HPLE := Lib.hid hpl
  generalize hal : args.length = al at *
  have HAL := Lib.hid hal
  clear hal hpl
  have hw0 : Below w.heap.size w (w.alloc (.cells (inpA A pl c A2 al c2 s) 26)) := (Below.refl _ _).alloc (Nat.le_refl _) _
  have hI := Held.new w 26 (inpA A pl c A2 al c2 s)
  have HV2 := Lib.hid hV2
  clear hV2
  go_enter Tryz.func4, Tryz.ntmps4
  go_upto_region 3 with (first
    | (refine wpList_box_arr rfl 26 (.tmp 0) rfl (inpA A pl c A2 al c2 s) rfl ?_)
    | (go_at_call 9; (with_reducible refine (F10 _ hw0).out.mono ?_); rintro _ u ⟨rfl, hb⟩; replace hI := hI.below hb; replace hw0 := Below.step hw0 hb)
    | (guard_target = wpList _ _ _ (Oper.mk _ (Op.load 26 (.tmp 2)) _ _ _ (some _) :: _) _ _; refine wpList_load_rowG 26 (.tmp 2) rfl w.heap.size rfl 26 (inpA A pl c A2 al c2 s) (0, 0) _ hI Tryz.underlying26 rfl (by kernel_rfl) rfl ?_)
    | (go_at_call 8; (with_reducible refine (SM _ hw0).out.mono ?_); rintro _ u ⟨rfl, hb⟩; replace hI := hI.below hb; replace hw0 := Below.step hw0 hb))
  clear F10 SM h2 h3
  have i0 := hI.cell 0
  have i1 := hI.cell 1
  have i2 := hI.cell 2
  simp at i0 i1 i2
  have hv3 := HA _ hw0
  go_upto_region 4 with (first
    | (go_at_call 10; (with_reducible refine (EV.out.ev _ args al s fuel _ A2 c2 hw0 hv3.out HAL.out (HAL.out ▸ HL.out) E1.out).mono ?_); rintro _ u3 ⟨rfl, hb3⟩; have hz3 := Held.new u3 32 oz0)
    | (guard_target = wpList _ _ _ (Oper.mk _ (Op.alloc 32) _ _ _ none :: _) _ _; refine wpList_alloc_arr rfl 32 rfl oz0 (by kernel_rfl) ?_)
    | (guard_target = wpList _ _ _ (Oper.mk _ (Op.store 32 (.tmp 5) (.tmp 37)) _ _ _ none :: _) _ _; refine wpList_store_row rfl 32 _ _ rfl u3.heap.size #[.int .i64 a0, .int .i64 a1, .int .i64 a2] rfl rfl _ _ hz3 (by kernel_rfl) rfl (by simp [Value.oneCell']) ?_))
  obtain ⟨hO3, _, hn3⟩ := out_kept (cs := #[.int .i64 a0, .int .i64 a1, .int .i64 a2]) hb3
  have hs3 := Below.step hb3 hn3
  replace hw0 := Below.step hw0 hs3
  replace hI := hI.below hs3
  generalize (u3.alloc (.cells oz0 32)).setRow u3.heap.size #[.int .i64 a0, .int .i64 a1, .int .i64 a2] = W3 at *
  clear hv3 hb3 hz3 hn3 hs3 i0 i1 i2
  have i0 := hI.cell 0
  have i1 := hI.cell 1
  have i2 := hI.cell 2
  simp at i0 i1 i2
  have GD4 := GD _ hw0
  have g0 := fun d os => cell_regrown i0 d os
  have g1 := fun d os => cell_regrown i1 d os
  have g2 := fun d os => cell_regrown i2 d os
  clear i0 i1 i2
  go_cut [8] from 40 to 64 (fun v8 wx => v8 = .bool V ∧ Below W3.heap.size W3 wx)
  case first =>
    have hV2 := HV2.out
    generalize hck : ((checkP p).2.2 == 0) = ck at *
    generalize hiz : isZ s = iz at *
    clear hO3 hI EV HA HP HZ E1 HM HT0 RM RMA GD HV2
    refine wp_region_quiet_below (by kernel_rfl) (by kernel_rfl) ?_
    rcases hV2 with ⟨rfl, rfl⟩ | ⟨rfl, rfl, rfl⟩ | ⟨rfl, rfl, hd, hd2, b, off, rfl, hbl, a, k0, hne⟩
    · (repeat (first
          | go_big_quiet_step ((first
            | (go_at_call 12; (with_reducible exact Calls.regrown_of (GD4 _ _).out))
            | (go_at_call 13; (with_reducible exact Calls.regrown_same (IS5 _).out))))
          | quiet_step ((first
            | (go_at_call 12; (with_reducible exact Calls.regrown_of (GD4 _ _).out))
            | (go_at_call 13; (with_reducible exact Calls.regrown_same (IS5 _).out))))))
      refine wpQuiet_nil ?_
      intro U hv
      have hbU := below_of_regrown hv
      go_wp2_with fail
      go_meet
      exact ⟨rfl, hbU⟩
    · (repeat (first
          | go_big_quiet_step ((first
            | (go_at_call 12; (with_reducible exact Calls.regrown_of (GD4 _ _).out))
            | (go_at_call 13; (with_reducible exact Calls.regrown_same (IS5 _).out))))
          | quiet_step ((first
            | (go_at_call 12; (with_reducible exact Calls.regrown_of (GD4 _ _).out))
            | (go_at_call 13; (with_reducible exact Calls.regrown_same (IS5 _).out))))))
      refine wpQuiet_nil ?_
      intro U hv
      have hbU := below_of_regrown hv
      go_wp2_with fail
      go_meet
      exact ⟨rfl, hbU⟩
    · have k0' := (hw0.cell (p := ⟨b, off, none⟩) hbl).trans k0
      have k0g := fun d os => cell_regrown k0' d os
      clear k0 k0' hbl
      (repeat (first
          | go_big_quiet_step ((first
            | (go_at_call 12; (with_reducible exact Calls.regrown_of (GD4 _ _).out))
            | (go_at_call 13; (with_reducible exact Calls.regrown_same (IS5 _).out))))
          | quiet_step ((first
            | (go_at_call 12; (with_reducible exact Calls.regrown_of (GD4 _ _).out))
            | (go_at_call 13; (with_reducible exact Calls.regrown_same (IS5 _).out))))))
      refine wpQuiet_nil ?_
      intro U hv
      have hbU := below_of_regrown hv
      go_wp2_with fail
      go_meet
      exact ⟨rfl, hbU⟩
  case rest =>
  obtain ⟨rfl, hbU⟩ := hcut
  generalize wc = U at *
  replace hw0 := Below.step hw0 hbU
  replace hI := hI.below hbU
  replace hO3 := hO3.below hbU
  clear hbU g0 g1 g2 GD4
  have HI := Lib.hid hI
  have HW := Lib.hid hw0
  have HO := Lib.hid hO3
  clear hI hw0 hO3 EV GD IS5 E1
  go_upto_region 6 with fail
  go_loopw [8, 9] (fun b iv W => ∃ i : Nat, iv = .int .i64 i ∧ i ≤ args.length ∧ b = .bool (V && (args.take i).all fun v => mayB v.1 v.2) ∧ Below U.heap.size U W) (fun _ iv _ => args.length - (intOf iv).toNat)
  case atStart => exact ⟨0, rfl, Nat.zero_le _, by simp, Below.refl _ _⟩
  case round =>
    obtain ⟨i, rfl, hi, rfl, hbW⟩ := hrel
    have HI2 := HI.out.below hbW
    have i0 := HI2.cell 0
    have i1 := HI2.cell 1
    simp at i0 i1
    have halE := HAL.out
    by_cases hlt : i < args.length
    · as_aux_lemma =>
      obtain ⟨b3, off3, rfl, hbl3, hd3⟩ := (HA _ (HW.out.trans (hbW.mono HW.out.size))).out (Nat.zero_lt_of_lt hlt)
      obtain ⟨d0, d1⟩ := hd3 i hlt
      have hjt : args.take (i + 1) = args.take i ++ [args[i]] := List.take_succ_eq_append_getElem hlt
      have hjx : (V && (args.take (i + 1)).all fun v => mayB v.1 v.2) = ((V && (args.take i).all fun v => mayB v.1 v.2) && mayB args[i].1 args[i].2) := by rw [hjt, List.all_append, List.all_cons, List.all_nil, Bool.and_true, Bool.and_assoc]
      have HJX := Lib.hid hjx
      clear hjx hjt hd3
      have hlt2 : (i : Int) < (al : Int) := lt_cast hlt halE
      have hwi : wrap64 ((i : Int) + 1) = (i : Int) + 1 := wrap_succ hlt (le_tr halE HL.out (show 1000 ≤ maxLen by decide))
      have HLT := Lib.hid hlt
      have HBW := Lib.hid hbW
      have CM := fun W => RM args[i] W
      clear hbW hi halE
      generalize args[i] = x at *
      generalize (V && (args.take i).all fun v => mayB v.1 v.2) = acc at *
      generalize hmb : mayB x.1 x.2 = mb at *
      cases acc
      · go_wp2_with fail
        go_roundw
        case rel => exact ⟨i + 1, (by first | with_reducible exact num1 _ | (rw [hwi]; with_reducible exact num1 _)), HLT.out, by rw [HJX.out]; rfl, HBW.out⟩
        case measure => first | with_reducible exact meas_lt HLT.out | (rw [hwi]; with_reducible exact meas_lt HLT.out)
      · go_wp2_with (go_at_call 14; (with_reducible refine (CM _).out.mono ?_); rintro _ u9 ⟨rfl, hb9⟩; replace HBW := Lib.hid (Below.step HBW.out hb9); clear hb9)
        go_roundw
        case rel => exact ⟨i + 1, (by first | with_reducible exact num1 _ | (rw [hwi]; with_reducible exact num1 _)), HLT.out, by rw [HJX.out]; rfl, HBW.out⟩
        case measure => first | with_reducible exact meas_lt HLT.out | (rw [hwi]; with_reducible exact meas_lt HLT.out)
    · obtain rfl : i = args.length := Nat.le_antisymm hi (Nat.le_of_not_lt hlt)
      rw [List.take_length]
      have HBW := Lib.hid hbW
      have HO2 := HO.out.below hbW
      have o0 := HO2.cell 0
      have o1 := HO2.cell 1
      have o2 := HO2.cell 2
      simp at o0 o1 o2
      have hIl := HI2.lt
      have hOl := HO2.lt
      have HPU := Lib.hid ((HP.out.below (HW.out.trans (hbW.mono HW.out.size)) (Nat.le_refl _)).more (HW.out.trans (hbW.mono HW.out.size)).size)
      have HWW := Lib.hid (HW.out.trans (hbW.mono HW.out.size))
      have HIW := Lib.hid HI2
      have HOW := Lib.hid HO2
      clear hbW HI2 HO2 HI HO HW HBW HA RM
      have hM := HM.out
      have hVM : (V && args.all fun v => mayB v.1 v.2) = true → V = true := fun h => by simp only [Bool.and_eq_true] at h; exact h.1
      have HVM := Lib.hid hVM
      clear hVM
      generalize (V && args.all fun v => mayB v.1 v.2) = M at *
      rcases hM with ⟨rfl, rfl⟩ | ⟨rfl, hM⟩
      · go_wp2_with fail
        go_ret
        exact ⟨rfl, HWW.out⟩
      · have HM2 := Lib.hid hM
        clear hM HM
        have hplE := HPLE.out
        have HB1 := Lib.hid (show 20 ≤ maxLen by decide)
        have HVT := Lib.hid (HVM.out rfl)
        go_upto_region 12 with fail
        generalize wr = W4 at *
        clear i0 i1 o0 o1 o2 hIl hOl
        go_loopw [10, 11] (fun iv _ W => ∃ i : Nat, iv = .int .i64 i ∧ i ≤ p.length ∧ (∀ f ∈ p.take i, ∀ x ∈ f.code, x.1 = 16 → a0 ≠ x.2.1) ∧ Below W4.heap.size W4 W) (fun iv _ _ => p.length - (intOf iv).toNat)
        case atStart => exact ⟨0, rfl, Nat.zero_le _, (fun f hf => by simp at hf), Below.refl _ _⟩
        case round =>
          obtain ⟨i, rfl, hi, hnr, hbK⟩ := hrel
          have HNR := Lib.hid hnr
          have HBK := Lib.hid hbK
          have HIK := HIW.out.below hbK
          have i0 := HIK.cell 0
          simp at i0
          clear hnr
          by_cases hlt : i < p.length
          · as_aux_lemma =>
            obtain ⟨b4, off4, rfl, hbl4, hc⟩ := ((HPU.out.below hbK (Nat.le_refl _)).more hbK.size) (Nat.zero_lt_of_lt hlt)
            obtain ⟨_, _, _, Ac, cc, f3, hcode⟩ := hc i hlt
            have HCD := Lib.hid hcode
            have hin : p[i] ∈ p := List.getElem_mem hlt
            generalize hgg : p[i] = g at *
            have HG := Lib.hid hgg
            have HGZ := Lib.hid (HZ.out.2 g hin)
            have HIN := Lib.hid hin
            have hwi : wrap64 ((i : Int) + 1) = (i : Int) + 1 := wrap_succ hlt (le_tr HPLE.out HPL.out HB1.out)
            clear hc hcode hgg hin
            have hlt2 : (i : Int) < (pl : Int) := lt_cast hlt HPLE.out
            have HLT := Lib.hid hlt
            have HLT1 := Lib.hid (show i + 1 ≤ p.length from hlt)
            have HOK := HOW.out.below hbK
            have HIK2 := Lib.hid HIK
            have HOK2 := Lib.hid HOK
            clear HIK HOK hbK
            go_upto_region 14 with fail
            go_upto_region 15 with fail
            generalize wr = W5 at *
            go_loopw [11] (fun kv W => ∃ k : Nat, kv = .int .i64 k ∧ k ≤ g.code.length ∧ (∀ x ∈ g.code.take k, x.1 = 16 → a0 ≠ x.2.1) ∧ Below W5.heap.size W5 W) (fun kv _ => g.code.length - (intOf kv).toNat)
            case atStart => exact ⟨0, rfl, Nat.zero_le _, (fun x hx => by simp at hx), Below.refl _ _⟩
            case round =>
              obtain ⟨k, rfl, hk, hcl, hbL⟩ := hrel
              have HCL := Lib.hid hcl
              have HBL := Lib.hid hbL
              have i0' := (HIK2.out.below hbL).cell 0
              have o0' := (HOK2.out.below hbL).cell 0
              have o1' := (HOK2.out.below hbL).cell 1
              have o2' := (HOK2.out.below hbL).cell 2
              have f3' := (hbL.cell (p := ⟨b4, off4 + i * 4 + 3, none⟩) hbl4).trans f3
              simp at i0' o0' o1' o2'
              clear hcl i0 f3
              by_cases hk2 : k < g.code.length
              · obtain ⟨b2, off2, rfl, _, hcc⟩ := ((HCD.out.below hbL (Nat.le_refl _)).more hbL.size) (Nat.zero_lt_of_lt hk2)
                obtain ⟨k0, k1, _⟩ := hcc k hk2
                obtain ⟨x1, hx1⟩ : ∃ x1, g.code[k].1 = x1 := ⟨_, rfl⟩
                obtain ⟨y1, hy1⟩ : ∃ y1, g.code[k].2.1 = y1 := ⟨_, rfl⟩
                replace k0 : wr.cell? ⟨b2, off2 + k * 3, none⟩ = some (Value.int .i64 x1) := by rw [← hx1]; exact k0
                replace k1 : wr.cell? ⟨b2, off2 + k * 3 + 1, none⟩ = some (Value.int .i64 y1) := by rw [← hy1]; exact k1
                have hk3 : (k : Int) < (g.code.length : Int) := lt_cast hk2 rfl
                have hwk := wrap_succ hk2 HGZ.out
                have HK2 := Lib.hid hk2
                have HGL := Lib.hid (show k + 1 ≤ g.code.length from hk2)
                have HXI := Lib.hid (show g.code[k] ∈ g.code from List.getElem_mem hk2)
                have HNX : x1 = 16 → a0 ≠ y1 → ∀ x ∈ g.code.take (k + 1), x.1 = 16 → a0 ≠ x.2.1 := fun h1 h2 x hx => by
                  rw [List.take_add_one, List.getElem?_eq_getElem HK2.out] at hx
                  rcases List.mem_append.1 hx with h | h
                  · exact HCL.out x h
                  · simp at h; subst h; rw [hy1]; exact fun _ => h2
                have HNY : x1 ≠ 16 → ∀ x ∈ g.code.take (k + 1), x.1 = 16 → a0 ≠ x.2.1 := fun h1 x hx => by
                  rw [List.take_add_one, List.getElem?_eq_getElem HK2.out] at hx
                  rcases List.mem_append.1 hx with h | h
                  · exact HCL.out x h
                  · simp at h; subst h; rw [hx1]; exact fun e => absurd e h1
                have HNX := Lib.hid HNX
                have HNY := Lib.hid HNY
                have HX1 := Lib.hid hx1
                have HY1 := Lib.hid hy1
                clear hcc hbL
                go_upto_region 17 with fail
                have q0 := fun d os => cell_regrown i0' d os
                have q1 := fun d os => cell_regrown o0' d os
                have q2 := fun d os => cell_regrown f3' d os
                have q3 := fun d os => cell_regrown k0 d os
                have q4 := fun d os => cell_regrown k1 d os
                by_cases h16 : x1 = 16
                · have h16b : (x1 == 16) = true := by simpa using h16
                  by_cases h17 : a0 = y1
                  · have h17b : (a0 == y1) = true := by simpa using h17
                    have hge0 := HT0.out HVT.out g HIN.out _ HXI.out (HX1.out.trans h16)
                    have hge : 16 ≤ y1 := Int.le_trans hge0 (Int.le_of_eq HY1.out)
                    clear hge0
                    obtain ⟨rfl, rfl, rfl⟩ : e = 0 ∧ a1 = 0 ∧ a2 = 0 := by
                      rcases HM2.out with ⟨_, e0⟩ | ⟨e1, _, _, e3⟩
                      · exact absurd e0 (ne_of16 h17 hge)
                      · exact ⟨e1, e3 (ne_of16 h17 hge)⟩
                    clear hge HX1 HY1 HNX HNY hx1 hy1 h16b h17b
                    subst h16 h17
                    refine wp_region_quiet_below (by kernel_rfl) (by kernel_rfl) ?_
                    (repeat go_big_quiet_step (fail))
                    try rw [h16b]
                    (repeat go_big_quiet_step (fail))
                    (repeat (first | go_big_quiet_step (fail) | quiet_step (fail)))
                    refine wpQuiet_nil ?_
                    intro U5 hv
                    have hbU := below_of_regrown hv
                    clear hv q0 q1 q2 q3 q4 i0' o0' f3' k0 k1
                    have o1u := (hbU.cell (p := ⟨u3.heap.size, 1, none⟩) (block_lt_of_cell o1')).trans o1'
                    have o2u := (hbU.cell (p := ⟨u3.heap.size, 2, none⟩) (block_lt_of_cell o2')).trans o2'
                    go_wp2_with fail
                    go_ret
                    exact ⟨rfl, Below.step (Below.step (Below.step HWW.out HBK.out) HBL.out) hbU⟩
                  · have h17b : (a0 == y1) = false := by simpa using h17
                    have HNZ := Lib.hid (HNX.out h16 h17)
                    clear h17 HX1 HY1 HNX HNY hx1 hy1 h16b
                    subst h16
                    refine wp_region_quiet_below (by kernel_rfl) (by kernel_rfl) ?_
                    (repeat go_big_quiet_step (fail))
                    try rw [h16b]
                    (repeat go_big_quiet_step (fail))
                    (repeat (first | go_big_quiet_step (fail) | quiet_step (fail)))
                    refine wpQuiet_nil ?_
                    intro U5 hv
                    have hbU := below_of_regrown hv
                    clear hv q0 q1 q2 q3 q4 i0' o0' f3' k0 k1
                    go_wp2_with fail
                    go_roundw
                    case rel => exact ⟨k + 1, (by first | with_reducible exact num1 _ | (rw [hwk]; with_reducible exact num1 _)), HGL.out, HNZ.out, Below.step HBL.out hbU⟩
                    case measure => first | with_reducible exact meas_lt HK2.out | (rw [hwk]; with_reducible exact meas_lt HK2.out)
                · have h16b : (x1 == 16) = false := by simpa using h16
                  have HNZ := Lib.hid (HNY.out h16)
                  clear h16 HX1 HY1 HNX HNY hx1 hy1
                  refine wp_region_quiet_below (by kernel_rfl) (by kernel_rfl) ?_
                  (repeat go_big_quiet_step (fail))
                  try rw [h16b]
                  (repeat go_big_quiet_step (fail))
                  (repeat (first | go_big_quiet_step (fail) | quiet_step (fail)))
                  refine wpQuiet_nil ?_
                  intro U5 hv
                  have hbU := below_of_regrown hv
                  clear hv q0 q1 q2 q3 q4 i0' o0' f3' k0 k1
                  go_wp2_with fail
                  go_roundw
                  case rel => exact ⟨k + 1, (by first | with_reducible exact num1 _ | (rw [hwk]; with_reducible exact num1 _)), HGL.out, HNZ.out, Below.step HBL.out hbU⟩
                  case measure => first | with_reducible exact meas_lt HK2.out | (rw [hwk]; with_reducible exact meas_lt HK2.out)
              · obtain rfl : k = g.code.length := Nat.le_antisymm hk (Nat.le_of_not_lt hk2)
                go_wp2_with fail
                go_roundw
                case rel => exact ⟨i + 1, (by first | with_reducible exact num1 _ | (rw [hwi]; with_reducible exact num1 _)), HLT1.out, (fun f hf => by
                  rw [List.take_add_one, List.getElem?_eq_getElem HLT.out, HG.out] at hf
                  rcases List.mem_append.1 hf with h | h
                  · exact HNR.out f h
                  · simp at h; subst h; exact fun x hx => HCL.out x (by rw [List.take_length]; exact hx)), Below.step HBK.out HBL.out⟩
                case measure => first | with_reducible exact meas_lt HLT.out | (rw [hwi]; with_reducible exact meas_lt HLT.out)
          · as_aux_lemma =>
            obtain rfl : i = p.length := Nat.le_antisymm hi (Nat.le_of_not_lt hlt)
            have hno : ∀ f ∈ p, ∀ x ∈ f.code, x.1 = 16 → a0 ≠ x.2.1 := by have := HNR.out; rwa [List.take_length] at this
            have HNO := Lib.hid hno
            clear hno
            have HWW := Lib.hid (Below.step HWW.out hbK)
            have HOK := HOW.out.below hbK
            have o0 := HOK.cell 0
            have o1 := HOK.cell 1
            have o2 := HOK.cell 2
            simp at o0 o1 o2
            clear hbK HIK HOK
            rcases HM2.out with ⟨rfl, rfl⟩ | ⟨rfl, hmay, ha0, ha12⟩
            · go_wp2_with fail
              go_ret
              exact ⟨rfl, HWW.out⟩
            · have h4 : (a0 = 0) ∨ ((a0 = 1 ∨ a0 = 2) ∧ a1 = 0 ∧ a2 = 0) := by
                rcases ha0 with r | r | r | ⟨g, hg, x, hx, hx1, hx2⟩
                · exact .inl r
                · exact .inr ⟨.inl r, ha12 (by rw [r]; decide)⟩
                · exact .inr ⟨.inr r, ha12 (by rw [r]; decide)⟩
                · exact absurd hx2.symm (HNO.out g hg x hx hx1)
              clear ha0 ha12
              rcases h4 with rfl | ⟨rfl | rfl, rfl, rfl⟩
              · rw [hmay] at RMA
                go_wp2_with (go_at_call 14; (with_reducible refine (RMA _).out.mono ?_); rintro _ u9 ⟨rfl, hb9⟩; replace HWW := Lib.hid (Below.step HWW.out hb9); clear hb9)
                go_ret
                exact ⟨rfl, HWW.out⟩
              · go_wp2_with fail
                go_ret
                exact ⟨rfl, HWW.out⟩
              · go_wp2_with fail
                go_ret
                exact ⟨rfl, HWW.out⟩
theorem mayB_iff (v : V) : mayB v.1 v.2 = true ↔ gMay v := by
  constructor
  · intro h
    simp only [mayB, Bool.and_eq_true, decide_eq_true_eq] at h
    exact ⟨h.1.1, h.1.2, h.2.1, h.2.2⟩
  · rintro ⟨a, b, c, d⟩
    simp [mayB, a, b, c, d]
set_option maxRecDepth 100000 in
theorem walk {A A2 : Option Addr} {p : List Fun} {args : List V} (c c2 : Nat) (s fuel : Int) (w : World) (hT : TabB w w.heap.size) (h : ProgAt w w.heap.size A p) (hz : SizedP p) (ha : VAt w w.heap.size A2 args) :
    Calls Tryz.prog 4 #[.agg (inpA A p.length c A2 args.length c2 s), .int .i64 fuel] w fun e w' => e = .returned (.bool true) ∧ Below w.heap.size w w' := by
  cases h1 : (smallP p 300 && decide (args.length ≤ 40)) with
  | false => exact out c c2 s fuel w hT h (.inl h1)
  | true =>
    cases h2 : decide (fuel < 1) with
    | true => exact out c c2 s fuel w hT h (.inr (.inl h2))
    | false =>
      cases h3 : decide (3000 < fuel) with
      | true => exact out c c2 s fuel w hT h (.inr (.inr h3))
      | false =>
        have f1 := of_decide_eq_false h2
        have f2 := of_decide_eq_false h3
        have hev := eval_value (p := p) (args := args) (s := s) (fuel := fuel) (by omega) (by omega)
        rcases hR : evalP p args s fuel with ⟨⟨a0, a1, a2⟩, n, e⟩
        rw [hR] at hev
        have hT0 : ((checkP p).2.2 == 0) = true → ∀ f ∈ p, ∀ x ∈ f.code, x.1 = 16 → 16 ≤ x.2.1 := by
          intro hck f hf x hx h16
          have hm := ((mayF_iff f).1 (((mayP_iff p).1 (check_facts (by simpa using hck)).1).2.2 f hf)).2.2.2 x hx
          have e1 : (rz 16).lo = 16 := rfl
          rw [h16] at hm
          simp only [mayZ, Bool.and_eq_true, decide_eq_true_eq] at hm
          rw [e1] at hm
          exact hm.1.2.1
        by_cases hC : (checkP p).2.2 = 0 ∧ isZ s = true ∧ ∃ h : 0 < p.length, p[0].ar = args.length
        · have hck2 : ((checkP p).2.2 == 0) = true := by simpa using hC.1
          refine good c c2 s fuel w hT h hz ha h1 h2 h3 hR (V := true) (.inr (.inr ⟨hck2, hC.2.1, hC.2.2.1, by simpa using hC.2.2.2.symm⟩)) (fun _ => hT0 hck2) ?_
          rw [Bool.true_and]
          cases hall : (args.all fun v => mayB v.1 v.2) with
          | false =>
            refine .inl ⟨rfl, ?_⟩
            rcases hev with hev | hev
            · exact hev.1
            · have := List.all_eq_true.2 fun v hv => (mayB_iff v).2 (hev.1.2.2.2 v hv)
              rw [hall] at this
              cases this
          | true =>
            refine .inr ⟨rfl, ?_⟩
            have hall2 : ∀ v ∈ args, gMay v := fun v hv => (mayB_iff v).1 (List.all_eq_true.1 hall v hv)
            rcases hev with hev | ⟨_, hev | hev⟩
            · exact absurd ⟨hC.1, hC.2.1, hC.2.2, hall2⟩ hev.2
            · simp only [zeroO, Prod.mk.injEq] at hev
              exact .inl ⟨hev.2.2, hev.1.1⟩
            · refine .inr ⟨hev.1, (mayB_iff (a1, a2)).2 hev.2.1, hev.2.2.1, fun e => ?_⟩
              have := hev.2.2.2 e
              simp only [Prod.mk.injEq] at this
              exact this
        · have he : e = 1 := by
            rcases hev with hev | hev
            · exact hev.1
            · exact absurd ⟨hev.1.1, hev.1.2.1, hev.1.2.2.1⟩ hC
          refine good c c2 s fuel w hT h hz ha h1 h2 h3 hR (V := false) ?_ (fun e => by cases e) (.inl ⟨rfl, he⟩)
          cases hck : ((checkP p).2.2 == 0) with
          | false => exact .inl ⟨rfl, rfl⟩
          | true =>
            cases hs : isZ s with
            | false => exact .inr (.inl ⟨rfl, rfl, rfl⟩)
            | true =>
              have hlen : 0 < p.length := by have := ((mayP_iff p).1 (check_facts (by simpa using hck)).1).1; omega
              refine .inr (.inr ⟨rfl, rfl, hlen, ?_⟩)
              rw [beq_eq_false_iff_ne]
              exact fun e => hC ⟨by simpa using hck, hs, hlen, e.symm⟩
set_option maxRecDepth 100000 in
theorem entry {H : Type} {enc : TypeId × Value → H} (W : World) (base : Nat) (v0 v1 : Value) (d0 d1 : DataW H) (p0 p1 : List MemPlace)
    (k0 : Value.okWide Tryz.prog W .any base 26 v0)
    (k1 : Value.okWide Tryz.prog W .any base 3 v1)
    (h0 : DataW.Trod enc Tryz.prog W 0 (fun _ => true) true 26 v0 d0 p0)
    (h1 : DataW.Trod enc Tryz.prog W 0 (fun _ => true) true 3 v1 d1 p1)
    (hT : TabB W W.heap.size) : Calls Tryz.prog 4 #[v0, v1] W fun e w' => e = .returned (.bool true) ∧ Below W.heap.size W w' := by
  obtain ⟨A, c, P, A2, c2, args, s, rfl, hP, hz, hV⟩ := open_input k0 h0
  obtain ⟨fuel, rfl, _, _, _⟩ := open_int Tryz.underlying3 k1 h1
  exact walk c c2 s fuel W hT hP hz hV
end Go.Proofs.YtagjddnpaahebaaGreatDoor.seqValue

