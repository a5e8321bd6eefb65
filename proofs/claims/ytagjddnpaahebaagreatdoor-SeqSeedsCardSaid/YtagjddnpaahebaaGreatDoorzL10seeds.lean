/- Layer 10: SeqSeeds: a program that draws nothing tells the same of every seed; one that draws one value, that of the seed. For all programs, arguments, seeds, fuels. -/
import Derived.Test.YtagjddnpaahebaaGreatDoorzSh
import Derived.Test.YtagjddnpaahebaaGreatDoorzSg
import Derived.Test.YtagjddnpaahebaaGreatDoorzSr
namespace Go.Proofs.YtagjddnpaahebaaGreatDoor.seqSeeds
set_option linter.unusedVariables false
set_option linter.unusedSimpArgs false
open Gm Go.RowKit Go.ChangeShapes Go.WideShapes Go.ChangeAt Go.Sort

set_option maxHeartbeats 8000000 in
set_option maxRecDepth 100000 in
theorem out {A A2 : Option Addr} {p : List Fun} {args : List V} (c c2 : Nat) (s t fuel : Int) (w : World) (hT : TabB w w.heap.size) (h : ProgAt w w.heap.size A p)
    (hs : (smallP p 300 && decide (args.length ≤ 40)) = false ∨ decide (3000 < fuel) = true ∨ isZ t = false ∨ isZ s = false) :
    Calls Tryz.prog 6 #[.agg (inpA A p.length c A2 args.length c2 s), .int .i64 t, .int .i64 fuel] w fun e w' => e = .returned (.bool true) ∧ Below w.heap.size w w' := by
  have F10 := fun W (hw : Below w.heap.size w W) => Lib.hid (fixed10 W ((hT.below hw (Nat.le_refl _)).more hw.size))
  have SM := fun W (hw : Below w.heap.size w W) => Lib.hid (small10 (A2 := A2) c args.length c2 s W ((h.below hw (Nat.le_refl _)).more hw.size))
  have IS4 := fun W => Lib.hid (is_any t W)
  have IS5 := fun W => Lib.hid (is_any s W)
  clear hT h
  generalize (smallP p 300 && decide (args.length ≤ 40)) = b1 at *
  generalize hb2 : decide (3000 < fuel) = b2 at *
  generalize isZ t = b4 at *
  generalize isZ s = b5 at *
  generalize p.length = pl at *
  generalize args.length = al at *
  have hw0 : Below w.heap.size w (w.alloc (.cells (inpA A pl c A2 al c2 s) 26)) := (Below.refl _ _).alloc (Nat.le_refl _) _
  have hI := Held.new w 26 (inpA A pl c A2 al c2 s)
  cases b1 <;> cases b2 <;> cases b4 <;> cases b5 <;> simp at hs
  all_goals go_enter Tryz.func6, Tryz.ntmps6
  all_goals go_wp2_with (first
    | (refine wpList_box_arr rfl 26 (.tmp 0) rfl (inpA A pl c A2 al c2 s) rfl ?_)
    | (go_at_call 9; (with_reducible refine (F10 _ hw0).out.mono ?_); rintro _ u ⟨rfl, hb⟩; replace hI := hI.below hb; replace hw0 := Below.step hw0 hb)
    | (guard_target = wpList _ _ _ (Oper.mk _ (Op.load 26 (.tmp 3)) _ _ _ (some _) :: _) _ _; refine wpList_load_rowG 26 (.tmp 3) rfl w.heap.size rfl 26 (inpA A pl c A2 al c2 s) (0, 0) _ hI Tryz.underlying26 rfl (by kernel_rfl) rfl ?_)
    | (go_at_call 8; (with_reducible refine (SM _ hw0).out.mono ?_); rintro _ u ⟨rfl, hb⟩; replace hI := hI.below hb; replace hw0 := Below.step hw0 hb; have i2 := hI.cell 2; simp at i2)
    | (go_at_call 13; (first | with_reducible refine (IS4 _).out.mono ?_ | with_reducible refine (IS5 _).out.mono ?_); rintro _ u ⟨rfl, rfl⟩))
  all_goals go_ret
  all_goals exact ⟨rfl, hw0⟩
theorem num1 (k : Nat) : Value.int .i64 ((k : Int) + 1) = Value.int .i64 ((k + 1 : Nat) : Int) := rfl
theorem meas_lt {k n : Nat} (h : k < n) : n - (intOf (.int .i64 ((k : Int) + 1))).toNat < n - (intOf (.int .i64 k)).toNat := by simp [intOf]; omega
theorem lt_cast {i n m : Nat} (h : i < n) (e : n = m) : (i : Int) < (m : Int) := by omega
theorem le_tr {n m k M : Nat} (e : n = m) (h : m ≤ k) (hk : k ≤ M) : n ≤ M := by omega
theorem ne_of16 {a y : Int} (h : a = y) (hy : 16 ≤ y) : a ≠ 0 := by omega
theorem wrap_succ {k n : Nat} (h : k < n) (hn : n ≤ maxLen) : wrap64 ((k : Int) + 1) = (k : Int) + 1 := by unfold wrap64; unfold maxLen at hn; omega
set_option maxHeartbeats 8000000 in
set_option maxRecDepth 100000 in
theorem good {A A2 : Option Addr} {p : List Fun} {args : List V} (c c2 : Nat) (s t fuel : Int) (w : World) (hT : TabB w w.heap.size) (h : ProgAt w w.heap.size A p) (hz : SizedP p) (ha : VAt w w.heap.size A2 args)
    (h1 : (smallP p 300 && decide (args.length ≤ 40)) = true) (h2 : decide (3000 < fuel) = false) (h4 : isZ t = true) (h5 : isZ s = true) :
    Calls Tryz.prog 6 #[.agg (inpA A p.length c A2 args.length c2 s), .int .i64 t, .int .i64 fuel] w fun e w' => e = .returned (.bool true) ∧ Below w.heap.size w w' := by
  have F10 := fun W (hw : Below w.heap.size w W) => Lib.hid (fixed10 W ((hT.below hw (Nat.le_refl _)).more hw.size))
  have SM := fun W (hw : Below w.heap.size w W) => Lib.hid (small10 (A2 := A2) c args.length c2 s W ((h.below hw (Nat.le_refl _)).more hw.size))
  have IS4 := fun W => Lib.hid (is_any t W)
  have IS5 := fun W => Lib.hid (is_any s W)
  have RD := rdraw_any t 0
  have E0 := Lib.hid (ev10r h4)
  have ES := fun hp => Lib.hid (eval_seed (p := p) hp args h5 h4 fuel)
  rw [h1] at SM
  rw [h4] at IS4
  rw [h5] at IS5
  have hl : args.length ≤ 1000 := by simp only [Bool.and_eq_true, decide_eq_true_eq] at h1; omega
  have hpl : p.length ≤ 20 := by simp only [Bool.and_eq_true, smallP, decide_eq_true_eq] at h1; exact h1.1.1
  have EV := Lib.hid (show Ev p A p.length c w from ev_of (c := c) hT h hz)
  have HA := fun W (hw : Below w.heap.size w W) => Lib.hid ((ha.below hw (Nat.le_refl _)).more hw.size)
  have HP := Lib.hid h
  have HZ := Lib.hid hz
  have HL := Lib.hid hl
  have HPL := Lib.hid hpl
  have HT := Lib.hid hT
  have OR := fun W => Lib.hid (of10_any tr10 W (by decide))
  have hgr : (⟨tr10.toArray⟩ : ByteArray) = ⟨#[102, 117, 110, 99, 32, 48, 32, 48, 32, 48, 10, 114, 97, 110, 100, 10, 114, 101, 116, 10]⟩ := by apply ByteArray.ext; rfl
  rw [hgr, pr10_of] at OR
  have OR1 : ∀ W, Hid (Calls Tryz.prog 15 #[.string ⟨#[102, 117, 110, 99, 32, 48, 32, 48, 32, 48, 10, 114, 97, 110, 100, 10, 114, 101, 116, 10]⟩] W fun e w' => ∃ A c, e = .returned (.slice A 1 c) ∧ ProgAt w' w'.heap.size A pr10 ∧ Below W.heap.size W w') := OR
  have hzr : SizedP pr10 := by rw [← pr10_of]; exact parse_sized _
  generalize hd : drawZ t 0 = d at *
  obtain ⟨x, y⟩ := d
  simp only at RD
  generalize hR1 : evalP p args s fuel = R1 at *
  have E1 := Lib.hid hR1
  obtain ⟨⟨a0, a1, a2⟩, n, e⟩ := R1
  clear hT h hz ha h1 hl hpl h4 h5 OR hgr hd hR1
  generalize hpl : p.length = pl at *
  have HPLE := Lib.hid hpl
  generalize hal : args.length = al at *
  have HAL := Lib.hid hal
  clear hal hpl
  have hw0 : Below w.heap.size w (w.alloc (.cells (inpA A pl c A2 al c2 s) 26)) := (Below.refl _ _).alloc (Nat.le_refl _) _
  have hI := Held.new w 26 (inpA A pl c A2 al c2 s)
  go_enter Tryz.func6, Tryz.ntmps6
  go_upto_region 3 with (first
    | (refine wpList_box_arr rfl 26 (.tmp 0) rfl (inpA A pl c A2 al c2 s) rfl ?_)
    | (go_at_call 9; (with_reducible refine (F10 _ hw0).out.mono ?_); rintro _ u ⟨rfl, hb⟩; replace hI := hI.below hb; replace hw0 := Below.step hw0 hb)
    | (guard_target = wpList _ _ _ (Oper.mk _ (Op.load 26 (.tmp 3)) _ _ _ (some _) :: _) _ _; refine wpList_load_rowG 26 (.tmp 3) rfl w.heap.size rfl 26 (inpA A pl c A2 al c2 s) (0, 0) _ hI Tryz.underlying26 rfl (by kernel_rfl) rfl ?_)
    | (go_at_call 8; (with_reducible refine (SM _ hw0).out.mono ?_); rintro _ u ⟨rfl, hb⟩; replace hI := hI.below hb; replace hw0 := Below.step hw0 hb; have i2 := hI.cell 2; simp at i2)
    | (go_at_call 13; (first | with_reducible refine (IS4 _).out.mono ?_ | with_reducible refine (IS5 _).out.mono ?_); rintro _ u ⟨rfl, rfl⟩))
  clear F10 SM IS4 IS5 i2 h2
  go_upto_region 4 with (first
    | (go_at_call 15; (with_reducible refine (OR1 _).out.mono ?_); rintro _ U2 ⟨A3, c3, rfl, hpB, hbB⟩; have hw2 := Below.step hw0 hbB; have EB := Lib.hid (show Ev pr10 A3 1 c3 U2 from ev_of (c := c3) ((HT.out.below hw2 (Nat.le_refl _)).more hw2.size) hpB hzr))
    | (go_at_call 10; (with_reducible refine (EB.out.ev _ _ 0 _ _ _ _ _ (Below.refl U2.heap.size U2) ev_none rfl (by decide) E0.out).mono ?_); rintro _ u3 ⟨rfl, hb3⟩; have hz3 := Held.new u3 32 oz0)
    | (guard_target = wpList _ _ _ (Oper.mk _ (Op.alloc 32) _ _ _ none :: _) _ _; refine wpList_alloc_arr rfl 32 rfl oz0 (by kernel_rfl) ?_)
    | (guard_target = wpList _ _ _ (Oper.mk _ (Op.store 32 (.tmp 7) (.tmp 45)) _ _ _ none :: _) _ _; refine wpList_store_row rfl 32 _ _ rfl u3.heap.size #[.int .i64 0, .int .i64 x, .int .i64 y] rfl rfl _ _ hz3 (by kernel_rfl) rfl (by simp [Value.oneCell']) ?_))
  obtain ⟨hO3, _, hn3⟩ := out_kept (cs := #[.int .i64 0, .int .i64 x, .int .i64 y]) hb3
  have hs3 := Below.step (Below.step hbB hb3) hn3
  replace hw0 := Below.step hw0 hs3
  replace hI := hI.below hs3
  generalize (u3.alloc (.cells oz0 32)).setRow u3.heap.size #[.int .i64 0, .int .i64 x, .int .i64 y] = W3 at *
  have o1 := hO3.cell 1
  have o2 := hO3.cell 2
  simp at o1 o2
  clear hO3 hn3 hs3 hbB hw2 hb3 hz3 EB hpB
  have g1 := fun d os => cell_regrown o1 d os
  have g2 := fun d os => cell_regrown o2 d os
  clear o1 o2
  refine wp_region_quiet_below (by kernel_rfl) (by kernel_rfl) ?_
  (repeat (first
    | go_big_quiet_step ((go_at_call 17; (with_reducible exact Calls.regrown_of (RD.go _))))
    | quiet_step ((go_at_call 17; (with_reducible exact Calls.regrown_of (RD.go _))))))
  refine wpQuiet_nil ?_
  intro U hv
  have hbU := below_of_regrown hv
  replace hw0 := Below.step hw0 hbU
  replace hI := hI.below hbU
  clear hv hbU g1 g2 RD E0 OR1 hzr HT
  have HPU := Lib.hid ((HP.out.below hw0 (Nat.le_refl _)).more hw0.size)
  have i0 := hI.cell 0
  have i1 := hI.cell 1
  have i2 := hI.cell 2
  simp at i0 i1 i2
  have hIl := hI.lt
  have HI := Lib.hid hI
  have HW := Lib.hid hw0
  clear hI hw0
  go_upto_region 6 with fail
  go_wp2_with fail
  have hplE := HPLE.out
  go_loop [10, 11] (fun iv _ => ∃ i : Nat, iv = .int .i64 i ∧ i ≤ p.length ∧ NoRand (p.take i)) (fun iv _ => p.length - (intOf iv).toNat)
  case atStart => exact ⟨0, rfl, Nat.zero_le _, fun f hf => by simp at hf⟩
  case round =>
    obtain ⟨i, rfl, hi, hnr⟩ := hrel
    have HNR := Lib.hid hnr
    clear hnr
    by_cases hlt : i < p.length
    · as_aux_lemma =>
      obtain ⟨b, off, rfl, hbl, hc⟩ := HPU.out (Nat.zero_lt_of_lt hlt)
      obtain ⟨_, _, _, Ac, cc, f3, hcode⟩ := hc i hlt
      have HCD := Lib.hid hcode
      have hin : p[i] ∈ p := List.getElem_mem hlt
      generalize hg : p[i] = g at *
      have HG := Lib.hid hg
      have HGZ := Lib.hid (HZ.out.2 g hin)
      have hwi : wrap64 ((i : Int) + 1) = (i : Int) + 1 := wrap_succ hlt (le_tr HPLE.out HPL.out (show 20 ≤ maxLen by decide))
      clear hc hcode hg hin
      have hlt2 : (i : Int) < (pl : Int) := lt_cast hlt HPLE.out
      have HLT := Lib.hid hlt
      have HLT1 := Lib.hid (show i + 1 ≤ p.length from hlt)
      go_wp2_with fail
      go_loop [11] (fun kv => ∃ k : Nat, kv = .int .i64 k ∧ k ≤ g.code.length ∧ ∀ x ∈ g.code.take k, x.1 ≠ 12) (fun kv => g.code.length - (intOf kv).toNat)
      case atStart => exact ⟨0, rfl, Nat.zero_le _, fun x hx => by simp at hx⟩
      case round =>
        obtain ⟨k, rfl, hk, hcl⟩ := hrel
        have HCL := Lib.hid hcl
        clear hcl
        by_cases hk2 : k < g.code.length
        · obtain ⟨b2, off2, rfl, _, hcc⟩ := HCD.out (Nat.zero_lt_of_lt hk2)
          obtain ⟨k0, _, _⟩ := hcc k hk2
          have hk3 : (k : Int) < (g.code.length : Int) := lt_cast hk2 rfl
          have hwk := wrap_succ hk2 HGZ.out
          have HK2 := Lib.hid hk2
          have HGL := Lib.hid (show k + 1 ≤ g.code.length from hk2)
          clear hcc
          by_cases h12 : g.code[k].1 = 12
          · have h12b : (g.code[k].1 == 12) = true := by simpa using h12
            go_wp2_with fail
            go_ret
            exact ⟨rfl, HW.out⟩
          · have h12b : (g.code[k].1 == 12) = false := by simpa using h12
            have H12 := Lib.hid h12
            clear h12
            go_wp2_with fail
            go_round
            case rel => exact ⟨k + 1, (by first | with_reducible exact num1 _ | (rw [hwk]; with_reducible exact num1 _)), HGL.out, fun x hx => by
              rw [List.take_add_one, List.getElem?_eq_getElem HK2.out] at hx
              rcases List.mem_append.1 hx with h | h
              · exact HCL.out x h
              · simp at h; subst h; exact H12.out⟩
            case measure => first | with_reducible exact meas_lt HK2.out | (rw [hwk]; with_reducible exact meas_lt HK2.out)
        · obtain rfl : k = g.code.length := Nat.le_antisymm hk (Nat.le_of_not_lt hk2)
          go_wp2_with fail
          go_round
          case rel => exact ⟨i + 1, (by first | with_reducible exact num1 _ | (rw [hwi]; with_reducible exact num1 _)), HLT1.out, fun f hf => by
            rw [List.take_add_one, List.getElem?_eq_getElem HLT.out, HG.out] at hf
            rcases List.mem_append.1 hf with h | h
            · exact HNR.out f h
            · simp at h; subst h; exact fun x hx => HCL.out x (by rw [List.take_length]; exact hx)⟩
          case measure => first | with_reducible exact meas_lt HLT.out | (rw [hwi]; with_reducible exact meas_lt HLT.out)
    · as_aux_lemma =>
      obtain rfl : i = p.length := Nat.le_antisymm hi (Nat.le_of_not_lt hlt)
      have hnp : NoRand p := by have := HNR.out; rwa [List.take_length] at this
      have E2 := ES hnp
      clear ES
      have hw0 := HW.out
      have hI := HI.out
      clear HW HI HPU HNR hnp i0 i1 i2 hIl
      have i0 := hI.cell 0
      have i1 := hI.cell 1
      have i2 := hI.cell 2
      simp at i0 i1 i2
      have hv14 := HA _ hw0
      go_upto_region 15 with (first
        | (go_at_call 10; (with_reducible refine (EV.out.ev _ args al s fuel _ A2 c2 hw0 hv14.out HAL.out (HAL.out ▸ HL.out) E1.out).mono ?_); rintro _ u14 ⟨rfl, hb14⟩; have hz14 := Held.new u14 32 oz0)
        | (guard_target = wpList _ _ _ (Oper.mk _ (Op.alloc 32) _ _ _ none :: _) _ _; refine wpList_alloc_arr rfl 32 rfl oz0 (by kernel_rfl) ?_)
        | (guard_target = wpList _ _ _ (Oper.mk _ (Op.store 32 (.tmp 12) (.tmp 95)) _ _ _ none :: _) _ _; refine wpList_store_row rfl 32 _ _ rfl u14.heap.size #[.int .i64 a0, .int .i64 a1, .int .i64 a2] rfl rfl _ _ hz14 (by kernel_rfl) rfl (by simp [Value.oneCell']) ?_))
      obtain ⟨hO14, _, hn14⟩ := out_kept (cs := #[.int .i64 a0, .int .i64 a1, .int .i64 a2]) hb14
      have hs14 := Below.step hb14 hn14
      replace hw0 := Below.step hw0 hs14
      replace hI := hI.below hs14
      generalize (u14.alloc (.cells oz0 32)).setRow u14.heap.size #[.int .i64 a0, .int .i64 a1, .int .i64 a2] = W14 at *
      clear hv14 hb14 hz14 hn14 hs14 i0 i1 i2
      have i0 := hI.cell 0
      have i1 := hI.cell 1
      have i2 := hI.cell 2
      simp at i0 i1 i2
      have hv15 := HA _ hw0
      go_upto_region 16 with (first
        | (go_at_call 10; (with_reducible refine (EV.out.ev _ args al t fuel _ A2 c2 hw0 hv15.out HAL.out (HAL.out ▸ HL.out) E2.out).mono ?_); rintro _ u15 ⟨rfl, hb15⟩; have hz15 := Held.new u15 32 oz0)
        | (guard_target = wpList _ _ _ (Oper.mk _ (Op.alloc 32) _ _ _ none :: _) _ _; refine wpList_alloc_arr rfl 32 rfl oz0 (by kernel_rfl) ?_)
        | (guard_target = wpList _ _ _ (Oper.mk _ (Op.store 32 (.tmp 15) (.tmp 106)) _ _ _ none :: _) _ _; refine wpList_store_row rfl 32 _ _ rfl u15.heap.size #[.int .i64 a0, .int .i64 a1, .int .i64 a2] rfl rfl _ _ hz15 (by kernel_rfl) rfl (by simp [Value.oneCell']) ?_))
      obtain ⟨hO15, _, hn15⟩ := out_kept (cs := #[.int .i64 a0, .int .i64 a1, .int .i64 a2]) hb15
      have hs15 := Below.step hb15 hn15
      replace hw0 := Below.step hw0 hs15
      replace hI := hI.below hs15
      replace hO14 := hO14.below hs15
      generalize (u15.alloc (.cells oz0 32)).setRow u15.heap.size #[.int .i64 a0, .int .i64 a1, .int .i64 a2] = W15 at *
      clear hv15 hb15 hz15 hn15 hs15 i0 i1 i2
      have x0 := hO14.cell 0
      have x1 := hO14.cell 1
      have x2 := hO14.cell 2
      simp at x0 x1 x2
      have y0 := hO15.cell 0
      have y1 := hO15.cell 1
      have y2 := hO15.cell 2
      simp at y0 y1 y2
      have HF := Lib.hid hw0
      clear EV HA HL HAL E1 E2 hO14 hO15 hw0 hI
      go_wp2_with fail
      go_ret
      exact ⟨rfl, HF.out⟩
set_option maxRecDepth 100000 in
theorem walk {A A2 : Option Addr} {p : List Fun} {args : List V} (c c2 : Nat) (s t fuel : Int) (w : World) (hT : TabB w w.heap.size) (h : ProgAt w w.heap.size A p) (hz : SizedP p) (ha : VAt w w.heap.size A2 args) :
    Calls Tryz.prog 6 #[.agg (inpA A p.length c A2 args.length c2 s), .int .i64 t, .int .i64 fuel] w fun e w' => e = .returned (.bool true) ∧ Below w.heap.size w w' := by
  cases h1 : (smallP p 300 && decide (args.length ≤ 40)) with
  | false => exact out c c2 s t fuel w hT h (.inl h1)
  | true =>
    cases h2 : decide (3000 < fuel) with
    | true => exact out c c2 s t fuel w hT h (.inr (.inl h2))
    | false =>
      cases h4 : isZ t with
      | false => exact out c c2 s t fuel w hT h (.inr (.inr (.inl h4)))
      | true =>
        cases h5 : isZ s with
        | false => exact out c c2 s t fuel w hT h (.inr (.inr (.inr h5)))
        | true => exact good c c2 s t fuel w hT h hz ha h1 h2 h4 h5
set_option maxRecDepth 100000 in
theorem entry {H : Type} {enc : TypeId × Value → H} (W : World) (base : Nat) (v0 v1 v2 : Value) (d0 d1 d2 : DataW H) (p0 p1 p2 : List MemPlace)
    (k0 : Value.okWide Tryz.prog W .any base 26 v0)
    (k1 : Value.okWide Tryz.prog W .any base 3 v1)
    (k2 : Value.okWide Tryz.prog W .any base 3 v2)
    (h0 : DataW.Trod enc Tryz.prog W 0 (fun _ => true) true 26 v0 d0 p0)
    (h1 : DataW.Trod enc Tryz.prog W 0 (fun _ => true) true 3 v1 d1 p1)
    (h2 : DataW.Trod enc Tryz.prog W 0 (fun _ => true) true 3 v2 d2 p2)
    (hT : TabB W W.heap.size) : Calls Tryz.prog 6 #[v0, v1, v2] W fun e w' => e = .returned (.bool true) ∧ Below W.heap.size W w' := by
  obtain ⟨A, c, P, A2, c2, args, s, rfl, hP, hz, hV⟩ := open_input k0 h0
  obtain ⟨t, rfl, _, _, _⟩ := open_int Tryz.underlying3 k1 h1
  obtain ⟨fuel, rfl, _, _, _⟩ := open_int Tryz.underlying3 k2 h2
  exact walk c c2 s t fuel W hT hP hz hV
end Go.Proofs.YtagjddnpaahebaaGreatDoor.seqSeeds

