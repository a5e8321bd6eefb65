/- Layer 10: SeqSum: the sum of what a program tells of one argument, run by two children, is twice that, if it draws nothing, and does not trap. For all functions, all values. -/
import Derived.Test.YtagjddnpaahebaaGreatDoorzSh
import Derived.Test.YtagjddnpaahebaaGreatDoorzSo
import Derived.Test.YtagjddnpaahebaaGreatDoorzSg
import Derived.Test.YtagjddnpaahebaaGreatDoorzGv
import Derived.Test.YtagjddnpaahebaaGreatDoorzSr
import Derived.Test.YtagjddnpaahebaaGreatDoorzHc
import Derived.Test.YtagjddnpaahebaaGreatDoorzSb
import Derived.Test.YtagjddnpaahebaaGreatDoorzGc
import Derived.Test.YtagjddnpaahebaaGreatDoorzHb
import Derived.Test.YtagjddnpaahebaaGreatDoorCards
import Derived.Test.YtagjddnpaahebaaGreatDoorTie
import Derived.ProofKit
import Derived.OpenShut
import Derived.Lay
import Derived.Stop.Joined
import Derived.Stop.LaidErr
import Derived.Lib.LaidTab
import Derived.LaidMore
namespace Go.Proofs.YtagjddnpaahebaaGreatDoor.seqSum
set_option linter.unusedVariables false
set_option linter.unusedSimpArgs false
open Gm Go.RowKit Go.ChangeShapes Go.WideShapes Go.ChangeAt Go.Sort

set_option maxHeartbeats 8000000 in
set_option maxRecDepth 100000 in
theorem out {f : Fun} {A : Option Addr} (c : Nat) (x y : Int) (w : World) (hT : TabB w w.heap.size) (h : CodeAt w w.heap.size A f.code) (hz : f.code.length ≤ maxLen)
    (hs : (f.ar != 1) = true ∨ ((f.ar != 1) = false ∧ decide (200 < (f.code.length : Int)) = true) ∨ ((f.ar != 1) = false ∧ decide (200 < (f.code.length : Int)) = false ∧ mayB x y = false) ∨ ((f.ar != 1) = false ∧ decide (200 < (f.code.length : Int)) = false ∧ mayB x y = true ∧ ((checkP [f]).2.2 == 0) = false)) :
    Calls Tryz.prog 5 #[.agg (fnA f A c), .agg #[.int .i64 x, .int .i64 y]] w fun e w' => e = .returned (.bool true) ∧ Below w.heap.size w w' := by
  have F10 := fun W (hw : Below w.heap.size w W) => Lib.hid (fixed10 W ((hT.below hw (Nat.le_refl _)).more hw.size))
  have RM := fun W => Lib.hid (rgmay_any x y W)
  have hz1 : SizedP [f] := ⟨by unfold maxLen; simp, fun g hg => by rw [List.mem_singleton] at hg; subst hg; exact hz⟩
  have GD : ∀ W, Below w.heap.size w W → Hid (Calls Tryz.prog 12 #[.slice (some ⟨W.heap.size, 0, none⟩) 1 1] (W.alloc (.cells (fnA f A c) 41)) fun e w' => e = .returned (.bool ((checkP [f]).2.2 == 0)) ∧ Below (W.alloc (.cells (fnA f A c) 41)).heap.size (W.alloc (.cells (fnA f A c) 41)) w') := fun W hw =>
    Lib.hid (rgood_any 1 (W.alloc (.cells (fnA f A c) 41)) (one_prog ((h.below hw (Nat.le_refl _)).more hw.size)) hz1 (Nat.le_refl _))
  clear hT h hz hz1
  generalize ((checkP [f]).2.2 == 0) = ck at *
  generalize mayB x y = mb at *
  generalize hb2 : decide (200 < (f.code.length : Int)) = b2 at *
  generalize hb1 : (f.ar != 1) = b1 at *
  have hw0 : Below w.heap.size w ((w.alloc (.cells (fnA f A c) 41)).alloc (.cells #[.int .i64 x, .int .i64 y] 30)) := ((Below.refl _ _).alloc (Nat.le_refl _) _).alloc (by simp) _
  have hI : Held ((w.alloc (.cells (fnA f A c) 41)).alloc (.cells #[.int .i64 x, .int .i64 y] 30)) w.heap.size 41 (fnA f A c) := (Held.new w 41 (fnA f A c)).below ((Below.refl _ _).alloc (Nat.le_refl _) _)
  have hV : Held ((w.alloc (.cells (fnA f A c) 41)).alloc (.cells #[.int .i64 x, .int .i64 y] 30)) (w.heap.size + 1) 30 #[.int .i64 x, .int .i64 y] := by
    have := Held.new (w.alloc (.cells (fnA f A c) 41)) 30 #[.int .i64 x, .int .i64 y]
    simpa using this
  rcases hs with rfl | ⟨rfl, rfl⟩ | ⟨rfl, rfl, rfl⟩ | ⟨rfl, rfl, rfl, rfl⟩
  all_goals go_enter Tryz.func5, Tryz.ntmps5
  all_goals go_wp2_with (first
    | (guard_target = wpList _ _ _ (Oper.mk _ (Op.box 41 _) _ _ _ none :: _) _ _; refine wpList_box_arr rfl 41 (.tmp 0) rfl (fnA f A c) rfl ?_)
    | (guard_target = wpList _ _ _ (Oper.mk _ (Op.box 30 _) _ _ _ none :: _) _ _; refine wpList_box_arr rfl 30 (.tmp 1) rfl #[.int .i64 x, .int .i64 y] rfl ?_)
    | (go_at_call 9; (with_reducible refine (F10 _ hw0).out.mono ?_); rintro _ u ⟨rfl, hb⟩; replace hI := hI.below hb; replace hV := hV.below hb; replace hw0 := Below.step hw0 hb; have i0 := hI.cell 0; have i3 := hI.cell 3; simp at i0 i3)
    | (guard_target = wpList _ _ _ (Oper.mk _ (Op.load 30 (.tmp 3)) _ _ _ (some _) :: _) _ _; refine wpList_load_rowG 30 (.tmp 3) rfl (w.heap.size + 1) rfl 30 #[.int .i64 x, .int .i64 y] (0, 0) _ hV Tryz.underlying30 rfl (by kernel_rfl) rfl ?_)
    | (guard_target = wpList _ _ _ (Oper.mk _ (Op.load 41 (.tmp 2)) _ _ _ (some _) :: _) _ _; refine wpList_load_rowG 41 (.tmp 2) rfl w.heap.size rfl 41 (fnA f A c) (0, 0) _ hI Tryz.underlying41 rfl (by kernel_rfl) rfl ?_)
    | (go_at_call 14; (with_reducible refine (RM _).out.mono ?_); rintro _ u1 ⟨rfl, hb1⟩; replace hI := hI.below hb1; replace hV := hV.below hb1; replace hw0 := Below.step hw0 hb1; replace i0 := hI.cell 0; replace i3 := hI.cell 3; simp at i0 i3)
    | (go_at_call 12; (with_reducible refine (GD _ hw0).out.mono ?_); rintro _ u2 ⟨rfl, hb2⟩; have hb2' := below_laid hb2; replace hI := hI.below hb2'; replace hV := hV.below hb2'; replace hw0 := Below.step hw0 hb2'))
  all_goals go_ret
  all_goals exact ⟨rfl, hw0⟩
theorem wrap_succ {k n : Nat} (h : k < n) (hn : n ≤ maxLen) : wrap64 ((k : Int) + 1) = (k : Int) + 1 := by unfold wrap64; unfold maxLen at hn; omega
theorem num1 (k : Nat) : Value.int .i64 ((k : Int) + 1) = Value.int .i64 ((k + 1 : Nat) : Int) := rfl
theorem meas_lt {k n : Nat} (h : k < n) : n - (intOf (.int .i64 ((k : Int) + 1))).toNat < n - (intOf (.int .i64 k)).toNat := by simp [intOf]; omega
def tsum : List UInt8 := [102, 117, 110, 99, 32, 49, 32, 49, 32, 50, 10, 108, 111, 97, 100, 32, 48, 10, 115, 112, 97, 119, 110, 32, 49, 32, 48, 10, 108, 111, 97, 100, 32, 48, 10, 115, 112, 97, 119, 110, 32, 49, 32, 49, 10, 106, 111, 105, 110, 32, 49, 10, 106, 111, 105, 110, 32, 48, 10, 97, 100, 100, 10, 114, 101, 116, 10, 102, 117, 110, 99, 32, 48, 32, 48, 32, 48, 10, 116, 114, 97, 112, 32, 49, 54, 10]
theorem tsum_of : (parseP tsum).1 = [mainS, ⟨0, 0, 0, [(16, 16, 0)]⟩] := by kernel_rfl
set_option maxHeartbeats 8000000 in
set_option maxRecDepth 100000 in
theorem good {f : Fun} {A : Option Addr} (c : Nat) (x y : Int) (w : World) (hT : TabB w w.heap.size) (h : CodeAt w w.heap.size A f.code) (hz : f.code.length ≤ maxLen)
    (h1 : (f.ar != 1) = false) (h2 : decide (200 < (f.code.length : Int)) = false) (h3 : mayB x y = true) (h4 : ((checkP [f]).2.2 == 0) = true)
    {a0 a1 a2 n e b0 b1 b2 m g : Int} (hR : evalP [f] [(x, y)] 1 1000 = ((a0, (a1, a2)), n, e)) (hQ : evalP [mainS, f] [(x, y)] 2 3000 = ((b0, (b1, b2)), m, g))
    (hE : (∀ x ∈ f.code, x.1 ≠ 12 ∧ x.1 ≠ 13) → (e != 0) = true ∨ ((e != 0) = false ∧ ((a0 != 0) = true ∧ g = 0 ∧ b0 = a0 ∧ b1 = a1 ∧ b2 = a2) ∨ ((e != 0) = false ∧ (a0 != 0) = false ∧ g = 0 ∧ wrap64 (wrap64 (2 * n) + 8) = m ∧ b0 = 0 ∧ b1 = (gAdd (a1, a2) (a1, a2)).1 ∧ b2 = (gAdd (a1, a2) (a1, a2)).2))) :
    Calls Tryz.prog 5 #[.agg (fnA f A c), .agg #[.int .i64 x, .int .i64 y]] w fun e w' => e = .returned (.bool true) ∧ Below w.heap.size w w' := by
  have F10 := fun W (hw : Below w.heap.size w W) => Lib.hid (fixed10 W ((hT.below hw (Nat.le_refl _)).more hw.size))
  have RM := fun W => Lib.hid (rgmay_any x y W)
  have hz1 : SizedP [f] := ⟨by unfold maxLen; simp, fun g hg => by rw [List.mem_singleton] at hg; subst hg; exact hz⟩
  have GD : ∀ W, Below w.heap.size w W → Hid (Calls Tryz.prog 12 #[.slice (some ⟨W.heap.size, 0, none⟩) 1 1] (W.alloc (.cells (fnA f A c) 41)) fun e w' => e = .returned (.bool ((checkP [f]).2.2 == 0)) ∧ Below (W.alloc (.cells (fnA f A c) 41)).heap.size (W.alloc (.cells (fnA f A c) 41)) w') := fun W hw =>
    Lib.hid (rgood_any 1 (W.alloc (.cells (fnA f A c) 41)) (one_prog ((h.below hw (Nat.le_refl _)).more hw.size)) hz1 (Nat.le_refl _))
  rw [h3] at RM
  rw [h4] at GD
  have hz2 : SizedP [mainS, f] := ⟨by unfold maxLen; simp, fun q hq => by
    simp only [List.mem_cons, List.not_mem_nil, or_false] at hq
    rcases hq with rfl | rfl
    · show 8 ≤ maxLen; decide
    · exact hz⟩
  have EVS : ∀ W, Below w.heap.size w W → Hid (Calls Tryz.prog 10 #[.slice (some ⟨W.heap.size, 0, none⟩) 1 1, .slice (some ⟨W.heap.size + 1, 0, none⟩) 1 1, .int .i64 1, .int .i64 1000] ((W.alloc (.cells (fnA f A c) 41)).alloc (.cells #[.int .i64 x, .int .i64 y] 30)) fun r w' => r = .returned (tellV ((a0, (a1, a2)), n, e)) ∧ Below ((W.alloc (.cells (fnA f A c) 41)).alloc (.cells #[.int .i64 x, .int .i64 y] 30)).heap.size ((W.alloc (.cells (fnA f A c) 41)).alloc (.cells #[.int .i64 x, .int .i64 y] 30)) w') := fun W hw => by
    have hbW : Below W.heap.size W ((W.alloc (.cells (fnA f A c) 41)).alloc (.cells #[.int .i64 x, .int .i64 y] 30)) := ((Below.refl _ _).alloc (Nat.le_refl _) _).alloc (by simp) _
    have hb1 : Below (W.alloc (.cells (fnA f A c) 41)).heap.size (W.alloc (.cells (fnA f A c) 41)) ((W.alloc (.cells (fnA f A c) 41)).alloc (.cells #[.int .i64 x, .int .i64 y] 30)) := (Below.refl _ _).alloc (Nat.le_refl _) _
    have hp := ((one_prog (c := c) ((h.below hw (Nat.le_refl _)).more hw.size)).below hb1 (Nat.le_refl _)).more hb1.size
    have hv := vat10 (W.alloc (.cells (fnA f A c) 41)) x y
    rw [show (W.alloc (.cells (fnA f A c) 41)).heap.size = W.heap.size + 1 by simp] at hv
    have := seval_any 1 1 1 1000 ((W.alloc (.cells (fnA f A c) 41)).alloc (.cells #[.int .i64 x, .int .i64 y] 30)) ((hT.below (hw.trans (hbW.mono hw.size)) (Nat.le_refl _)).more (hw.trans (hbW.mono hw.size)).size) hp hz1 hv (by simp)
    rw [hR] at this
    exact Lib.hid this
  have OF : ∀ W, Hid (Calls Tryz.prog 15 #[.string ⟨#[102, 117, 110, 99, 32, 49, 32, 49, 32, 50, 10, 108, 111, 97, 100, 32, 48, 10, 115, 112, 97, 119, 110, 32, 49, 32, 48, 10, 108, 111, 97, 100, 32, 48, 10, 115, 112, 97, 119, 110, 32, 49, 32, 49, 10, 106, 111, 105, 110, 32, 49, 10, 106, 111, 105, 110, 32, 48, 10, 97, 100, 100, 10, 114, 101, 116, 10, 102, 117, 110, 99, 32, 48, 32, 48, 32, 48, 10, 116, 114, 97, 112, 32, 49, 54, 10]⟩] W fun r w' => ∃ v L, r = .returned v ∧ OwnL w' W.heap.size v L ∧ L.map (·.1) = [mainS, ⟨0, 0, 0, [(16, 16, 0)]⟩] ∧ Below W.heap.size W w') := fun W => by
    have := of10_own tsum W (by decide)
    rw [tsum_of] at this
    exact Lib.hid this
  have HT := Lib.hid hT
  have HC := Lib.hid h
  have HZ2 := Lib.hid hz2
  have HZ := Lib.hid hz
  have HQ := Lib.hid hQ
  have HE := Lib.hid hE
  have RAD := fun W => Lib.hid (radd_any a1 a2 a1 a2 W)
  clear hT h hz1 hz2 hQ hR h3 h4 hE hz
  have hw0 : Below w.heap.size w ((w.alloc (.cells (fnA f A c) 41)).alloc (.cells #[.int .i64 x, .int .i64 y] 30)) := ((Below.refl _ _).alloc (Nat.le_refl _) _).alloc (by simp) _
  have hI : Held ((w.alloc (.cells (fnA f A c) 41)).alloc (.cells #[.int .i64 x, .int .i64 y] 30)) w.heap.size 41 (fnA f A c) := (Held.new w 41 (fnA f A c)).below ((Below.refl _ _).alloc (Nat.le_refl _) _)
  have hV : Held ((w.alloc (.cells (fnA f A c) 41)).alloc (.cells #[.int .i64 x, .int .i64 y] 30)) (w.heap.size + 1) 30 #[.int .i64 x, .int .i64 y] := by
    have := Held.new (w.alloc (.cells (fnA f A c) 41)) 30 #[.int .i64 x, .int .i64 y]
    simpa using this
  go_enter Tryz.func5, Tryz.ntmps5
  go_upto_region 3 with (first
    | (guard_target = wpList _ _ _ (Oper.mk _ (Op.box 41 _) _ _ _ none :: _) _ _; refine wpList_box_arr rfl 41 (.tmp 0) rfl (fnA f A c) rfl ?_)
    | (guard_target = wpList _ _ _ (Oper.mk _ (Op.box 30 _) _ _ _ none :: _) _ _; refine wpList_box_arr rfl 30 (.tmp 1) rfl #[.int .i64 x, .int .i64 y] rfl ?_)
    | (go_at_call 9; (with_reducible refine (F10 _ hw0).out.mono ?_); rintro _ u ⟨rfl, hb⟩; replace hI := hI.below hb; replace hV := hV.below hb; replace hw0 := Below.step hw0 hb; have i0 := hI.cell 0; have i3 := hI.cell 3; simp at i0 i3)
    | (guard_target = wpList _ _ _ (Oper.mk _ (Op.load 30 (.tmp 3)) _ _ _ (some _) :: _) _ _; refine wpList_load_rowG 30 (.tmp 3) rfl (w.heap.size + 1) rfl 30 #[.int .i64 x, .int .i64 y] (0, 0) _ hV Tryz.underlying30 rfl (by kernel_rfl) rfl ?_)
    | (guard_target = wpList _ _ _ (Oper.mk _ (Op.load 41 (.tmp 2)) _ _ _ (some _) :: _) _ _; refine wpList_load_rowG 41 (.tmp 2) rfl w.heap.size rfl 41 (fnA f A c) (0, 0) _ hI Tryz.underlying41 rfl (by kernel_rfl) rfl ?_)
    | (go_at_call 14; (with_reducible refine (RM _).out.mono ?_); rintro _ u1 ⟨rfl, hb1⟩; replace hI := hI.below hb1; replace hV := hV.below hb1; replace hw0 := Below.step hw0 hb1; replace i0 := hI.cell 0; replace i3 := hI.cell 3; simp at i0 i3)
    | (go_at_call 12; (with_reducible refine (GD _ hw0).out.mono ?_); rintro _ u2 ⟨rfl, hb2⟩; have hb2' := below_laid hb2; replace hI := hI.below hb2'; replace hV := hV.below hb2'; replace hw0 := Below.step hw0 hb2'))
  clear F10 RM GD h1 h2
  have hc3 := hI.cell 3
  simp at hc3
  have HI := Lib.hid hI
  have HV := Lib.hid hV
  have HW := Lib.hid hw0
  clear hI hV hw0 i0 i3
  go_upto_region 4 with fail
  go_loop [5] (fun iv => ∃ i : Nat, iv = .int .i64 i ∧ i ≤ f.code.length ∧ ∀ q ∈ f.code.take i, q.1 ≠ 12 ∧ q.1 ≠ 13) (fun iv => f.code.length - (intOf iv).toNat)
  case atStart => exact ⟨0, rfl, by omega, fun q hq => by simp at hq⟩
  case round =>
    obtain ⟨i, rfl, hi, hcl⟩ := hrel
    have HCL := Lib.hid hcl
    clear hcl
    by_cases hlt : i < f.code.length
    · obtain ⟨b2, off2, rfl, hb2l, hcc⟩ := ((HC.out.below HW.out (Nat.le_refl _)).more HW.out.size) (by omega)
      obtain ⟨k0, _, _⟩ := hcc i hlt
      obtain ⟨x1, hx1⟩ : ∃ x1, f.code[i].1 = x1 := ⟨_, rfl⟩
      replace k0 : u2.cell? ⟨b2, off2 + i * 3, none⟩ = some (Value.int .i64 x1) := by rw [← hx1]; exact k0
      have hlt2 : (i : Int) < (f.code.length : Int) := by omega
      have hwi := wrap_succ hlt HZ.out
      have HLT := Lib.hid hlt
      have HLE := Lib.hid (show i + 1 ≤ f.code.length from hlt)
      have HNX : x1 ≠ 12 → x1 ≠ 13 → ∀ q ∈ f.code.take (i + 1), q.1 ≠ 12 ∧ q.1 ≠ 13 := fun h1 h2 q hq => by
        rw [List.take_add_one, List.getElem?_eq_getElem HLT.out] at hq
        rcases List.mem_append.1 hq with h | h
        · exact HCL.out q h
        · simp at h; subst h; rw [hx1]; exact ⟨h1, h2⟩
      have HNX := Lib.hid HNX
      clear hcc hx1 hb2l
      by_cases h12 : x1 = 12
      · have h12b : (x1 == 12) = true := by simpa using h12
        clear h12
        go_wp2_with fail
        go_ret
        exact ⟨rfl, HW.out⟩
      · have h12b : (x1 == 12) = false := by simpa using h12
        by_cases h13 : x1 = 13
        · have h13b : (x1 == 13) = true := by simpa using h13
          clear h12 h13
          go_wp2_with fail
          go_ret
          exact ⟨rfl, HW.out⟩
        · have h13b : (x1 == 13) = false := by simpa using h13
          have HNZ := Lib.hid (HNX.out h12 h13)
          clear h12 h13
          go_wp2_with fail
          go_round
          case rel => exact ⟨i + 1, (by first | with_reducible exact num1 _ | (rw [hwi]; with_reducible exact num1 _)), HLE.out, HNZ.out⟩
          case measure => first | with_reducible exact meas_lt HLT.out | (rw [hwi]; with_reducible exact meas_lt HLT.out)
    · obtain rfl : i = f.code.length := by omega
      have hcl := HCL.out
      rw [List.take_length] at hcl
      have hE := HE.out hcl
      have HEE := Lib.hid hE
      have hVl := HV.out.lt
      clear hcl hE HE HCL
      go_upto_region 8 with fail
      have hw0 := HW.out
      have hI := HI.out
      have hV := HV.out
      go_upto_region 9 with (first
        | (guard_target = wpList _ _ _ (Oper.mk _ (Op.load 41 (.tmp 2)) _ _ _ none :: _) _ _; refine wpList_load_row rfl 41 (.tmp 2) rfl w.heap.size rfl 41 (fnA f A c) (0, 0) _ hI Tryz.underlying41 rfl (by kernel_rfl) ?_)
        | (guard_target = wpList _ _ _ (Oper.mk _ (Op.load 30 (.tmp 3)) _ _ _ none :: _) _ _; refine wpList_load_row rfl 30 (.tmp 3) rfl (w.heap.size + 1) rfl 30 #[.int .i64 x, .int .i64 y] (0, 0) _ (hV.below ((Below.refl _ _).alloc (Nat.le_refl _) _)) Tryz.underlying30 rfl (by kernel_rfl) ?_)
        | (go_at_call 10; (with_reducible refine (EVS _ hw0).out.mono ?_); rintro _ u3 ⟨rfl, hb3⟩; have hz3 := Held.new u3 32 oz0)
        | (guard_target = wpList _ _ _ (Oper.mk _ (Op.alloc 32) _ _ _ none :: _) _ _; refine wpList_alloc_arr rfl 32 rfl oz0 (by kernel_rfl) ?_)
        | (guard_target = wpList _ _ _ (Oper.mk _ (Op.store 32 (.tmp 6) (.tmp 67)) _ _ _ none :: _) _ _; refine wpList_store_row rfl 32 _ _ rfl u3.heap.size #[.int .i64 a0, .int .i64 a1, .int .i64 a2] rfl rfl _ _ hz3 (by kernel_rfl) rfl (by simp [Value.oneCell']) ?_))
      obtain ⟨hO3, _, hn3⟩ := out_kept (cs := #[.int .i64 a0, .int .i64 a1, .int .i64 a2]) hb3
      have hs3 : Below u2.heap.size u2 _ := (((Below.refl _ _).alloc (Nat.le_refl _) _).alloc (by simp) _).trans ((Below.step hb3 hn3).mono (by simp; omega))
      replace hw0 := Below.step hw0 hs3
      replace hI := hI.below hs3
      replace hV := hV.below hs3
      generalize (u3.alloc (.cells oz0 32)).setRow u3.heap.size #[.int .i64 a0, .int .i64 a1, .int .i64 a2] = W3 at *
      clear hn3 hs3 hb3 hz3 EVS hc3 hVl
      go_upto_region 10 with (first
        | (go_at_call 15; (with_reducible refine (OF _).out.mono ?_); rintro _ U2 ⟨v, L, rfl, hown, hL, hbB⟩; obtain ⟨gg, cap, a, b, rfl, ha1, rfl, hBg, hth⟩ := own_two hown hL))
      replace hI := hI.below hbB
      have HOWN := Lib.hid hown
      clear hown hL OF
      go_upto_region 13 with (first
        | (guard_target = wpList _ _ _ (Oper.mk _ (Op.load 41 (.tmp 2)) _ _ _ none :: _) _ _; refine wpList_load_row rfl 41 (.tmp 2) rfl w.heap.size rfl 41 (fnA f A c) (0, 0) _ hI Tryz.underlying41 rfl (by kernel_rfl) ?_)
        | (guard_target = wpList _ _ _ (Oper.mk _ (Op.store 41 (.tmp 76) (.tmp 75)) _ _ _ none :: _) _ _; refine wpList_store_mid rfl 41 _ _ rfl gg 4 (fnA f A c) rfl rfl hth (by kernel_rfl) (by simp [Value.oneCell']) ?_))
      have hCU : CodeAt U2 W3.heap.size A f.code := (HC.out.below (Below.step hw0 hbB) (Nat.le_refl _)).more hw0.size
      obtain ⟨hp4, hb4⟩ := two_prog (f := f) (A := A) (c := c) HOWN.out hCU hbB.size
      rw [ha1] at hp4
      have hb34 := hbB.trans hb4
      replace hw0 := Below.step hw0 hb34
      replace hO3 := hO3.below hb34
      replace hV := hV.below hb34
      generalize U2.setCells gg 4 (fnA f A c).toList = U4 at *
      have EB := Lib.hid (show Ev [mainS, f] (some ⟨gg, 0, none⟩) 2 cap U4 from ev_of (c := cap) ((HT.out.below hw0 (Nat.le_refl _)).more hw0.size) hp4 HZ2.out)
      clear hCU hp4 hb4 hb34 hbB hth hI HOWN ha1 HT HC HZ2
      have hv5 := vat10 U4 x y
      have hw5 : Below U4.heap.size U4 (U4.alloc (.cells #[.int .i64 x, .int .i64 y] 30)) := (Below.refl _ _).alloc (Nat.le_refl _) _
      go_upto_region 14 with (first
        | (guard_target = wpList _ _ _ (Oper.mk _ (Op.load 30 (.tmp 3)) _ _ _ none :: _) _ _; refine wpList_load_row rfl 30 (.tmp 3) rfl (w.heap.size + 1) rfl 30 #[.int .i64 x, .int .i64 y] (0, 0) _ hV Tryz.underlying30 rfl (by kernel_rfl) ?_)
        | (go_at_call 10; (with_reducible refine (EB.out.ev _ _ 1 _ _ _ _ _ hw5 hv5 rfl (by decide) HQ.out).mono ?_); rintro _ u6 ⟨rfl, hb6⟩; have hz6 := Held.new u6 32 oz0)
        | (guard_target = wpList _ _ _ (Oper.mk _ (Op.alloc 32) _ _ _ none :: _) _ _; refine wpList_alloc_arr rfl 32 rfl oz0 (by kernel_rfl) ?_)
        | (guard_target = wpList _ _ _ (Oper.mk _ (Op.store 32 (.tmp 10) (.tmp 82)) _ _ _ none :: _) _ _; refine wpList_store_row rfl 32 _ _ rfl u6.heap.size #[.int .i64 b0, .int .i64 b1, .int .i64 b2] rfl rfl _ _ hz6 (by kernel_rfl) rfl (by simp [Value.oneCell']) ?_))
      obtain ⟨hO6, _, hn6⟩ := out_kept (cs := #[.int .i64 b0, .int .i64 b1, .int .i64 b2]) hb6
      have hs6 := Below.step hw5 (Below.step hb6 hn6)
      replace hw0 := Below.step hw0 hs6
      replace hO3 := hO3.below hs6
      generalize (u6.alloc (.cells oz0 32)).setRow u6.heap.size #[.int .i64 b0, .int .i64 b1, .int .i64 b2] = W6 at *
      have x0 := hO3.cell 0
      have x1 := hO3.cell 1
      have x2 := hO3.cell 2
      have y0 := hO6.cell 0
      have y1 := hO6.cell 1
      have y2 := hO6.cell 2
      simp at x0 x1 x2 y0 y1 y2
      have HF := Lib.hid hw0
      clear hn6 hs6 hb6 hz6 hv5 hw5 EB HQ hO3 hO6 hw0 hV HI HV HW
      rcases HEE.out with he | ⟨he, ha, rfl, rfl, rfl, rfl⟩ | ⟨he, ha, rfl, hm, rfl, rfl, rfl⟩
      · go_wp2_with fail
        go_ret
        exact ⟨rfl, HF.out⟩
      · go_wp2_with fail
        go_ret
        exact ⟨rfl, HF.out⟩
      · go_upto_region 18 with fail
        subst hm
        have p0 := fun d os => cell_regrown x0 d os
        have p1 := fun d os => cell_regrown x1 d os
        have p2 := fun d os => cell_regrown x2 d os
        have q0 := fun d os => cell_regrown y0 d os
        have q1 := fun d os => cell_regrown y1 d os
        have q2 := fun d os => cell_regrown y2 d os
        clear x0 x1 x2 y0 y1 y2
        generalize gAdd (a1, a2) (a1, a2) = G at *
        obtain ⟨g1, g2⟩ := G
        simp only at RAD q1 q2
        refine wp_region_quiet_below (by kernel_rfl) (by kernel_rfl) ?_
        (repeat (first
          | go_big_quiet_step ((go_at_call 16; (with_reducible exact Calls.regrown_of (RAD _).out)))
          | quiet_step ((go_at_call 16; (with_reducible exact Calls.regrown_of (RAD _).out)))))
        refine wpQuiet_nil ?_
        intro U9 hv
        have hbU := below_of_regrown hv
        have HF9 := Lib.hid (Below.step HF.out hbU)
        clear hv hbU p0 p1 p2 q0 q1 q2 RAD HF
        go_wp2_with fail
        go_ret
        exact ⟨rfl, HF9.out⟩
theorem mayB_val (x y : Int) (h : mayB x y = true) : gMay (x, y) := by
  simp only [mayB, Bool.and_eq_true, decide_eq_true_eq] at h
  exact ⟨h.1.1, h.1.2, h.2.1, h.2.2⟩
set_option maxRecDepth 100000 in
theorem walk {f : Fun} {A : Option Addr} (c : Nat) (x y : Int) (w : World) (hT : TabB w w.heap.size) (h : CodeAt w w.heap.size A f.code) (hz : f.code.length ≤ maxLen) : Calls Tryz.prog 5 #[.agg (fnA f A c), .agg #[.int .i64 x, .int .i64 y]] w fun e w' => e = .returned (.bool true) ∧ Below w.heap.size w w' := by
  by_cases h1 : f.ar = 1
  · have h1b : (f.ar != 1) = false := by simp [h1]
    by_cases h2 : 200 < (f.code.length : Int)
    · exact out c x y w hT h hz (.inr (.inl ⟨h1b, decide_eq_true h2⟩))
    · cases h3 : mayB x y with
      | false => exact out c x y w hT h hz (.inr (.inr (.inl ⟨h1b, decide_eq_false h2, h3⟩)))
      | true =>
        by_cases h4 : (checkP [f]).2.2 = 0
        · rcases hR : evalP [f] [(x, y)] 1 1000 with ⟨⟨a0, a1, a2⟩, n, e⟩
          rcases hQ : evalP [mainS, f] [(x, y)] 2 3000 with ⟨⟨b0, b1, b2⟩, m, g⟩
          refine good c x y w hT h hz h1b (decide_eq_false h2) h3 (by simpa using h4) hR hQ fun hq => ?_
          by_cases he : e = 0
          · right
            subst he
            have hnr : NoRand [f] := fun k hk q hq2 => by
              rw [List.mem_singleton] at hk
              subst hk
              exact (hq q hq2).1
            obtain ⟨e1, e2⟩ := eval_sum h1 h4 hnr (fun q hq2 => (hq q hq2).2) (mayB_val x y h3) hR
            by_cases ha : a0 = 0
            · right
              have e3 := e2 ha
              rw [hQ] at e3
              have hn := fuel_ok (p := [f]) (args := [(x, y)]) (s := 1) (fuel := 1000) (by rw [hR])
              rw [hR] at hn
              obtain ⟨n1, n2, _⟩ := hn
              simp only [Prod.mk.injEq] at e3 n1 n2
              obtain ⟨⟨r1, r2⟩, r3, r4⟩ := e3
              refine ⟨by simp, by simpa using ha, r4, ?_, r1, congrArg Prod.fst r2, congrArg Prod.snd r2⟩
              rw [r3]
              unfold wrap64
              omega
            · left
              obtain ⟨m2, e3⟩ := e1 ha
              rw [hQ] at e3
              simp only [Prod.mk.injEq] at e3
              exact ⟨by simp, by simpa using ha, e3.2.2, e3.1.1, e3.1.2.1, e3.1.2.2⟩
          · exact .inl (by simpa using he)
        · exact out c x y w hT h hz (.inr (.inr (.inr ⟨h1b, decide_eq_false h2, h3, by simpa using h4⟩)))
  · exact out c x y w hT h hz (.inl (by simpa using h1))
set_option maxRecDepth 100000 in
theorem entry {H : Type} {enc : TypeId × Value → H} (W : World) (base : Nat) (v0 v1 : Value) (d0 d1 : DataW H) (p0 p1 : List MemPlace)
    (k0 : Value.okWide Tryz.prog W .any base 41 v0)
    (k1 : Value.okWide Tryz.prog W .any base 30 v1)
    (h0 : DataW.Trod enc Tryz.prog W 0 (fun _ => true) true 41 v0 d0 p0)
    (h1 : DataW.Trod enc Tryz.prog W 0 (fun _ => true) true 30 v1 d1 p1)
    (hT : TabB W W.heap.size) : Calls Tryz.prog 5 #[v0, v1] W fun e w' => e = .returned (.bool true) ∧ Below W.heap.size W w' := by
  obtain ⟨f, A, c, rfl, hc, hz⟩ := open_func k0 h0
  obtain ⟨x, y, rfl, _, _⟩ := open_val k1 h1
  exact walk c x y W hT hc hz
end Go.Proofs.YtagjddnpaahebaaGreatDoor.seqSum

/- SeqSum: for every input that can be read the law returns true, and each argument reads afterwards as it read before, where the listed tables hold what their initialisers lay; the card ties them to the program's text. No condition. (Out of its walk, in YtagjddnpaahebaaGreatDoorL10sum.) -/
namespace Go.Proofs.YtagjddnpaahebaaGreatDoor.seqSum
open Go.ChangeShapes Go.WideShapes Go.ChangeAt Go.RowKit
set_option linter.unusedVariables false
set_option linter.unusedSimpArgs false

theorem own : ownKnob Tryz.prog.godebug = none := by kernel_rfl
theorem laidOut : laidOutB Tryz.prog = true := by kernel_rfl

set_option maxRecDepth 100000 in
theorem lifted (os : Os) (started : os.Started) (H : Type) (enc : TypeId × Value → H) :
    ReturnsInHanded {} Tryz.checked os 5 .any (fun w args => (Rows.seqSumSpec.pre enc Tryz.prog Tryz.f5 [] false w args ∧ laidMetH Tryz.prog Rows.seqSumRow.laid w) ∧ sizedMet enc Tryz.prog Tryz.f5 (OpenSpec.ofChange Rows.seqSumSpec) false w args) (Rows.seqSumSpec.post enc Tryz.prog Tryz.f5 false true false false) := by
  refine returnsInHanded_of_change_and (C := Tryz.checked) (X := fun w _ => laidMetH Tryz.prog Rows.seqSumRow.laid w) (fun _ _ _ hh h => h.of_heap hh) own started (by kernel_rfl) Tryz.func5
    (ChangeSpec.witness_shaped (enc := enc) (C := Tryz.checked) (os := os) (X := fun w _ => laidMetH Tryz.prog Rows.seqSumRow.laid w) false (World.laidAll Tryz.prog os Rows.seqSumRow.laid) #[.agg #[.int .i64 0, .int .i64 0, .int .i64 0, .slice none 0 0], .agg #[.int .i64 0, .int .i64 0]] 8 (World.laidAll_os _ _ _)
      (World.shaped_of_ZipB (by kernel_rfl) (by kernel_rfl)) (by kernel_rfl) (by kernel_rfl) (by kernel_rfl)
      (by rw [MakeChecks.laidMetH_plain _ _ _ (by kernel_rfl)]; exact laidMet_laidAll _ (by kernel_rfl) (by kernel_rfl))) ?_
  intro W base args ds gs before hval0 hW _ _ hL _
  have hval : ∀ (j : Nat) t v, Tryz.f5.params[j]? = some t → args[j]? = some v → Value.okWide Tryz.prog W .any base t v := hval0
  have hW' := hW
  have hlt : ∀ x ∈ before, x.block < W.heap.size := fun x hx => hW.lt x hx
  obtain ⟨p, q, hA0, hV, rfl, hfz, hnd⟩ := hW
  have hA : DataW.TrodAll enc Tryz.prog W 0 (fun _ => true) true Tryz.f5.params.toList args.toList ds p := hA0
  have hA1 := hA
  rw [Tryz.params5] at hA hval
  obtain ⟨v0, vs0, d0, ds0, p0, q0, hargs, rfl, rfl, h0, r0⟩ := trodAll_cons hA
  obtain ⟨v1, vs1, d1, ds1, p1, q1, rfl, rfl, rfl, h1, r1⟩ := trodAll_cons r0
  obtain ⟨rfl, rfl, rfl⟩ := trodAll_nil r1
  obtain rfl : args = #[v0, v1] := by cases args; simp_all
  obtain ⟨rfl, rfl⟩ := trodVars_none hV
  clear hA0 hval0
  simp only [List.append_nil] at hW' hlt hA1
  rw [MakeChecks.laidMetH_plain _ _ _ (by kernel_rfl)] at hL
  have hO : Otab W := otab_of_laid (show laidMet Tryz.prog (("transhumance/op.operations", Rows.laid_transhumance_op_operations) :: _) W from hL)
  have hN : Nob W := nob_of_laid (show laidMet Tryz.prog (("transhumance/frame.nobody", Rows.laid_transhumance_frame_nobody) :: _) W from hL.tail)
  have hT := tabB_of hO hN
  refine (entry W base v0 v1 d0 d1 p0 p1 (hval 0 41 v0 rfl rfl) (hval 1 30 v1 rfl rfl) h0 h1 hT).mono fun e W' ⟨he, hg⟩ => ?_
  subst he
  exact ⟨_, rfl, post_kept (pv := []) hW' hg (fun _ _ _ => (trodAll_cons_mk (shut_bool Tryz.underlying4 _) trodAll_mk0)) (fun sp hsp => trodAll_kept laidOut hg (by rw [Tryz.params5]; exact (List.forall_mem_cons.2 ⟨⟨by kernel_rfl, of_decide_eq_true (by kernel_rfl)⟩, (List.forall_mem_cons.2 ⟨⟨by kernel_rfl, of_decide_eq_true (by kernel_rfl)⟩, (List.forall_mem_nil _)⟩)⟩)) hA1 hlt sp hsp) (fun _ _ => rfl) (by simp) (ok_one (by kernel_rfl) rfl (okWide_bool_mk Tryz.underlying4 _))⟩

theorem over : Rows.seqSumRow.holds Tryz.pinned (OpenSpec.ofChange Rows.seqSumSpec) :=
  OpenClaim.holds_of_wide 5 Tryz.f5 rfl rfl rfl rfl rfl rfl rfl ⟨rfl, rfl, rfl, rfl, rfl⟩ rfl rfl rfl rfl rfl (by kernel_rfl) Tryz.func5 (by kernel_rfl)
    (of_decide_eq_true (by kernel_rfl)) (by unfold Func.isWrapper; first | (rw [if_pos (by decide +kernel)]; kernel_rfl) | (rw [if_neg (by decide +kernel)]; exact ⟨rfl, rfl⟩))
    (fun os started H enc _ => lifted os started H enc)

theorem proved : Rows.SeqSumCardSaid :=
  Claim7.holds_tied_plain_at .later [] [.data, .data] true (true, "e4409b263f599389986b033081a2183f9adaeedb8d588c3343f325c2b68c4346") true over (fun _ h => by cases h) (by kernel_rfl) (fun _ h => by cases h) seqSum_row_tie rfl ⟨rfl, rfl⟩ (by kernel_rfl) rfl
    (fun f fn hf hfn => by
      obtain rfl : f = 5 := Option.some.inj ((show Tryz.prog.funcNamed "transhumance/transhumancelaw10.SeqSum" = some 5 by kernel_rfl).symm.trans hf) |>.symm
      obtain rfl : fn = Tryz.f5 := (Option.some.inj (Tryz.func5.symm.trans hfn)).symm
      exact ⟨by kernel_rfl, fun j t ht => by
        rw [Tryz.params5] at ht
        have hm : t ∈ [41, 30] := by simpa using Array.mem_of_getElem? ht
        have hall : ([41, 30].all fun u => !Tryz.prog.wantsStandIn u) = true := by kernel_rfl
        exact (show Tryz.prog.wantsStandIn t = false by simpa using List.all_eq_true.1 hall t hm)⟩)
    (by kernel_rfl)
end Go.Proofs.YtagjddnpaahebaaGreatDoor.seqSum

