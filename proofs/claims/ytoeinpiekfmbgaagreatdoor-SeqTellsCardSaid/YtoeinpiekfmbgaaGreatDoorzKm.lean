/- Layer 7's code: May. -/
import Derived.Test.YtoeinpiekfmbgaaGreatDoorzGd
import Derived.Test.YtoeinpiekfmbgaaGreatDoorzGh
import Derived.OpenShut
import Derived.Lib.Hide
import Derived.WalkMore
import Derived.Handy
namespace Go.Proofs.YtoeinpiekfmbgaaGreatDoor
set_option linter.unusedVariables false
set_option linter.unusedSimpArgs false
open Go.RowKit Go.ChangeShapes Go.WideShapes Go.ChangeAt Go.Sort

set_option maxHeartbeats 1000000 in
theorem cwithin_any (n a b : Int) (w : World) : Calls Tryz.prog 35 #[.int .i64 n, .int .i64 a, .int .i64 b] w fun e w' => e = .returned (.bool (decide (a ≤ n) && decide (n ≤ b))) ∧ w = w' := by
  go_enter Tryz.func35, Tryz.ntmps35
  go_wp2_with fail
  all_goals
    go_ret
    refine ⟨ret_bool ?_, rfl⟩
    rw [Bool.eq_iff_iff]
    simp
    omega
theorem cs_cwithin {n a b : Int} {x : Bool} (h : (decide (a ≤ n) && decide (n ≤ b)) = x) : Cs Tryz.prog 35 #[.int .i64 n, .int .i64 a, .int .i64 b] (.bool x) := fun W => by have := cwithin_any n a b W; rwa [h] at this

set_option maxHeartbeats 1000000 in
set_option maxRecDepth 100000 in
theorem chead_any (a l s : Int) (v : Value) : Ct Tryz.prog 62 #[.agg #[.int .i64 a, .int .i64 l, .int .i64 s, v]] (.bool (headB a l s)) := fun w => by
  have C1 := cs_cwithin (n := a) (a := 0) (b := 16) rfl
  have C2 := cs_cwithin (n := l) (a := 0) (b := 16) rfl
  have C3 := cs_cwithin (n := s) (a := 0) (b := 8) rfl
  have hm : headB a l s = ((decide (0 ≤ a) && decide (a ≤ 16)) && (decide (0 ≤ l) && decide (l ≤ 16)) && (decide (0 ≤ s) && decide (s ≤ 8))) := rfl
  rw [hm]
  generalize (decide (0 ≤ a) && decide (a ≤ 16)) = x1 at *
  generalize (decide (0 ≤ l) && decide (l ≤ 16)) = x2 at *
  generalize (decide (0 ≤ s) && decide (s ≤ 8)) = x3 at *
  clear hm
  cases x1 <;> cases x2 <;> cases x3
  all_goals
    go_enter Tryz.func62, Tryz.ntmps62
    go_wp2_with (first
      | (go_at_call 35; (with_reducible refine (C1.go _).mono ?_); rintro e v ⟨rfl, rfl⟩)
      | (go_at_call 35; (with_reducible refine (C2.go _).mono ?_); rintro e v ⟨rfl, rfl⟩)
      | (go_at_call 35; (with_reducible refine (C3.go _).mono ?_); rintro e v ⟨rfl, rfl⟩))
    go_ret
    exact ⟨rfl, by go_grown⟩

/-- The value of a function without captures. -/
abbrev fnv (n : Nat) : Value := .func (.func n) #[] #[]

set_option maxHeartbeats 1000000 in
set_option maxRecDepth 100000 in
theorem allI_any {B : Nat} {A : Option Addr} {l : List Ins} (c : Nat) (w : World) (hT : Otab w) (h : CodeAt w B A l) (hz : l.length ≤ maxLen) (hB : B ≤ w.heap.size) :
    Calls Tryz.prog 63 #[.slice A l.length c, fnv 64] w fun e w' => e = .returned (.bool (l.all fun x => mayZ x.1 x.2.1 x.2.2)) ∧ Below w.heap.size w w' := by
  have HA := Lib.hid h
  unfold maxLen at hz
  clear h
  go_enter Tryz.func63, Tryz.ntmps63
  go_wp2
  go_loopw [9] (fun i W => ∃ j : Nat, j ≤ l.length ∧ i = .int .i64 j ∧ (∀ x ∈ l.take j, mayZ x.1 x.2.1 x.2.2 = true) ∧ Below w.heap.size w W) (fun i _ => l.length - (intOf i).toNat)
  case atStart => exact ⟨0, by omega, rfl, by simp, Below.refl _ _⟩
  case round =>
    obtain ⟨j, hj, rfl, hall, hw⟩ := hrel
    have HJ := Lib.hid hall
    clear hall
    have hwz := hw.size
    by_cases hlt : j < l.length
    · obtain ⟨b, off, rfl, hbl, hd⟩ := (HA.out.below hw hB) (by omega)
      obtain ⟨d0, d1, d2⟩ := hd j hlt
      clear hd
      have hjt : l.take (j + 1) = l.take j ++ [l[j]] := List.take_succ_eq_append_getElem hlt
      have hjm : l[j] ∈ l := List.getElem_mem hlt
      generalize l[j] = x at *
      obtain ⟨xo, xa, xb⟩ := x
      have HJT := Lib.hid hjt
      have HJM := Lib.hid hjm
      clear hjt hjm
      have CM := fun W h => Lib.hid (opmay_any xo xa xb W h)
      have hT2 := hT.below hw
      have CM2 := fun cs ty => CM (wr.alloc (.cells cs ty)) ((hT2.below ((Below.refl _ _).alloc (Nat.le_refl _) _)))
      clear CM
      cases hx : mayZ xo xa xb
      · rw [hx] at CM2
        have hf : (l.all fun x => mayZ x.1 x.2.1 x.2.2) = false := by
          rw [← Bool.not_eq_true, List.all_eq_true]
          intro h
          have := h _ HJM.out
          simp only at this
          rw [hx] at this
          cases this
        have HF := Lib.hid hf
        clear hf hx
        go_wp2_with (go_at_call 64; (with_reducible refine (CM2 _ _).out.mono ?_); rintro e v ⟨rfl, hb⟩; replace hw := Below.step hw (below_laid hb); clear hb)
        go_ret
        rw [HF.out]
        exact ⟨rfl, hw⟩
      · rw [hx] at CM2
        have HX := Lib.hid hx
        clear hx
        go_wp2_with (go_at_call 64; (with_reducible refine (CM2 _ _).out.mono ?_); rintro e v ⟨rfl, hb⟩; replace hw := Below.step hw (below_laid hb); clear hb)
        go_roundw
        case rel =>
          refine ⟨j + 1, by omega, by go_num, ?_, hw⟩
          rw [HJT.out]
          intro y hy
          rcases List.mem_append.1 hy with h | h
          · exact HJ.out y h
          · simp only [List.mem_singleton] at h
            subst h
            exact HX.out
        case measure => simp [intOf]; omega
    · obtain rfl : j = l.length := by omega
      have hall := HJ.out
      rw [List.take_length] at hall
      have hf : (l.all fun x => mayZ x.1 x.2.1 x.2.2) = true := List.all_eq_true.2 hall
      have HF := Lib.hid hf
      clear hf hall
      go_wp2_with fail
      go_ret
      rw [HF.out]
      exact ⟨rfl, hw⟩

set_option maxHeartbeats 1000000 in
set_option maxRecDepth 100000 in
theorem cmayF_any {B : Nat} {A : Option Addr} {f : Fun} (c : Nat) (w : World) (hT : Otab w) (h : CodeAt w B A f.code) (hz : f.code.length ≤ maxLen) (hB : B ≤ w.heap.size) :
    Calls Tryz.prog 37 #[.agg #[.int .i64 f.ar, .int .i64 f.lo, .int .i64 f.sl, .slice A f.code.length c]] w fun e w' => e = .returned (.bool (mayF f)) ∧ Below w.heap.size w w' := by
  have HA := Lib.hid h
  have hz2 := hz
  unfold maxLen at hz2
  have CH := chead_any f.ar f.lo f.sl (.slice A f.code.length c)
  have CW := cs_cwithin (n := f.code.length) (a := 1) (b := 200) rfl
  have CA := fun W hT h hB => Lib.hid (allI_any (B := B) (A := A) (l := f.code) c W hT h hz hB)
  have hm : mayF f = (headB f.ar f.lo f.sl && (decide (1 ≤ (f.code.length : Int)) && decide ((f.code.length : Int) ≤ 200)) && f.code.all fun x => mayZ x.1 x.2.1 x.2.2) := by
    have e1 : decide (1 ≤ (f.code.length : Int)) = decide (1 ≤ f.code.length) := by rw [decide_eq_decide]; omega
    have e2 : decide ((f.code.length : Int) ≤ 200) = decide (f.code.length ≤ 200) := by rw [decide_eq_decide]; omega
    rw [e1, e2]
    rfl
  rw [hm]
  clear hm hz h
  generalize headB f.ar f.lo f.sl = x1 at *
  generalize (decide (1 ≤ (f.code.length : Int)) && decide ((f.code.length : Int) ≤ 200)) = x2 at *
  generalize (f.code.all fun x => mayZ x.1 x.2.1 x.2.2) = x3 at *
  have hw := Below.refl w.heap.size w
  generalize hx0 : f.ar = fa at *
  generalize hx0 : f.lo = fl at *
  generalize hx0 : f.sl = fs at *
  cases x1 <;> cases x2 <;> cases x3
  all_goals
    go_enter Tryz.func37, Tryz.ntmps37
    go_wp2_with (first
      | (go_at_call 62; (with_reducible refine (CH.go _).mono ?_); rintro e v ⟨rfl, hb⟩; have hH := (Held.new w _ _).below hb; have c3 := hH.cell 3; have hl := hH.lt; simp at c3; replace hw := below_laid hb; have hs := hw.size; clear hb hH)
      | (go_at_call 35; (with_reducible refine (CW.go _).mono ?_); rintro e v ⟨rfl, rfl⟩)
      | (go_at_call 63; (with_reducible refine (CA _ (hT.below hw) (HA.out.below hw hB) (by omega)).out.mono ?_); rintro e v ⟨rfl, hb⟩; replace hw := Below.step hw hb; clear hb))
    go_ret
    exact ⟨rfl, hw⟩

set_option maxHeartbeats 1000000 in
set_option maxRecDepth 100000 in
theorem allF_any {B : Nat} {A : Option Addr} {p : List Fun} (c : Nat) (w : World) (hT : Otab w) (h : ProgAt w B A p) (hz : SizedP p) (hB : B ≤ w.heap.size) :
    Calls Tryz.prog 36 #[.slice A p.length c, fnv 37] w fun e w' => e = .returned (.bool (p.all mayF)) ∧ Below w.heap.size w w' := by
  have HA := Lib.hid h
  have HZ := Lib.hid hz.2
  have hzp := hz.1
  unfold maxLen at hzp
  clear h hz
  go_enter Tryz.func36, Tryz.ntmps36
  go_wp2
  go_loopw [9] (fun i W => ∃ j : Nat, j ≤ p.length ∧ i = .int .i64 j ∧ (∀ x ∈ p.take j, mayF x = true) ∧ Below w.heap.size w W) (fun i _ => p.length - (intOf i).toNat)
  case atStart => exact ⟨0, by omega, rfl, by simp, Below.refl _ _⟩
  case round =>
    obtain ⟨j, hj, rfl, hall, hw⟩ := hrel
    have HJ := Lib.hid hall
    clear hall
    have hwz := hw.size
    by_cases hlt : j < p.length
    · obtain ⟨b, off, rfl, hbl, hd⟩ := (HA.out.below hw hB) (by omega)
      obtain ⟨d0, d1, d2, A2, c2, d3, hcode⟩ := hd j hlt
      clear hd
      have hjt : p.take (j + 1) = p.take j ++ [p[j]] := List.take_succ_eq_append_getElem hlt
      have hjm : p[j] ∈ p := List.getElem_mem hlt
      have hzf := HZ.out _ hjm
      generalize p[j] = x at *
      have HJT := Lib.hid hjt
      have HJM := Lib.hid hjm
      clear hjt hjm
      have hT2 := hT.below hw
      have CM := fun cs ty => Lib.hid (cmayF_any (f := x) c2 (wr.alloc (.cells cs ty)) (hT2.below ((Below.refl _ _).alloc (Nat.le_refl _) _)) (hcode.below ((Below.refl wr.heap.size wr).alloc (Nat.le_refl _) _) (by omega)) hzf (by simp; omega))
      clear hcode
      obtain ⟨xa, xl, xs, xc⟩ := x
      simp only at *
      generalize xc.length = n at *
      cases hx : mayF ⟨xa, xl, xs, xc⟩
      · rw [hx] at CM
        have hf : (p.all mayF) = false := by
          rw [← Bool.not_eq_true, List.all_eq_true]
          intro h
          have := h _ HJM.out
          rw [hx] at this
          cases this
        have HF := Lib.hid hf
        clear hf hx hzf
        go_wp2_with (go_at_call 37; (with_reducible refine (CM _ _).out.mono ?_); rintro e v ⟨rfl, hb⟩; replace hw := Below.step hw (below_laid hb); clear hb)
        go_ret
        rw [HF.out]
        exact ⟨rfl, hw⟩
      · rw [hx] at CM
        have HX := Lib.hid hx
        clear hx hzf
        go_wp2_with (go_at_call 37; (with_reducible refine (CM _ _).out.mono ?_); rintro e v ⟨rfl, hb⟩; replace hw := Below.step hw (below_laid hb); clear hb)
        go_roundw
        case rel =>
          refine ⟨j + 1, by omega, by go_num, ?_, hw⟩
          rw [HJT.out]
          intro y hy
          rcases List.mem_append.1 hy with h | h
          · exact HJ.out y h
          · simp only [List.mem_singleton] at h
            subst h
            exact HX.out
        case measure => simp [intOf]; omega
    · obtain rfl : j = p.length := by omega
      have hall := HJ.out
      rw [List.take_length] at hall
      have hf : (p.all mayF) = true := List.all_eq_true.2 hall
      have HF := Lib.hid hf
      clear hf hall
      go_wp2_with fail
      go_ret
      rw [HF.out]
      exact ⟨rfl, hw⟩

set_option maxHeartbeats 1000000 in
set_option maxRecDepth 100000 in
theorem cmay_any {B : Nat} {A : Option Addr} {p : List Fun} (c : Nat) (w : World) (hT : Otab w) (h : ProgAt w B A p) (hz : SizedP p) (hB : B ≤ w.heap.size) :
    Calls Tryz.prog 17 #[.slice A p.length c] w fun e w' => e = .returned (.bool (mayP p)) ∧ Below w.heap.size w w' := by
  have hz2 := hz.1
  unfold maxLen at hz2
  have CW := cs_cwithin (n := p.length) (a := 1) (b := 16) rfl
  have CA := Lib.hid (allF_any c w hT h hz hB)
  have hm : mayP p = ((decide (1 ≤ (p.length : Int)) && decide ((p.length : Int) ≤ 16)) && p.all mayF) := by
    have e1 : decide (1 ≤ (p.length : Int)) = decide (1 ≤ p.length) := by rw [decide_eq_decide]; omega
    have e2 : decide ((p.length : Int) ≤ 16) = decide (p.length ≤ 16) := by rw [decide_eq_decide]; omega
    rw [e1, e2]
    rfl
  rw [hm]
  clear hm hz h
  generalize (decide (1 ≤ (p.length : Int)) && decide ((p.length : Int) ≤ 16)) = x1 at *
  generalize p.all mayF = x2 at *
  have hw := Below.refl w.heap.size w
  cases x1 <;> cases x2
  all_goals
    go_enter Tryz.func17, Tryz.ntmps17
    go_wp2_with (first
      | (go_at_call 35; (with_reducible refine (CW.go _).mono ?_); rintro e v ⟨rfl, rfl⟩)
      | (go_at_call 36; (with_reducible refine CA.out.mono ?_); rintro e v ⟨rfl, hb⟩; replace hw := hb; clear hb))
    go_ret
    exact ⟨rfl, hw⟩
end Go.Proofs.YtoeinpiekfmbgaaGreatDoor

