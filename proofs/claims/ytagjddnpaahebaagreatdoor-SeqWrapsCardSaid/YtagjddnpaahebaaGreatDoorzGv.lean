/- Layer 8: the document's function, Check, Good, Depths. -/
import Derived.Test.YtagjddnpaahebaaGreatDoorzGu
import Derived.Test.YtagjddnpaahebaaGreatDoorzGs
import Derived.Test.YtagjddnpaahebaaGreatDoorzPr1
namespace Go.Proofs.YtagjddnpaahebaaGreatDoor
set_option linter.unusedVariables false
set_option linter.unusedSimpArgs false
open Go.RowKit Go.ChangeShapes Go.WideShapes Go.ChangeAt Go.Sort

set_option maxHeartbeats 4000000 in
set_option maxRecDepth 100000 in
theorem rfunction_any {B : Nat} {Ap : Option Addr} {p : List Fun} {f : Fun} {Ac : Option Addr} (c cc : Nat) (hm : ∀ f ∈ p, mayF f = true) (hf : mayF f = true) (w : World) (hp : ProgAt w B Ap p) (hc : CodeAt w B Ac f.code) (hB : B ≤ w.heap.size) :
    Calls Tryz.prog 43 #[.slice Ap p.length c, .agg #[.int .i64 f.ar, .int .i64 f.lo, .int .i64 f.sl, .slice Ac f.code.length cc]] w fun x w' => x = .returned (.tuple #[.int .i64 (funE p f).1, .int .i64 (funE p f).2]) ∧ Below w.heap.size w w' := by
  obtain ⟨hh, hn1, hn, _⟩ := (mayF_iff f).1 hf
  generalize hG : funE p f = R
  have HG := Lib.hid hG
  clear hG hh
  have hx := Held.new w 41 #[.int .i64 f.ar, .int .i64 f.lo, .int .i64 f.sl, .slice Ac f.code.length cc]
  by_cases h1 : f.lo < f.ar
  · have hE := HG.out
    unfold funE at hE
    rw [if_pos h1] at hE
    subst hE
    clear hp hc hm hf hx
    go_enter Tryz.func43, Tryz.ntmps43
    go_wp2_with fail
    go_returns
    exact ⟨rfl, by go_grown⟩
  · have hle : f.ar ≤ f.lo := by omega
    have hb0 : Below w.heap.size w (w.alloc (.cells #[.int .i64 f.ar, .int .i64 f.lo, .int .i64 f.sl, .slice Ac f.code.length cc] 41)) := (Below.refl _ _).alloc (Nat.le_refl _) _
    have HX := Lib.hid hx
    have HB0 := Lib.hid hb0
    have HP := Lib.hid hp
    have HC := Lib.hid hc
    have HM := Lib.hid hm
    have HF := Lib.hid hf
    clear hp hc hm hf hx hb0 h1
    go_enter Tryz.func43, Tryz.ntmps43
    go_wp2_with fail
    go_loopw [6, 7] (fun iv _ W => ∃ k : Nat, iv = .int .i64 k ∧ k ≤ f.code.length ∧ Held W w.heap.size 41 #[.int .i64 f.ar, .int .i64 f.lo, .int .i64 f.sl, .slice Ac f.code.length cc] ∧ Below w.heap.size w W ∧ (∀ x ∈ f.code.take k, fieldI p f x = 0) ∧ firstI p f f.code 0 = firstI p f (f.code.drop k) k) (fun iv _ _ => f.code.length - (intOf iv).toNat)
    case atStart => exact ⟨0, rfl, by omega, HX.out, HB0.out, by simp, by simp⟩
    case round =>
      obtain ⟨k, rfl, hk, hx, hbw, hall, hfi⟩ := hrel
      clear HX HB0
      have hxl := hx.lt
      have e0 := hx.cell 0
      have e1 := hx.cell 1
      have e2 := hx.cell 2
      have e3 := hx.cell 3
      simp at e0 e1 e2 e3
      by_cases hlt : k < f.code.length
      · obtain ⟨bb, off, rfl, hbl, hcc⟩ := HC.out (by omega)
        obtain ⟨a0, a1, a2⟩ := hcc k hlt
        have hbb : bb < w.heap.size := by omega
        replace a0 := (hbw.cell (p := ⟨bb, off + k * 3, none⟩) hbb).trans a0
        replace a1 := (hbw.cell (p := ⟨bb, off + k * 3 + 1, none⟩) hbb).trans a1
        replace a2 := (hbw.cell (p := ⟨bb, off + k * 3 + 2, none⟩) hbb).trans a2
        have htk : f.code.take (k + 1) = f.code.take k ++ [f.code[k]] := List.take_succ_eq_append_getElem hlt
        have CF := fun d os => Lib.hid (rfield_any (A := Ap) (Ac := some ⟨bb, off, none⟩) (p := p) (f := f) c cc f.code[k].1 f.code[k].2.1 f.code[k].2.2 (grow (redrawn wr d) os))
        change ∀ d os, Hid (Calls Tryz.prog 69 #[.slice Ap p.length c, .agg #[.int .i64 f.ar, .int .i64 f.lo, .int .i64 f.sl, .slice (some ⟨bb, off, none⟩) f.code.length cc], .agg #[.int .i64 f.code[k].1, .int .i64 f.code[k].2.1, .int .i64 f.code[k].2.2]] (grow (redrawn wr d) os) fun e w' => e = .returned (.int .i64 (fieldI p f f.code[k])) ∧ Below (grow (redrawn wr d) os).heap.size (grow (redrawn wr d) os) w') at CF
        rw [List.drop_eq_getElem_cons hlt, firstI_cons] at hfi
        have HALL := Lib.hid hall
        have HFI := Lib.hid hfi
        have HTK := Lib.hid htk
        have HX := Lib.hid hx
        have HBW := Lib.hid hbw
        generalize hee : fieldI p f f.code[k] = ee at CF HFI
        have HEE := Lib.hid hee
        clear hee hall hfi htk hcc hx hbw
        generalize f.code[k] = x at *
        have step : ∀ {W : World}, (∃ q : Regrown, W = grow (redrawn wr q.d) q.os) → Below wr.heap.size wr W := fun h => below_of_regrown h
        by_cases he : ee = 0
        · subst he
          go_upto_region 6 with (fail)
          have e0g := fun d os => cell_regrown e0 d os
          have e1g := fun d os => cell_regrown e1 d os
          have e2g := fun d os => cell_regrown e2 d os
          have e3g := fun d os => cell_regrown e3 d os
          have a0g := fun d os => cell_regrown a0 d os
          have a1g := fun d os => cell_regrown a1 d os
          have a2g := fun d os => cell_regrown a2 d os
          clear e0 e1 e2 e3 a0 a1 a2
          refine wp_region_quiet_below (by kernel_rfl) (by kernel_rfl) ?_
          repeat (first
            | go_big_quiet_step ((first
              | (go_at_call 69; (with_reducible exact Calls.regrown_of (CF _ _).out))))
            | quiet_step ((first
              | (go_at_call 69; (with_reducible exact Calls.regrown_of (CF _ _).out)))))
          refine wpQuiet_nil ?_
          intro W2 hv
          have hb := below_of_regrown hv
          clear hv e0g e1g e2g e3g a0g a1g a2g CF
          go_wp2_with fail
          go_roundw
          case rel =>
            refine ⟨k + 1, by go_num, by omega, HX.out.below hb, Below.step HBW.out hb, fun y hy => ?_, by simpa using HFI.out⟩
            rw [HTK.out] at hy
            rcases List.mem_append.1 hy with hy | hy
            · exact HALL.out y hy
            · simp only [List.mem_singleton] at hy
              subst hy
              exact HEE.out
          case measure => simp [intOf]; omega
        · have hne : (ee != 0) = true := by simpa using he
          have hR : R = ((k : Int), ee) := by
            have h1 := HFI.out
            rw [if_neg he] at h1
            have h2 := HG.out
            unfold funE at h2
            rw [if_neg (Int.not_lt.2 hle), h1, if_neg he] at h2
            exact h2.symm
          subst hR
          clear he
          go_upto_region 6 with (fail)
          have e0g := fun d os => cell_regrown e0 d os
          have e1g := fun d os => cell_regrown e1 d os
          have e2g := fun d os => cell_regrown e2 d os
          have e3g := fun d os => cell_regrown e3 d os
          have a0g := fun d os => cell_regrown a0 d os
          have a1g := fun d os => cell_regrown a1 d os
          have a2g := fun d os => cell_regrown a2 d os
          clear e0 e1 e2 e3 a0 a1 a2
          refine wp_region_quiet_below (by kernel_rfl) (by kernel_rfl) ?_
          repeat (first
            | go_big_quiet_step ((first
              | (go_at_call 69; (with_reducible exact Calls.regrown_of (CF _ _).out))))
            | quiet_step ((first
              | (go_at_call 69; (with_reducible exact Calls.regrown_of (CF _ _).out)))))
          refine wpQuiet_nil ?_
          intro W2 hv
          have hb := below_of_regrown hv
          clear hv e0g e1g e2g e3g a0g a1g a2g CF
          go_wp2_with fail
          go_returns
          exact ⟨rfl, Below.step HBW.out hb⟩
      · obtain rfl : k = f.code.length := by omega
        rw [List.take_length] at hall
        have hok := fun_ok HM.out HF.out hall
        have hR : R = (flowF p f.code).2 := by
          have h2 := HG.out
          unfold funE at h2
          rw [if_neg (Int.not_lt.2 hle), first_all _ _ hall, if_pos rfl] at h2
          exact h2.symm
        have FL := Lib.hid (rreach_any (Ac := Ac) c cc hok wr (HP.out.below hbw hB) (HC.out.below hbw hB) (Nat.le_trans hB hbw.size))
        have HBW := Lib.hid hbw
        clear hx hbw hall hfi hok
        subst hR
        go_wp2_with (go_at_call 70; (with_reducible refine FL.out.mono ?_); rintro _ u ⟨y, D, rfl, _, _, hb2⟩)
        go_returns
        exact ⟨rfl, Below.step HBW.out hb2⟩
end Go.Proofs.YtagjddnpaahebaaGreatDoor

/- Layer 8: the document's Check, Good, Depths. -/
namespace Go.Proofs.YtagjddnpaahebaaGreatDoor
set_option linter.unusedVariables false
set_option linter.unusedSimpArgs false
open Go.RowKit Go.ChangeShapes Go.WideShapes Go.ChangeAt Go.Sort

set_option maxHeartbeats 4000000 in
set_option maxRecDepth 100000 in
theorem rcheck_any {B : Nat} {A : Option Addr} {p : List Fun} (c : Nat) (w : World) (h : ProgAt w B A p) (hz : SizedP p) (hB : B ≤ w.heap.size) :
    Calls Tryz.prog 25 #[.slice A p.length c] w fun x w' => x = .returned (.tuple #[.int .i64 (checkP p).1, .int .i64 (checkP p).2.1, .int .i64 (checkP p).2.2]) ∧ Below w.heap.size w w' := by
  have MY := Lib.hid (pmay_any c w h hz hB)
  have HA := Lib.hid h
  generalize hR : checkP p = R
  have HR := Lib.hid hR
  clear h hR
  cases hm : mayP p with
  | false =>
    have hR := HR.out
    unfold checkP at hR
    rw [if_neg (by rw [hm]; simp)] at hR
    subst hR
    rw [hm] at MY
    clear hm
    go_enter Tryz.func25, Tryz.ntmps25
    go_wp2_with (go_at_call 39; (with_reducible refine MY.out.mono ?_); rintro _ u ⟨rfl, hb⟩)
    go_returns
    exact ⟨rfl, hb⟩
  | true =>
    have hR := HR.out
    unfold checkP at hR
    rw [if_pos hm] at hR
    obtain ⟨hp1, hp2, hmf⟩ := (mayP_iff p).1 hm
    rw [hm] at MY
    have HR2 := Lib.hid hR
    have HMF := Lib.hid hmf
    clear hm hmf hR
    go_enter Tryz.func25, Tryz.ntmps25
    go_wp2_with (go_at_call 39; (with_reducible refine MY.out.mono ?_); rintro _ u ⟨rfl, hb⟩)
    have HB := Lib.hid hb
    clear hb
    go_loopw [5, 6, 7] (fun iv _ _ W => ∃ k : Nat, iv = .int .i64 k ∧ k ≤ p.length ∧ Below w.heap.size w W ∧ firstF p p 0 = firstF p (p.drop k) k) (fun iv _ _ _ => p.length - (intOf iv).toNat)
    case atStart => exact ⟨0, rfl, by omega, HB.out, by simp⟩
    case round =>
      obtain ⟨k, rfl, hk, hbw, hfi⟩ := hrel
      by_cases hlt : k < p.length
      · obtain ⟨bb, off, rfl, hbl, hc⟩ := (HA.out.below hbw hB) (by omega)
        obtain ⟨f0, f1, f2, Ac, cc, f3, hcode⟩ := hc k hlt
        have hmem := HMF.out _ (List.getElem_mem hlt)
        have hws := hbw.size
        rw [List.drop_eq_getElem_cons hlt, firstF_cons] at hfi
        have HBW := Lib.hid hbw
        have HFI := Lib.hid hfi
        have HMEM := Lib.hid hmem
        generalize p[k] = f at *
        have CC := Lib.hid (rfunction_any c cc HMF.out HMEM.out wr (HA.out.below hbw hB) hcode (Nat.le_trans hB hws))
        have hfe : (funE p f) = ((funE p f).1, (funE p f).2) := rfl
        generalize hf1 : (funE p f).1 = e1 at *
        generalize hf2 : (funE p f).2 = e2 at *
        have HF1 := Lib.hid hf1
        have HF2 := Lib.hid hf2
        have HFE := Lib.hid hfe
        clear hc hcode hmem hfi hbw hf1 hf2 hfe
        by_cases he : e2 = 0
        · subst he
          go_wp2_with (go_at_call 43; (with_reducible refine CC.out.mono ?_); rintro _ u3 ⟨rfl, hb3⟩)
          go_roundw
          case rel => exact ⟨k + 1, by go_num, by omega, Below.step HBW.out hb3, by simpa [HF2.out] using HFI.out⟩
          case measure => simp [intOf]; omega
        · have hne : (e2 != 0) = true := by simpa using he
          have hR : R = ((k : Int), e1, e2) := by
            have h1 := HFI.out
            rw [if_neg he, HFE.out] at h1
            exact HR2.out.symm.trans h1
          subst hR
          clear he
          go_wp2_with (go_at_call 43; (with_reducible refine CC.out.mono ?_); rintro _ u3 ⟨rfl, hb3⟩)
          go_returns
          exact ⟨rfl, Below.step HBW.out hb3⟩
      · obtain rfl : k = p.length := by omega
        rw [List.drop_length] at hfi
        have hR : R = (0, 0, 0) := HR2.out.symm.trans hfi
        subst hR
        have HBW := Lib.hid hbw
        clear hbw hfi
        go_wp2_with fail
        go_returns
        exact ⟨rfl, HBW.out⟩

set_option maxHeartbeats 4000000 in
set_option maxRecDepth 100000 in
theorem rgood_any {B : Nat} {A : Option Addr} {p : List Fun} (c : Nat) (w : World) (h : ProgAt w B A p) (hz : SizedP p) (hB : B ≤ w.heap.size) :
    Calls Tryz.prog 12 #[.slice A p.length c] w fun x w' => x = .returned (.bool ((checkP p).2.2 == 0)) ∧ Below w.heap.size w w' := by
  have CK := Lib.hid (rcheck_any c w h hz hB)
  generalize checkP p = R at *
  obtain ⟨r1, r2, r3⟩ := R
  clear h
  go_enter Tryz.func12, Tryz.ntmps12
  go_wp2_with (go_at_call 25; (with_reducible refine CK.out.mono ?_); rintro _ u ⟨rfl, hb⟩)
  go_ret
  exact ⟨rfl, hb⟩

end Go.Proofs.YtagjddnpaahebaaGreatDoor

