/- Layer 7: the document's Small, Head, May. -/
import Derived.Test.YtagjddnpaahebaaGreatDoorzGh
import Derived.Test.YtagjddnpaahebaaGreatDoorzHk
import Derived.OpenShut
import Derived.Lib.Hide
import Derived.WalkMore
import Derived.Handy
import Derived.BigQuiet
import Derived.Deep.QuietTactic
import Derived.RegionTactic
namespace Go.Proofs.YtagjddnpaahebaaGreatDoor
set_option linter.unusedVariables false
set_option linter.unusedSimpArgs false
open Go.RowKit Go.ChangeShapes Go.WideShapes Go.ChangeAt Go.Sort

/-- How many instructions there are, as the document's sum tells (it wraps where no memory holds so many). -/
def sumW (p : List Fun) : Int := p.foldl (fun n f => wrap64 (n + f.code.length)) 0
theorem sumW_snoc (p : List Fun) (k : Nat) (h : k < p.length) : sumW (p.take (k + 1)) = wrap64 (sumW (p.take k) + p[k].code.length) := by
  unfold sumW
  rw [List.take_succ_eq_append_getElem h, List.foldl_append]
  rfl
def smallP (p : List Fun) (most : Int) : Bool := decide (p.length ≤ 20) && decide (sumW p ≤ most)
set_option maxHeartbeats 1000000 in
set_option maxRecDepth 100000 in
theorem psmall_any {B : Nat} {A : Option Addr} {p : List Fun} (c : Nat) (most : Int) (w : World) (h : ProgAt w B A p) :
    Calls Tryz.prog 18 #[.slice A p.length c, .int .i64 most] w fun e w' => e = .returned (.bool (smallP p most)) ∧ w = w' := by
  have HA := Lib.hid h
  clear h
  by_cases hl : p.length ≤ 20
  · have hl2 : (p.length : Int) ≤ 20 := by omega
    have hfin : smallP p most = decide (sumW p ≤ most) := by simp [smallP, hl]
    have HF := Lib.hid hfin
    clear hfin
    go_enter Tryz.func18, Tryz.ntmps18
    go_wp2
    go_loop [5, 6] (fun n i => ∃ k : Nat, k ≤ p.length ∧ i = .int .i64 k ∧ n = .int .i64 (sumW (p.take k))) (fun _ i => p.length - (intOf i).toNat)
    case atStart => exact ⟨0, by omega, rfl, rfl⟩
    case round =>
      obtain ⟨k, hk, rfl, rfl⟩ := hrel
      by_cases hlt : k < p.length
      · obtain ⟨b, off, rfl, hbl, hc⟩ := HA.out (by omega)
        obtain ⟨_, _, _, A2, c2, c3, _⟩ := hc k hlt
        clear hc
        have ht := sumW_snoc p k hlt
        have HT := Lib.hid ht
        clear ht
        generalize sumW (p.take k) = m at *
        generalize p[k].code.length = l at *
        go_wp2
        go_round
        case rel => exact ⟨k + 1, by omega, by go_num, by rw [HT.out]⟩
        case measure => simp [intOf]; omega
      · obtain rfl : k = p.length := by omega
        rw [List.take_length] at *
        go_wp2_with fail
        all_goals
          go_ret
          rw [HF.out]
          refine ⟨ret_bool ?_, rfl⟩
          first | rfl | (rw [Bool.eq_iff_iff]; simp; done) | (rw [Bool.eq_iff_iff]; simp; omega)
  · have hl2 : ¬ (p.length : Int) ≤ 20 := by omega
    have hfin : smallP p most = false := by simp [smallP, hl]
    have HF := Lib.hid hfin
    clear hfin
    go_enter Tryz.func18, Tryz.ntmps18
    go_wp2
    go_loop [6] (fun i => i = .int .i64 0) (fun _ => 0)
    case atStart => rfl
    case round =>
      subst hrel
      go_wp2_with fail
      all_goals
        go_ret
        rw [HF.out]
        exact ⟨rfl, rfl⟩

set_option maxHeartbeats 1000000 in
theorem phead_any (a l s : Int) (v : Value) : Ct Tryz.prog 58 #[.agg #[.int .i64 a, .int .i64 l, .int .i64 s, v]] (.bool (headB a l s)) := fun w => by
  have hm := headB_iff a l s
  generalize headB a l s = m at *
  have HM := Lib.hid hm
  clear hm
  go_enter Tryz.func58, Tryz.ntmps58
  go_wp2_with fail
  all_goals
    go_ret
    refine ⟨ret_bool ?_, by go_grown⟩
    rw [Bool.eq_iff_iff, HM.out]
    simp
    try omega

set_option maxHeartbeats 2000000 in
set_option maxRecDepth 100000 in
theorem pmay_any {B : Nat} {A : Option Addr} {p : List Fun} (c : Nat) (w : World) (h : ProgAt w B A p) (hz : SizedP p) (hB : B ≤ w.heap.size) :
    Calls Tryz.prog 39 #[.slice A p.length c] w fun e w' => e = .returned (.bool (mayP p)) ∧ Below w.heap.size w w' := by
  have HA := Lib.hid h
  have HZ := Lib.hid hz.2
  have hzp := hz.1
  unfold maxLen at hzp
  clear h hz
  go_enter Tryz.func39, Tryz.ntmps39
  go_wp2
  go_loopw [3] (fun i W => ∃ k : Nat, k ≤ p.length ∧ i = .int .i64 k ∧ (∀ f ∈ p.take k, mayF f = true) ∧ Below w.heap.size w W) (fun i _ => p.length - (intOf i).toNat)
  case atStart => exact ⟨0, by omega, rfl, by simp, Below.refl _ _⟩
  case round =>
    obtain ⟨k, hk, rfl, hall, hw⟩ := hrel
    have HALL := Lib.hid hall
    clear hall
    by_cases hlt : k < p.length
    · obtain ⟨b, off, rfl, hbl, hc⟩ := (HA.out.below hw hB) (by omega)
      have hF := hc k hlt
      clear hc
      have hmem : p[k] ∈ p := List.getElem_mem hlt
      have hzf := HZ.out _ hmem
      unfold maxLen at hzf
      have htk : p.take (k + 1) = p.take k ++ [p[k]] := List.take_succ_eq_append_getElem hlt
      generalize p[k] = f at *
      have HTK := Lib.hid htk
      have HMEM := Lib.hid hmem
      clear htk hmem
      have HF := Lib.hid hF
      obtain ⟨_, _, _, A2, c2, c3, hcode⟩ := hF
      have HC := Lib.hid hcode
      clear hcode
      have hwz := hw.size
      obtain ⟨wo, rfl⟩ : ∃ wo, wo = wr := ⟨_, rfl⟩
      have hbo : b < wo.heap.size := by omega
      have hBo : B ≤ wo.heap.size := by omega
      go_wp2
      go_loopw [4] (fun i W => ∃ j : Nat, j ≤ f.code.length ∧ i = .int .i64 j ∧ (∀ x ∈ f.code.take j, mayZ x.1 x.2.1 x.2.2 = true) ∧ Below wo.heap.size wo W) (fun i _ => f.code.length - (intOf i).toNat)
      case atStart => exact ⟨0, by omega, rfl, by simp, Below.refl _ _⟩
      case round =>
        obtain ⟨j, hj, rfl, hjall, hwi⟩ := hrel
        have HJ := Lib.hid hjall
        clear hjall
        have hwiz := hwi.size
        have e3 : wr.cell? ⟨b, off + k * 4 + 3, none⟩ = some (.slice A2 f.code.length c2) := (hwi.cell hbo).trans c3
        by_cases hltj : j < f.code.length
        · obtain ⟨b2, off2, rfl, hbl2, hd⟩ := (HC.out.below hwi hBo) (by omega)
          obtain ⟨d0, d1, d2⟩ := hd j hltj
          clear hd
          have hjt : f.code.take (j + 1) = f.code.take j ++ [f.code[j]] := List.take_succ_eq_append_getElem hltj
          have hjm : f.code[j] ∈ f.code := List.getElem_mem hltj
          generalize f.code[j] = x at *
          obtain ⟨xo, xa, xb⟩ := x
          have HJT := Lib.hid hjt
          have HJM := Lib.hid hjm
          clear hjt hjm
          cases hx : mayZ xo xa xb
          · have RM := rmay_any xo xa xb
            rw [hx] at RM
            have hbad : mayP p = false := by
              rw [← Bool.not_eq_true, mayP_iff]
              intro h
              have := ((mayF_iff f).1 (h.2.2 f HMEM.out)).2.2.2 _ HJM.out
              simp only at this
              rw [hx] at this
              cases this
            have HB := Lib.hid hbad
            clear hbad hx
            go_wp2_with (go_at_call 57; (with_reducible refine (RM.go _).mono ?_); rintro e v ⟨rfl, hb⟩; replace hwi := Below.step hwi hb; clear hb)
            go_ret
            rw [HB.out]
            exact ⟨rfl, Below.step hw hwi⟩
          · have RM := rmay_any xo xa xb
            rw [hx] at RM
            have HX := Lib.hid hx
            clear hx
            go_wp2_with (go_at_call 57; (with_reducible refine (RM.go _).mono ?_); rintro e v ⟨rfl, hb⟩; replace hwi := Below.step hwi hb; clear hb)
            go_roundw
            case rel =>
              refine ⟨j + 1, by omega, by go_num, ?_, hwi⟩
              rw [HJT.out]
              intro y hy
              rcases List.mem_append.1 hy with h | h
              · exact HJ.out y h
              · simp only [List.mem_singleton] at h
                subst h
                exact HX.out
            case measure => simp [intOf]; omega
        · obtain rfl : j = f.code.length := by omega
          have hall := HJ.out
          rw [List.take_length] at hall
          have hmf : mayF f = (headB f.ar f.lo f.sl && (decide (1 ≤ f.code.length) && decide (f.code.length ≤ 200))) := by
            rw [Bool.eq_iff_iff, mayF_iff]
            constructor
            · rintro ⟨h1, h2, h3, _⟩
              simp [h1, h2, h3]
            · intro h
              simp at h
              exact ⟨h.1, h.2.1, h.2.2, hall⟩
          clear hall
          have HMF := Lib.hid hmf
          clear hmf
          have PH := phead_any f.ar f.lo f.sl (.slice A2 f.code.length c2)
          have e0 : wr.cell? ⟨b, off + k * 4, none⟩ = some (.int .i64 f.ar) := (hwi.cell hbo).trans HF.out.1
          have e1 : wr.cell? ⟨b, off + k * 4 + 1, none⟩ = some (.int .i64 f.lo) := (hwi.cell hbo).trans HF.out.2.1
          have e2 : wr.cell? ⟨b, off + k * 4 + 2, none⟩ = some (.int .i64 f.sl) := (hwi.cell hbo).trans HF.out.2.2.1
          have hbr : b < wr.heap.size := by omega
          generalize headB f.ar f.lo f.sl = hd at *
          have fin : mayF f = false → mayP p = false := fun h => by
            rw [← Bool.not_eq_true, mayP_iff]
            intro h2
            rw [h2.2.2 f HMEM.out] at h
            cases h
          have FIN := Lib.hid fin
          clear fin hltj
          cases hd
          · have hb := FIN.out (by rw [HMF.out]; rfl)
            have HB := Lib.hid hb
            clear hb
            go_wp2_with (go_at_call 58; (with_reducible refine (PH.go _).mono ?_); rintro e v ⟨rfl, hb⟩; replace hwi := Below.step hwi hb; clear hb)
            go_ret
            rw [HB.out]
            exact ⟨rfl, Below.step hw hwi⟩
          · rcases (show f.code.length < 1 ∨ 200 < f.code.length ∨ (1 ≤ f.code.length ∧ f.code.length ≤ 200) by omega) with hl | hl | ⟨hl1, hl2⟩
            · have hb := FIN.out (by rw [HMF.out]; simp; omega)
              have HB := Lib.hid hb
              have hl' : (f.code.length : Int) < 1 := by omega
              clear hb
              go_wp2_with (go_at_call 58; (with_reducible refine (PH.go _).mono ?_); rintro e v ⟨rfl, hb⟩; replace e3 := (hb.cell hbr).trans e3; replace hwi := Below.step hwi hb; clear hb)
              go_ret
              rw [HB.out]
              exact ⟨rfl, Below.step hw hwi⟩
            · have hb := FIN.out (by rw [HMF.out]; simp; omega)
              have HB := Lib.hid hb
              have hl' : (200 : Int) < f.code.length := by omega
              clear hb
              go_wp2_with (go_at_call 58; (with_reducible refine (PH.go _).mono ?_); rintro e v ⟨rfl, hb⟩; replace e3 := (hb.cell hbr).trans e3; replace hwi := Below.step hwi hb; clear hb)
              go_ret
              rw [HB.out]
              exact ⟨rfl, Below.step hw hwi⟩
            · have hg : mayF f = true := by rw [HMF.out]; simp; omega
              have HG := Lib.hid hg
              have hl1' : (1 : Int) ≤ f.code.length := by omega
              have hl2' : (f.code.length : Int) ≤ 200 := by omega
              clear hg
              go_wp2_with (go_at_call 58; (with_reducible refine (PH.go _).mono ?_); rintro e v ⟨rfl, hb⟩; replace e3 := (hb.cell hbr).trans e3; replace hwi := Below.step hwi hb; clear hb)
              go_roundw
              case rel =>
                refine ⟨k + 1, by omega, by go_num, ?_, Below.step hw hwi⟩
                rw [HTK.out]
                intro y hy
                rcases List.mem_append.1 hy with h | h
                · exact HALL.out y h
                · simp only [List.mem_singleton] at h
                  subst h
                  exact HG.out
              case measure => simp [intOf]; omega
    · obtain rfl : k = p.length := by omega
      have hm : mayP p = (decide (1 ≤ p.length) && decide (p.length ≤ 16)) := by
        have := HALL.out
        rw [List.take_length] at this
        rw [Bool.eq_iff_iff, mayP_iff]
        constructor
        · rintro ⟨h1, h2, _⟩
          simp [h1, h2]
        · intro h
          simp at h
          exact ⟨h.1, h.2, this⟩
      have HM := Lib.hid hm
      clear hm
      go_wp2_with fail
      all_goals
        go_ret
        rw [HM.out]
        refine ⟨ret_bool ?_, hw⟩
        rw [Bool.eq_iff_iff]
        simp
        try omega
end Go.Proofs.YtagjddnpaahebaaGreatDoor

