/- Layer 12: whether a pen is small; the document's copy. -/
import Derived.Test.YtkpjlobpaippdaaYg
namespace Go.Proofs.Ytkpjlobpaippdaa
set_option linter.unusedVariables false
set_option linter.unusedSimpArgs false
open Go.RowKit Go.ChangeShapes Go.WideShapes Go.ChangeAt Go.Sort

def smB (f : Frm) : Bool := decide (f.stk.length ≤ 40) && decide (f.loc.length ≤ 40) && decide (f.slt.length ≤ 40)
def smZ (p : Zp) (k : Nat) : Bool := decide (p.cells.length ≤ k) && decide (p.free.length ≤ k) && p.cells.all fun c => smB c.frm
theorem sm_frm {f : Frm} (h : smB f = true) : FrmLen f := by
  unfold smB at h
  simp only [Bool.and_eq_true, decide_eq_true_eq] at h
  exact ⟨by omega, by omega, by omega⟩
theorem sm_len {p : Zp} {k : Nat} (h : smZ p k = true) (hk : k ≤ 1000) : LenZ p := by
  unfold smZ at h
  simp only [Bool.and_eq_true, decide_eq_true_eq, List.all_eq_true] at h
  exact ⟨by omega, by omega, fun i hi => sm_frm (h.2 _ (List.getElem_mem hi))⟩
theorem sm_no {p : Zp} {k j : Nat} (hj : j < p.cells.length) (h : smB p.cells[j].frm = false) : smZ p k = false := by
  rw [Bool.eq_false_iff]
  intro e
  unfold smZ at e
  simp only [Bool.and_eq_true, List.all_eq_true] at e
  rw [e.2 _ (List.getElem_mem hj)] at h
  cases h
set_option maxHeartbeats 1000000 in
set_option maxRecDepth 100000 in
theorem rsmallf_any {B : Nat} {v : Value} {f : Frm} (w : World) (h : FrmAt w B v f) :
    Calls Try.prog 10 #[v] w fun e w' => e = .returned (.bool (smB f)) ∧ Below w.heap.size w w' := by
  obtain ⟨A1, c1, A2, c2, A3, c3, rfl, h1, h2, h3⟩ := h
  unfold smB
  clear h1 h2 h3
  generalize f.stk.length = n1
  generalize f.loc.length = n2
  generalize f.slt.length = n3
  by_cases e1 : n1 ≤ 40
  · by_cases e2 : n2 ≤ 40
    · by_cases e3 : n3 ≤ 40
      all_goals
        go_enter Try.func10, Try.ntmps10
        go_wp2_with fail
        go_ret
        exact ⟨ret_bool (by simp [e1, e2, e3]; omega), by go_grown⟩
    · go_enter Try.func10, Try.ntmps10
      go_wp2_with fail
      go_ret
      exact ⟨ret_bool (by simp [e1, e2]), by go_grown⟩
  · go_enter Try.func10, Try.ntmps10
    go_wp2_with fail
    go_ret
    exact ⟨ret_bool (by simp [e1]), by go_grown⟩
set_option maxHeartbeats 2000000 in
set_option maxRecDepth 100000 in
theorem rsmall_z {A A2 : Option Addr} {p : Zp} {B n m : Nat} (c c2 : Nat) (w : World) (hn : p.cells.length = n) (hm : p.free.length = m) (h : PAtZ w B A A2 p) (hl : n ≤ maxLen) (hl2 : m ≤ maxLen) (hB : B ≤ w.heap.size) :
    Calls Try.prog 9 #[pv A n c A2 m c2 p.most, .int .i64 30] w fun e w' => e = .returned (.bool (smZ p 30)) ∧ Below w.heap.size w w' := by
  have hb0 : Below w.heap.size w (w.alloc (.cells (pc A n c A2 m c2 p.most) 25)) := (Below.refl _ _).alloc (Nat.le_refl _) _
  have g1 := Held.new w 25 (pc A n c A2 m c2 p.most)
  have HP := Lib.hid (h.below hb0 hB)
  have HN := Lib.hid hn
  have HM := Lib.hid hm
  obtain ⟨R, hR⟩ : ∃ R, smZ p 30 = R := ⟨_, rfl⟩
  rw [hR]
  have HR := Lib.hid hR
  by_cases hn30 : n ≤ 30
  · have d1 : decide (n ≤ 30) = true := decide_eq_true hn30
    have hnI : (n : Int) ≤ 30 := by omega
    clear h hn hm hR
    go_enter Try.func9, Try.ntmps9
    go_upto_region 1 with (fail)
    generalize w.alloc (.cells (pc A n c A2 m c2 p.most) 25) = W0 at *
    have hbs := Nat.le_trans hB hb0.size
    go_upto_region 2 with (fail)
    go_loopw [5] (fun iv W => ∃ j : Nat, iv = .int .i64 j ∧ j ≤ n ∧ (∀ i (h : i < p.cells.length), i < j → smB p.cells[i].frm = true) ∧ Below W0.heap.size W0 W) (fun iv _ => n - (intOf iv).toNat)
    case atStart => exact ⟨0, rfl, by omega, fun i hi h0 => absurd h0 (by omega), Below.refl _ _⟩
    case round =>
      obtain ⟨j, rfl, hj, hall, hw⟩ := hrel
      have HA := Lib.hid hall
      have HW := Lib.hid hw
      have hj0 : (0 : Int) ≤ j := by omega
      have x0 := (g1.below hw).cell 0
      have x1 := (g1.below hw).cell 1
      simp at x0 x1
      clear hall hw
      by_cases hlt : j < n
      · have hjn : j < p.cells.length := by rw [HN.out]; exact hlt
        have hlt2 : (j : Int) < n := by omega
        obtain ⟨b, off, rfl, -, cs, s1, -, hf, -, -, hr, -⟩ := (HP.out.below HW.out hbs).cells.cel hjn
        have SM := Lib.hid (rsmallf_any _ hf)
        have HR2 := Lib.hid hr
        have S1 := Lib.hid s1
        obtain ⟨u, hu⟩ : ∃ u, smB p.cells[j].frm = u := ⟨_, rfl⟩
        rw [hu] at SM
        cases u with
        | false =>
          obtain rfl : R = false := HR.out.symm.trans (sm_no hjn hu)
          clear s1 hf hr hu
          go_wp2_with (first
            | (refine wpList_load_midA rfl 35 _ rfl b (off + j * 18 + 2) rfl cs _ HR2.out Try.underlying35 rfl (by rw [S1.out]; kernel_rfl) ?_)
            | (go_at_call 10; (with_reducible refine SM.out.mono ?_); rintro _ u9 ⟨rfl, hb9⟩))
          go_ret
          exact ⟨rfl, Below.step hb0 (Below.step HW.out hb9)⟩
        | true =>
          have HU := Lib.hid hu
          clear s1 hf hr hu
          go_wp2_with (first
            | (refine wpList_load_midA rfl 35 _ rfl b (off + j * 18 + 2) rfl cs _ HR2.out Try.underlying35 rfl (by rw [S1.out]; kernel_rfl) ?_)
            | (go_at_call 10; (with_reducible refine SM.out.mono ?_); rintro _ u9 ⟨rfl, hb9⟩))
          go_roundw
          case rel => exact ⟨j + 1, by go_num, by omega, fun i hi h0 => by
            by_cases e : i = j
            · subst e; exact HU.out
            · exact HA.out i hi (by omega), Below.step HW.out hb9⟩
          case measure => simp [intOf]; omega
      · obtain rfl : j = n := by omega
        have hok : R = decide (m ≤ 30) := by
          rw [← HR.out, Bool.eq_iff_iff, decide_eq_true_eq]
          unfold smZ
          simp only [Bool.and_eq_true, decide_eq_true_eq, List.all_eq_true, HN.out, HM.out]
          refine ⟨fun h => h.1.2, fun h => ⟨⟨hn30, h⟩, fun x hx => ?_⟩⟩
          obtain ⟨i, hi, rfl⟩ := List.mem_iff_getElem.1 hx
          exact HA.out i hi (by have := HN.out; omega)
        have hmI : ((m : Int) ≤ 30) = (m ≤ 30) := by rw [eq_iff_iff]; omega
        clear hlt
        by_cases e : m ≤ 30
        · have d2 : decide (m ≤ 30) = true := decide_eq_true e
          obtain rfl : R = true := hok.trans d2
          clear e hok
          go_wp2_with fail
          go_ret
          exact ⟨rfl, Below.step hb0 HW.out⟩
        · have d2 : decide (m ≤ 30) = false := decide_eq_false e
          obtain rfl : R = false := hok.trans d2
          clear e hok
          go_wp2_with fail
          go_ret
          exact ⟨rfl, Below.step hb0 HW.out⟩
  · have d1 : decide (n ≤ 30) = false := decide_eq_false hn30
    obtain rfl : R = false := by
      rw [← HR.out]
      unfold smZ
      rw [HN.out, d1]
      rfl
    have hn0 : (0 : Int) < n := by omega
    have d1i : decide ((n : Int) ≤ 30) = false := decide_eq_false (by omega)
    have hn0' : 0 < n := by omega
    clear h hn hm hR hn30
    go_enter Try.func9, Try.ntmps9
    go_upto_region 1 with (fail)
    generalize w.alloc (.cells (pc A n c A2 m c2 p.most) 25) = W0 at *
    have x0 := g1.cell 0
    have x1 := g1.cell 1
    simp at x0 x1
    go_upto_region 2 with (fail)
    go_loopw [5] (fun iv W => iv = .int .i64 0 ∧ W = W0) (fun iv _ => 0)
    case atStart => exact ⟨rfl, rfl⟩
    case round =>
      obtain ⟨rfl, rfl⟩ := hrel
      go_wp2_with fail

      go_ret
      exact ⟨rfl, hb0⟩
end Go.Proofs.Ytkpjlobpaippdaa
