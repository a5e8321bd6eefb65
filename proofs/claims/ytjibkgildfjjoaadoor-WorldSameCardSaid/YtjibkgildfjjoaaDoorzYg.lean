/- Layer 12: the document's May; whether a pen is small. -/
import Derived.Test.YtjibkgildfjjoaaDoorzYo
import Derived.Test.YtjibkgildfjjoaaDoorzPr1
import Derived.Test.YtjibkgildfjjoaaDoorzRw
import Derived.Deep.RegionHeld3
import Derived.Deep.DeepCutAuto
import Derived.Deep.CutBlock
import Derived.BigQuiet
import Derived.WalkLawsBesides
namespace Go.Proofs.YtjibkgildfjjoaaDoor
set_option linter.unusedVariables false
set_option linter.unusedSimpArgs false
open Go.RowKit Go.ChangeShapes Go.WideShapes Go.ChangeAt Go.Sort

end Go.Proofs.YtjibkgildfjjoaaDoor

/- Layer 12: whether a pen is small; the document's copy. -/
namespace Go.Proofs.YtjibkgildfjjoaaDoor
set_option linter.unusedVariables false
set_option linter.unusedSimpArgs false
open Go.RowKit Go.ChangeShapes Go.WideShapes Go.ChangeAt Go.Sort

theorem sm_frm {f : Frm} (h : smB f = true) : FrmLen f := by
  unfold smB at h
  simp only [Bool.and_eq_true, decide_eq_true_eq] at h
  exact ⟨by omega, by omega, by omega⟩
theorem sm_len {p : Zp} {k : Nat} (h : smZ p k = true) (hk : k ≤ 1000) : LenZ p := by
  unfold smZ at h
  simp only [Bool.and_eq_true, decide_eq_true_eq, List.all_eq_true] at h
  exact ⟨by omega, by omega, fun i hi => sm_frm (h.2 _ (List.getElem_mem hi))⟩
theorem sm_no {p : Zp} {k j : Nat} (hj : j < p.cells.length) (h : smB p.cells[j].frm = false) : smZ p k = false := by
  rw [Bool.eq_false_iff]
  intro e
  unfold smZ at e
  simp only [Bool.and_eq_true, List.all_eq_true] at e
  rw [e.2 _ (List.getElem_mem hj)] at h
  cases h
set_option maxHeartbeats 1000000 in
set_option maxRecDepth 100000 in
theorem rsmallf_y {B : Nat} {v : Value} {f : Frm} (w : World) (h : FrmAt w B v f) :
    Calls Tryd.prog 35 #[v] w fun e w' => e = .returned (.bool (smB f)) ∧ Below w.heap.size w w' := by
  obtain ⟨A1, c1, A2, c2, A3, c3, rfl, h1, h2, h3⟩ := h
  unfold smB
  clear h1 h2 h3
  generalize f.stk.length = n1
  generalize f.loc.length = n2
  generalize f.slt.length = n3
  by_cases e1 : n1 ≤ 40
  · by_cases e2 : n2 ≤ 40
    · by_cases e3 : n3 ≤ 40
      all_goals
        go_enter Tryd.func35, Tryd.ntmps35
        go_wp2_with fail
        go_ret
        exact ⟨ret_bool (by simp [e1, e2, e3]; omega), by go_grown⟩
    · go_enter Tryd.func35, Tryd.ntmps35
      go_wp2_with fail
      go_ret
      exact ⟨ret_bool (by simp [e1, e2]), by go_grown⟩
  · go_enter Tryd.func35, Tryd.ntmps35
    go_wp2_with fail
    go_ret
    exact ⟨ret_bool (by simp [e1]), by go_grown⟩
set_option maxHeartbeats 2000000 in
set_option maxRecDepth 100000 in
theorem rsmall_z {A A2 : Option Addr} {p : Zp} {B n m : Nat} (c c2 : Nat) (w : World) (hn : p.cells.length = n) (hm : p.free.length = m) (h : PAtZ w B A A2 p) (hl : n ≤ maxLen) (hl2 : m ≤ maxLen) (hB : B ≤ w.heap.size) :
    Calls Tryd.prog 19 #[pv A n c A2 m c2 p.most, .int .i64 30] w fun e w' => e = .returned (.bool (smZ p 30)) ∧ Below w.heap.size w w' := by
  have hb0 : Below w.heap.size w (w.alloc (.cells (pc A n c A2 m c2 p.most) 29)) := (Below.refl _ _).alloc (Nat.le_refl _) _
  have g1 := Held.new w 29 (pc A n c A2 m c2 p.most)
  have HP := Lib.hid (h.below hb0 hB)
  have HN := Lib.hid hn
  have HM := Lib.hid hm
  obtain ⟨R, hR⟩ : ∃ R, smZ p 30 = R := ⟨_, rfl⟩
  rw [hR]
  have HR := Lib.hid hR
  by_cases hn30 : n ≤ 30
  · have d1 : decide (n ≤ 30) = true := decide_eq_true hn30
    have hnI : (n : Int) ≤ 30 := by omega
    clear h hn hm hR
    go_enter Tryd.func19, Tryd.ntmps19
    go_upto_region 1 with (fail)
    generalize w.alloc (.cells (pc A n c A2 m c2 p.most) 29) = W0 at *
    have hbs := Nat.le_trans hB hb0.size
    go_upto_region 2 with (fail)
    go_loopw [5] (fun iv W => ∃ j : Nat, iv = .int .i64 j ∧ j ≤ n ∧ (∀ i (h : i < p.cells.length), i < j → smB p.cells[i].frm = true) ∧ Below W0.heap.size W0 W) (fun iv _ => n - (intOf iv).toNat)
    case atStart => exact ⟨0, rfl, by omega, fun i hi h0 => absurd h0 (by omega), Below.refl _ _⟩
    case round =>
      obtain ⟨j, rfl, hj, hall, hw⟩ := hrel
      have HA := Lib.hid hall
      have HW := Lib.hid hw
      have hj0 : (0 : Int) ≤ j := by omega
      have x0 := (g1.below hw).cell 0
      have x1 := (g1.below hw).cell 1
      simp at x0 x1
      clear hall hw
      by_cases hlt : j < n
      · have hjn : j < p.cells.length := by rw [HN.out]; exact hlt
        have hlt2 : (j : Int) < n := by omega
        obtain ⟨b, off, rfl, -, cs, s1, -, hf, -, -, hr, -⟩ := (HP.out.below HW.out hbs).cells.cel hjn
        have SM := Lib.hid (rsmallf_y _ hf)
        have HR2 := Lib.hid hr
        have S1 := Lib.hid s1
        obtain ⟨u, hu⟩ : ∃ u, smB p.cells[j].frm = u := ⟨_, rfl⟩
        rw [hu] at SM
        cases u with
        | false =>
          obtain rfl : R = false := HR.out.symm.trans (sm_no hjn hu)
          clear s1 hf hr hu
          go_wp2_with (first
            | (refine wpList_load_midA rfl 54 _ rfl b (off + j * 18 + 2) rfl cs _ HR2.out Tryd.underlying54 rfl (by rw [S1.out]; kernel_rfl) ?_)
            | (go_at_call 35; (with_reducible refine SM.out.mono ?_); rintro _ u9 ⟨rfl, hb9⟩))
          go_ret
          exact ⟨rfl, Below.step hb0 (Below.step HW.out hb9)⟩
        | true =>
          have HU := Lib.hid hu
          clear s1 hf hr hu
          go_wp2_with (first
            | (refine wpList_load_midA rfl 54 _ rfl b (off + j * 18 + 2) rfl cs _ HR2.out Tryd.underlying54 rfl (by rw [S1.out]; kernel_rfl) ?_)
            | (go_at_call 35; (with_reducible refine SM.out.mono ?_); rintro _ u9 ⟨rfl, hb9⟩))
          go_roundw
          case rel => exact ⟨j + 1, by go_num, by omega, fun i hi h0 => by
            by_cases e : i = j
            · subst e; exact HU.out
            · exact HA.out i hi (by omega), Below.step HW.out hb9⟩
          case measure => simp [intOf]; omega
      · obtain rfl : j = n := by omega
        have hok : R = decide (m ≤ 30) := by
          rw [← HR.out, Bool.eq_iff_iff, decide_eq_true_eq]
          unfold smZ
          simp only [Bool.and_eq_true, decide_eq_true_eq, List.all_eq_true, HN.out, HM.out]
          refine ⟨fun h => h.1.2, fun h => ⟨⟨hn30, h⟩, fun x hx => ?_⟩⟩
          obtain ⟨i, hi, rfl⟩ := List.mem_iff_getElem.1 hx
          exact HA.out i hi (by have := HN.out; omega)
        have hmI : ((m : Int) ≤ 30) = (m ≤ 30) := by rw [eq_iff_iff]; omega
        clear hlt
        by_cases e : m ≤ 30
        · have d2 : decide (m ≤ 30) = true := decide_eq_true e
          obtain rfl : R = true := hok.trans d2
          clear e hok
          go_wp2_with fail
          go_ret
          exact ⟨rfl, Below.step hb0 HW.out⟩
        · have d2 : decide (m ≤ 30) = false := decide_eq_false e
          obtain rfl : R = false := hok.trans d2
          clear e hok
          go_wp2_with fail
          go_ret
          exact ⟨rfl, Below.step hb0 HW.out⟩
  · have d1 : decide (n ≤ 30) = false := decide_eq_false hn30
    obtain rfl : R = false := by
      rw [← HR.out]
      unfold smZ
      rw [HN.out, d1]
      rfl
    have hn0 : (0 : Int) < n := by omega
    have d1i : decide ((n : Int) ≤ 30) = false := decide_eq_false (by omega)
    have hn0' : 0 < n := by omega
    clear h hn hm hR hn30
    go_enter Tryd.func19, Tryd.ntmps19
    go_upto_region 1 with (fail)
    generalize w.alloc (.cells (pc A n c A2 m c2 p.most) 29) = W0 at *
    have x0 := g1.cell 0
    have x1 := g1.cell 1
    simp at x0 x1
    go_upto_region 2 with (fail)
    go_loopw [5] (fun iv W => iv = .int .i64 0 ∧ W = W0) (fun iv _ => 0)
    case atStart => exact ⟨rfl, rfl⟩
    case round =>
      obtain ⟨rfl, rfl⟩ := hrel
      go_wp2_with fail

      go_ret
      exact ⟨rfl, hb0⟩
end Go.Proofs.YtjibkgildfjjoaaDoor

/- Layer 13: whether a world is small. -/
namespace Go.Proofs.YtjibkgildfjjoaaDoor
set_option linter.unusedVariables false
set_option linter.unusedSimpArgs false
open Go.RowKit Go.ChangeShapes Go.WideShapes Go.ChangeAt Go.Sort

/-- What is known of a world that was opened. -/
structure SzW (W : Wld) : Prop where
  prog : SizedP W.prog
  cells : W.pen.cells.length ≤ maxLen
  free : W.pen.free.length ≤ maxLen
  rings : W.rings.length ≤ maxLen
  cur : W.cur.length ≤ maxLen
theorem smW_big {W : Wld} (h : ¬ W.rings.length ≤ 70) : smW W = false := by simp [smW, h]
theorem smW_buf {W : Wld} {j : Nat} (hj : j < W.rings.length) (h : ¬ W.rings[j].buf.length ≤ 60) : smW W = false := by
  have : (W.rings.all fun r => decide (r.buf.length ≤ 60)) = false := by
    rw [← Bool.not_eq_true, List.all_eq_true]
    intro h9
    have := h9 _ (List.getElem_mem hj)
    simp at this
    omega
  simp [smW, this]
theorem smW_rest {W : Wld} (h : W.rings.length ≤ 70) (h2 : ∀ i (h : i < W.rings.length), W.rings[i].buf.length ≤ 60) : smW W = (decide (W.cur.length ≤ 70) && smZ W.pen 30 && smallP W.prog 300) := by
  have : (W.rings.all fun r => decide (r.buf.length ≤ 60)) = true := by
    rw [List.all_eq_true]
    intro r hr
    obtain ⟨i, hi, rfl⟩ := List.mem_iff_getElem.1 hr
    simpa using h2 i hi
  simp [smW, this, h]
set_option maxHeartbeats 4000000 in
set_option maxRecDepth 100000 in
theorem rsmall_w {a : WA} {W : Wld} {B : Nat} (w : World) (h : WAt w B a W) (hz : SzW W) (hB : B ≤ w.heap.size) :
    Calls Tryd.prog 7 #[.agg (wcs a W)] w fun e w' => e = .returned (.bool (smW W)) ∧ Below w.heap.size w w' := by
  have hb0 : Below w.heap.size w (w.alloc (.cells (wcs a W) 40)) := (Below.refl _ _).alloc (Nat.le_refl _) _
  have g1 := Held.new w 40 (wcs a W)
  have hp := h.below hb0 hB
  have hbs := Nat.le_trans hB hb0.size
  have HZ := Lib.hid hz
  obtain ⟨R, hR⟩ : ∃ R, smW W = R := ⟨_, rfl⟩
  rw [hR]
  have HR := Lib.hid hR
  clear h hB hz hR
  go_enter Tryd.func7, Tryd.ntmps7
  go_upto_region 2 with (fail)
  generalize w.alloc (.cells (wcs a W) 40) = W0 at *
  have HX := Lib.hid (And.intro g1 (And.intro hp (And.intro hbs hb0)))
  clear g1 hp hbs hb0
  by_cases hn : W.rings.length ≤ 70
  · have HN := Lib.hid hn
    clear hn
    go_loopw [3] (fun iv wx => ∃ j : Nat, iv = .int .i64 j ∧ j ≤ W.rings.length ∧ (∀ i (h : i < W.rings.length), i < j → W.rings[i].buf.length ≤ 60) ∧ Below w.heap.size w wx ∧ WAt wx B a W ∧ B ≤ wx.heap.size ∧ Held wx w.heap.size 40 (wcs a W)) (fun iv _ => W.rings.length - (intOf iv).toNat)
    case atStart => exact ⟨0, rfl, by omega, fun i _ h => absurd h (by omega), HX.out.2.2.2, HX.out.2.1, HX.out.2.2.1, HX.out.1⟩
    case round =>
      clear HX
      obtain ⟨j, rfl, hj, hall, hbw, hp, hbs, g1⟩ := hrel
      have hj0 : (0 : Int) ≤ j := by omega
      have hnI : (W.rings.length : Int) ≤ 70 := by have := HN.out; omega
      have HA := Lib.hid hall
      clear hall
      by_cases hlt : j < W.rings.length
      · have hlt2 : (j : Int) < (W.rings.length : Int) := by omega
        have x7 := g1.cell 7
        simp at x7
        obtain ⟨b, off, e1, -, Ab, cb, -, k0, k1, k2, k3⟩ := hp.rings.rng hlt
        rw [e1] at x7
        obtain ⟨rj, hrj⟩ : ∃ r, W.rings[j] = r := ⟨_, rfl⟩
        rw [hrj] at k0 k1 k2 k3
        obtain ⟨nb, hnb⟩ : ∃ n, rj.buf.length = n := ⟨_, rfl⟩
        rw [hnb] at k0
        have HF := Lib.hid (And.intro hbw (And.intro hp (And.intro hbs g1)))
        have SC := Lib.hid (rsmallr_any Ab nb cb rj.head rj.many rj.most)
        clear hbw hp hbs g1 e1
        by_cases h60 : nb ≤ 60
        · rw [decide_eq_true h60] at SC
          have HA2 : Hid (∀ i (h : i < W.rings.length), i < j + 1 → W.rings[i].buf.length ≤ 60) := Lib.hid (fun i hi hi2 => by
            by_cases e : i = j
            · subst e
              rw [hrj, hnb]
              exact h60
            · exact HA.out i hi (by omega))
          clear hrj hnb h60 HA
          go_wp2_with (go_at_call 18; (with_reducible refine (SC.out.go _).mono ?_); rintro _ u ⟨rfl, hb⟩)
          go_roundw
          obtain ⟨hbw, hp, hbs, g1⟩ := HF.out
          case rel => exact ⟨j + 1, by go_num, by omega, HA2.out, Below.step HF.out.1 hb, HF.out.2.1.below hb HF.out.2.2.1, Nat.le_trans HF.out.2.2.1 hb.size, HF.out.2.2.2.below hb⟩
          case measure => simp [intOf]; omega
        · rw [decide_eq_false h60] at SC
          obtain rfl : false = R := by rw [← HR.out]; exact (smW_buf hlt (by rw [hrj, hnb]; exact h60)).symm
          clear hrj hnb h60 HA
          go_wp2_with (go_at_call 18; (with_reducible refine (SC.out.go _).mono ?_); rintro _ u ⟨rfl, hb⟩)
          go_ret
          exact ⟨rfl, Below.step HF.out.1 hb⟩
      · obtain rfl : j = W.rings.length := by omega
        have x7 := g1.cell 7
        have x8 := g1.cell 8
        have x4 := g1.cell 4
        have x5 := g1.cell 5
        have x6 := g1.cell 6
        have x0 := g1.cell 0
        simp at x7 x8 x4 x5 x6 x0
        have hE := (smW_rest HN.out fun i hi => HA.out i hi hi).symm.trans HR.out
        have HE := Lib.hid hE
        have hcI : ((W.cur.length : Nat) : Int) ≤ 9223372036854775807 := by have := HZ.out.cur; unfold maxLen at this; omega
        have hc70 : decide ((W.cur.length : Int) ≤ 70) = decide (W.cur.length ≤ 70) := decide_eq_decide.2 (by omega)
        have SZ := Lib.hid (fun (u : World) (hb : Below wr.heap.size wr u) => rsmall_z a.cc a.cf u rfl rfl (hp.pen.below hb hbs) HZ.out.cells HZ.out.free (Nat.le_trans hbs hb.size))
        have SP := Lib.hid (fun (u : World) (hb : Below wr.heap.size wr u) => psmall_any a.cp 300 u (hp.prog.below hb hbs))
        clear hE hlt HA
        obtain ⟨c1, hc1⟩ : ∃ c, decide (W.cur.length ≤ 70) = c := ⟨_, rfl⟩
        obtain ⟨c2, hc2⟩ : ∃ c, smZ W.pen 30 = c := ⟨_, rfl⟩
        obtain ⟨c3, hc3⟩ : ∃ c, smallP W.prog 300 = c := ⟨_, rfl⟩
        simp only [hc1, hc2, hc3] at HE SZ SP hc70
        clear hc1 hc2 hc3 hp
        have hbr := Below.refl wr.heap.size wr
        cases c1
        case false =>
          go_wp2_with fail
          go_ret
          rw [← HE.out]
          exact ⟨by simp, hbw⟩
        cases c2
        case false =>
          go_wp2_with (go_at_call 19; (with_reducible refine (SZ.out _ hbr).mono ?_); rintro _ u ⟨rfl, hb⟩)
          go_ret
          rw [← HE.out]
          exact ⟨by simp, Below.step hbw hb⟩
        case true =>
          go_wp2_with (first
            | (go_at_call 19; (with_reducible refine (SZ.out _ hbr).mono ?_); rintro _ u ⟨rfl, hb⟩; have y0 := (Held.below g1 hb).cell 0; simp at y0)
            | (go_at_call 20; (with_reducible refine (SP.out _ hb).mono ?_); rintro _ u2 ⟨rfl, rfl⟩))
          go_ret
          rw [← HE.out]
          exact ⟨by simp, Below.step hbw hb⟩
  · obtain rfl : false = R := by rw [← HR.out]; exact (smW_big hn).symm
    go_loopw [3] (fun iv wx => iv = .int .i64 0 ∧ wx = W0) (fun _ _ => 0)
    case atStart => exact ⟨rfl, rfl⟩
    case round =>
      obtain ⟨rfl, rfl⟩ := hrel
      have x7 := HX.out.1.cell 7
      simp at x7
      have h1 : ¬ (W.rings.length : Int) ≤ 70 := by omega
      have h2 : (0 : Int) < (W.rings.length : Int) := by omega
      have h3 : (W.rings.length : Int) ≤ 9223372036854775807 := by have := HZ.out.rings; unfold maxLen at this; omega
      have HXX := Lib.hid HX.out.2.2.2
      clear HX hn
      go_wp2_with fail
      go_ret
      exact ⟨rfl, HXX.out⟩
end Go.Proofs.YtjibkgildfjjoaaDoor

