/- Layer 12's code: May. -/
import Derived.Test.YtkpjlobpaippdaaYb
namespace Go.Proofs.Ytkpjlobpaippdaa
set_option linter.unusedVariables false
set_option linter.unusedSimpArgs false
open Go.RowKit Go.ChangeShapes Go.WideShapes Go.ChangeAt Go.Sort

/-- The marks of the free places. -/
def marks (l : List Int) : Array Value := ((List.range 1024).map fun (i : Nat) => Value.bool (decide ((i : Int) ∈ l))).toArray
theorem marks_at (l : List Int) {i : Nat} (h : i < 1024) : (marks l)[i]? = some (.bool (decide ((i : Int) ∈ l))) := by
  simp [marks, h]
theorem marks_set (l : List Int) {i : Nat} (h : i < 1024) : (marks l).setIfInBounds i (.bool true) = marks (l ++ [(i : Int)]) := by
  apply Array.ext_getElem?
  intro j
  by_cases hj : j < 1024
  · rw [marks_at _ hj]
    by_cases e : i = j
    · subst e
      rw [Array.getElem?_setIfInBounds_self_of_lt (by simp [marks, h])]
      simp
    · rw [Array.getElem?_setIfInBounds_ne e, marks_at _ hj]
      have : (j : Int) ≠ i := by omega
      simp [this]
  · rw [Array.getElem?_eq_none (by simp [marks]; omega), Array.getElem?_eq_none (by simp [marks]; omega)]
theorem marks_nil : (Try.prog.info? 73).map (·.zero) = some (some (.agg (marks []))) := by kernel_rfl
theorem ok_top {p : Zp} (h : ¬ topZ p) : okZ p = false := okZ_no fun k => h k.top
theorem ok_rng {p : Zp} {j : Nat} (hj : j < p.free.length) (h : p.free[j] < 0 ∨ (p.cells.length : Int) ≤ p.free[j]) : okZ p = false := okZ_no fun k => by
  have := k.rng _ (List.getElem_mem hj)
  omega
theorem ok_dup {p : Zp} {j : Nat} (hj : j < p.free.length) (h : p.free[j] ∈ p.free.take j) : okZ p = false := okZ_no fun k => by
  obtain ⟨i, hi, e⟩ := List.mem_iff_getElem.1 h
  rw [List.length_take] at hi
  rw [List.getElem_take] at e
  have := (List.nodup_iff_pairwise_ne.1 k.nod)
  have h2 := List.pairwise_iff_getElem.1 this i j (by omega) hj (by omega)
  exact h2 e
theorem ok_cel {p : Zp} {j : Nat} (hj : j < p.cells.length) (h : p.cells[j].used = decide ((j : Int) ∈ p.free) ∨ p.cells[j].gen < 0 ∨ 4294967296 ≤ p.cells[j].gen) : okZ p = false := okZ_no fun k => by
  rcases h with h | h
  · have := k.use j hj
    by_cases e : (j : Int) ∈ p.free <;> simp [h, e] at this
  · have := k.gen j hj
    omega
/-- On the way through the free ones. -/
structure MayS (w : World) (p : Zp) (A A2 : Option Addr) (n m c c2 k : Nat) (W : World) : Prop where
  pen : Held W w.heap.size 25 (pc A n c A2 m c2 p.most)
  arr : Held W (w.heap.size + 1) 73 (marks (p.free.take k))
  low : Below w.heap.size w W
  rng : ∀ a ∈ p.free.take k, 0 ≤ a ∧ a < (n : Int)
  nod : (p.free.take k).Nodup
/-- On the way through the cells. -/
structure MayT (w : World) (p : Zp) (A A2 : Option Addr) (n m c c2 k : Nat) (W : World) : Prop where
  s : MayS w p A A2 n m c c2 m W
  cel : ∀ i (h : i < p.cells.length), i < k → (p.cells[i].used = true ↔ (i : Int) ∉ p.free) ∧ 0 ≤ p.cells[i].gen ∧ p.cells[i].gen < 4294967296
theorem MayT.next {w : World} {p : Zp} {A A2 : Option Addr} {n m c c2 k : Nat} {W : World} (hw : MayT w p A A2 n m c c2 k W) (hk : k < p.cells.length) (e : p.cells[k].used = true ↔ (k : Int) ∉ p.free) (e2 : 0 ≤ p.cells[k].gen ∧ p.cells[k].gen < 4294967296) : MayT w p A A2 n m c c2 (k + 1) W :=
  ⟨hw.s, fun i hi hik => by
    by_cases e9 : i = k
    · subst e9
      exact ⟨e, e2⟩
    · exact hw.cel i hi (by omega)⟩
theorem MayS.next {w : World} {p : Zp} {A A2 : Option Addr} {n m c c2 j i : Nat} {W : World} (hw : MayS w p A A2 n m c c2 j W) (hjf : j < p.free.length) (e0 : p.free[j] = (i : Int)) (hi : i < 1024) (hr : 0 ≤ (i : Int) ∧ (i : Int) < (n : Int)) (hd : (i : Int) ∉ p.free.take j) :
    MayS w p A A2 n m c c2 (j + 1) (W.setCell ⟨w.heap.size + 1, i, none⟩ (.bool true)) := by
  have e := List.take_succ_eq_append_getElem hjf
  rw [e0] at e
  refine ⟨hw.pen.far (by omega) _ _, ?_, hw.low.setCell (p := ⟨w.heap.size + 1, i, none⟩) (Nat.le_succ _) _, ?_, ?_⟩
  · rw [e, ← marks_set _ hi]
    exact hw.arr.set_at i (.bool true)
  · intro a' ha'
    rw [e, List.mem_append] at ha'
    rcases ha' with ha' | ha'
    · exact hw.rng a' ha'
    · simp at ha'
      subst ha'
      exact hr
  · rw [e, List.nodup_append]
    refine ⟨hw.nod, by simp, ?_⟩
    intro a' ha' b' hb'
    simp at hb'
    subst hb'
    exact fun e2 => hd (e2 ▸ ha')
theorem MayT.drewN {w : World} {p : Zp} {A A2 : Option Addr} {n m c c2 k : Nat} {W : World} (h : MayT w p A A2 n m c c2 k W) (d : Nat) : MayT w p A A2 n m c c2 k (W.drewN d) := ⟨⟨h.s.pen, h.s.arr, below_drewN h.s.low d, h.s.rng, h.s.nod⟩, h.cel⟩
theorem MayT.ok {w : World} {p : Zp} {A A2 : Option Addr} {n m c c2 : Nat} {W : World} (hw : MayT w p A A2 n m c c2 n W) (hn : p.cells.length = n) (hm : p.free.length = m) (ht : topZ p) : okZ p = true := by
  rw [okZ_iff]
  have e : p.free.take m = p.free := List.take_of_length_le (by omega)
  have h1 := hw.s.rng
  have h2 := hw.s.nod
  rw [e] at h1 h2
  exact ⟨ht, fun a ha => by rw [hn]; exact h1 a ha, h2, fun i hi => (hw.cel i hi (by omega)).1, fun i hi => (hw.cel i hi (by omega)).2⟩
set_option maxHeartbeats 4000000 in
set_option maxRecDepth 100000 in
theorem may_z {A A2 : Option Addr} {p : Zp} {B n m : Nat} (c c2 : Nat) (w : World) (hn : p.cells.length = n) (hm : p.free.length = m) (h : PAtZ w B A A2 p) (hl : n ≤ 100000) (hl2 : m ≤ 100000) (hB : B ≤ w.heap.size) :
    Calls Try.prog 27 #[pv A n c A2 m c2 p.most] w fun e w' => e = .returned (.bool (okZ p)) ∧ Below w.heap.size w w' := by
  have hb0 : Below w.heap.size w (w.alloc (.cells (pc A n c A2 m c2 p.most) 25)) := (Below.refl _ _).alloc (Nat.le_refl _) _
  have g1 := Held.new w 25 (pc A n c A2 m c2 p.most)
  have HP := Lib.hid h
  have HN := Lib.hid hn
  have HM := Lib.hid hm
  have HBW := Lib.hid hB
  have hnI : (n : Int) ≤ 100000 := by omega
  have hmI : (m : Int) ≤ 100000 := by omega
  have hcs : (topZ p ∧ decide (p.most < 1) = false ∧ decide (1024 < p.most) = false ∧ decide (p.most < (n : Int)) = false) ∨ (¬ topZ p ∧ (decide (p.most < 1) = true ∨ (decide (p.most < 1) = false ∧ decide (1024 < p.most) = true) ∨ (decide (p.most < 1) = false ∧ decide (1024 < p.most) = false ∧ decide (p.most < (n : Int)) = true))) := by
    unfold topZ
    simp only [decide_eq_true_eq, decide_eq_false_iff_not, hn]
    omega
  obtain ⟨R, hR⟩ : ∃ R, okZ p = R := ⟨_, rfl⟩
  rw [hR]
  have HR := Lib.hid hR
  clear h hn hm hB hR
  rcases hcs with ⟨ht, d1, d2, d3⟩ | ⟨ht, hcs⟩
  · have HT := Lib.hid ht
    have hn1 : n ≤ 1024 := by
      have := HN.out
      unfold topZ at ht
      omega
    clear ht
    go_enter Try.func27, Try.ntmps27
    go_upto_region 3 with (fail)
    generalize hW0 : w.alloc (.cells (pc A n c A2 m c2 p.most) 25) = W0 at *
    have hsz : W0.heap.size = w.heap.size + 1 := by rw [← hW0]; simp
    clear hW0
    go_upto_region 4 with (refine wpList_plain rfl fun K hK => wp_alloc_R 73 rfl (marks []) marks_nil (hK _ _ ?_))
    have g1' := g1.alloc (.cells (marks []) 73)
    have g2 := Held.new W0 73 (marks [])
    have hb1 : Below w.heap.size w (W0.alloc (.cells (marks []) 73)) := hb0.alloc (by omega) _
    rw [hsz] at g2 ⊢
    generalize W0.alloc (.cells (marks []) 73) = W1 at *
    have x1 := g1'.cell 1
    simp at x1
    have HS : Hid (MayS w p A A2 n m c c2 0 W1) := Lib.hid ⟨g1', by simpa using g2, hb1, by simp, by simp⟩
    clear g1 g1' g2 hb0 hb1 hsz
    go_upto_region 5 with (fail)
    clear x1
    go_loopw [27] (fun iv W => ∃ j : Nat, iv = .int .i64 j ∧ j ≤ m ∧ MayS w p A A2 n m c c2 j W) (fun iv _ => m - (intOf iv).toNat)
    case atStart => exact ⟨0, rfl, by omega, HS.out⟩
    case round =>
      clear HS
      obtain ⟨j, rfl, hj, hw⟩ := hrel
      have HW := Lib.hid hw
      have x0 := hw.pen.cell 0
      simp at x0
      have hj0 : (0 : Int) ≤ j := by omega
      by_cases hlt : j < m
      · have hjf : j < p.free.length := by rw [HM.out]; exact hlt
        have hlt2 : (j : Int) < m := by omega
        obtain ⟨b, off, rfl, hbB, hc⟩ := HP.out.free (by omega)
        have k0 := (hw.low.cell (p := ⟨b, off + j, none⟩) (by show b < w.heap.size; have := HBW.out; omega)).trans (hc j hjf)
        obtain ⟨a, ha⟩ : ∃ a, p.free[j] = a := ⟨_, rfl⟩
        rw [ha] at k0
        have HA := Lib.hid ha
        clear hc ha hw
        by_cases hr : 0 ≤ a ∧ a < (n : Int)
        · obtain ⟨i, rfl⟩ : ∃ i : Nat, a = i := ⟨a.toNat, by omega⟩
          have hi : i < 1024 := by omega
          have y0 := HW.out.arr.cell i
          rw [marks_at _ hi] at y0
          have hi2 : (i : Int) < 1024 := by omega
          have d4 : decide ((i : Int) < 0) = false := decide_eq_false (by omega)
          have d5 : decide (n ≤ i) = false := decide_eq_false (by omega)
          have hin : i < n := by omega
          by_cases hd : (i : Int) ∈ p.free.take j
          · rw [decide_eq_true hd] at y0
            obtain rfl : R = false := HR.out.symm.trans (ok_dup hjf (by rw [HA.out]; exact hd))
            clear hd hr
            go_wp2_with fail
            go_ret
            exact ⟨rfl, HW.out.low⟩
          · have hst := HW.out.next hjf HA.out hi hr hd
            have HST := Lib.hid hst
            have z0 := HW.out.arr.fz i
            rw [decide_eq_false hd] at y0
            clear hd hst hr
            go_wp2_with fail
            go_roundw
            case rel => exact ⟨j + 1, by go_num, by omega, HST.out⟩
            case measure => simp [intOf]; omega
        · obtain rfl : R = false := HR.out.symm.trans (ok_rng hjf (by rw [HA.out, HN.out]; omega))
          have hrc : decide (a < 0) = true ∨ (decide (a < 0) = false ∧ decide ((n : Int) ≤ a) = true) := by
            simp only [decide_eq_true_eq, decide_eq_false_iff_not]
            omega
          clear hr
          rcases hrc with d4 | ⟨d4, d5⟩
          all_goals
            go_wp2_with fail
            go_ret
            exact ⟨rfl, HW.out.low⟩
      · obtain rfl : j = m := by omega
        clear hw hlt
        go_upto_region 12 with (fail)
        clear x0
        go_loopw [51] (fun iv W => ∃ k : Nat, iv = .int .i64 k ∧ k ≤ n ∧ MayT w p A A2 n j c c2 k W) (fun iv _ => n - (intOf iv).toNat)
        case atStart => exact ⟨0, rfl, by omega, HW.out, fun i h h0 => absurd h0 (by omega)⟩
        case round =>
          clear HW
          obtain ⟨k, rfl, hk, hw⟩ := hrel
          have HW := Lib.hid hw
          have x0 := hw.s.pen.cell 0
          simp at x0
          have hk0 : (0 : Int) ≤ k := by omega
          by_cases hlt : k < n
          · have hkn : k < p.cells.length := by rw [HN.out]; exact hlt
            have hlt2 : (k : Int) < n := by omega
            have hk2 : (k : Int) < 1024 := by omega
            obtain ⟨b, off, rfl, -, cs, -, -, -, k0, k1, -, -⟩ := (HP.out.cells.below hw.s.low HBW.out).cel hkn
            have y0 := hw.s.arr.cell k
            rw [marks_at _ (by omega), List.take_of_length_le (by rw [HM.out]; exact Nat.le_refl _)] at y0
            obtain ⟨g, hg⟩ : ∃ g, p.cells[k].gen = g := ⟨_, rfl⟩
            obtain ⟨u, hu⟩ : ∃ u, p.cells[k].used = u := ⟨_, rfl⟩
            rw [hg] at k0
            rw [hu] at k1
            by_cases hd : (k : Int) ∈ p.free
            all_goals
              first
                | rw [decide_eq_true hd] at y0
                | rw [decide_eq_false hd] at y0
              cases u
            case pos.true | neg.false =>
              obtain rfl : R = false := HR.out.symm.trans (ok_cel hkn (.inl (by rw [hu]; simp [hd])))
              clear hd hg hu
              go_wp2_with fail
              go_quiet (fail)
              go_wp2_with fail
              go_ret
              exact ⟨rfl, below_drewN HW.out.s.low _⟩
            all_goals
              by_cases hgr : 0 ≤ g ∧ g < 4294967296
              · have HNX := Lib.hid (HW.out.next hkn (by rw [hu]; simp [hd]) (by rw [hg]; exact hgr))
                have d4 : decide (g < 0) = false := decide_eq_false (by omega)
                have d5 : decide (4294967296 ≤ g) = false := decide_eq_false (by omega)
                clear hd hg hu hgr
                go_wp2_with fail
                go_quiet (fail)
                go_wp2_with fail
                go_roundw
                case rel => exact ⟨k + 1, by go_num, by omega, HNX.out.drewN _⟩
                case measure => simp [intOf]; omega
              · obtain rfl : R = false := HR.out.symm.trans (ok_cel hkn (.inr (by rw [hg]; omega)))
                have hgc : decide (g < 0) = true ∨ (decide (g < 0) = false ∧ decide (4294967296 ≤ g) = true) := by
                  simp only [decide_eq_true_eq, decide_eq_false_iff_not]
                  omega
                clear hd hg hu hgr
                rcases hgc with d4 | ⟨d4, d5⟩
                all_goals
                  go_wp2_with fail
                  go_quiet (fail)
                  go_wp2_with fail
                  go_ret
                  exact ⟨rfl, below_drewN HW.out.s.low _⟩
          · obtain rfl : k = n := by omega
            obtain rfl : R = true := HR.out.symm.trans (hw.ok HN.out HM.out HT.out)
            clear hw
            go_wp2_with fail
            go_ret
            exact ⟨rfl, HW.out.s.low⟩
  · obtain rfl : R = false := HR.out.symm.trans (ok_top ht)
    clear ht
    rcases hcs with d1 | ⟨d1, d2⟩ | ⟨d1, d2, d3⟩
    all_goals
      go_enter Try.func27, Try.ntmps27
      go_wp2_with fail
      go_ret
      exact ⟨rfl, hb0⟩
end Go.Proofs.Ytkpjlobpaippdaa
