/- Layer 12: the document's May; whether a pen is small. -/
import Derived.Test.YtjibkgildfjjoaaGreatDoorzYb
namespace Go.Proofs.YtjibkgildfjjoaaGreatDoor
set_option linter.unusedVariables false
set_option linter.unusedSimpArgs false
open Go.RowKit Go.ChangeShapes Go.WideShapes Go.ChangeAt Go.Sort

/-- How often the first numbers are in a list, all in all. -/
def sumC (l : List Int) : Nat → Nat
  | 0 => 0
  | n + 1 => sumC l n + l.count (n : Int)
/-- How many of the first cells are not used. -/
def unN (l : List Cel) : Nat → Nat
  | 0 => 0
  | n + 1 => unN l n + if (l.getD n cel0).used then 0 else 1
def inB (n : Nat) (a : Int) : Bool := decide (0 ≤ a) && decide (a < (n : Int))
theorem sumC_cons (a : Int) (l : List Int) : ∀ n, sumC (a :: l) n = sumC l n + if inB n a then 1 else 0
  | 0 => by
    have : inB 0 a = false := by unfold inB; rw [Bool.eq_false_iff]; simp; try omega
    simp [sumC, this]
  | n + 1 => by
    have ih := sumC_cons a l n
    simp only [sumC, ih, List.count_cons]
    by_cases h : a = (n : Int)
    · subst h
      have h1 : inB n (n : Int) = false := by unfold inB; simp
      have h2 : inB (n + 1) (n : Int) = true := by unfold inB; simp; try omega
      simp [h1, h2]
      omega
    · have h1 : inB (n + 1) a = inB n a := by
        unfold inB
        rw [Bool.eq_iff_iff]
        simp only [Bool.and_eq_true, decide_eq_true_eq]
        omega
      rw [h1]
      have h2 : (a == (n : Int)) = false := by simpa using h
      simp [h2]
      omega
theorem sumC_len : ∀ (l : List Int) (n : Nat), sumC l n = (l.filter (inB n)).length
  | [], n => by
    induction n with
    | zero => rfl
    | succ n ih => simpa [sumC] using ih
  | a :: l, n => by
    rw [sumC_cons, sumC_len l n, List.filter_cons]
    split <;> simp
theorem sumC_un {p : Zp} : ∀ (k : Nat), k ≤ p.cells.length → (∀ i (h : i < p.cells.length), i < k → p.free.count (i : Int) = if p.cells[i].used then 0 else 1) → sumC p.free k = unN p.cells k
  | 0, _, _ => rfl
  | k + 1, hk, h => by
    have ih := sumC_un k (by omega) (fun i hi hik => h i hi (by omega))
    have h1 := h k (by omega) (by omega)
    simp only [sumC, unN, ih, h1]
    rw [List.getD_eq_getElem?_getD, List.getElem?_eq_getElem (by omega), Option.getD_some]
/-- A cell as the document has it. -/
def celOk (p : Zp) (i : Nat) : Prop := 0 ≤ (p.cells.getD i cel0).gen ∧ (p.cells.getD i cel0).gen < 4294967296 ∧ p.free.count (i : Int) = if (p.cells.getD i cel0).used then 0 else 1
theorem ok_doc (p : Zp) : OkZ p ↔ topZ p ∧ (∀ i, i < p.cells.length → celOk p i) ∧ p.free.length = unN p.cells p.cells.length := by
  have hg : ∀ i (h : i < p.cells.length), p.cells.getD i cel0 = p.cells[i] := fun i h => by
    rw [List.getD_eq_getElem?_getD, List.getElem?_eq_getElem h, Option.getD_some]
  have key : ∀ (h : ∀ i, i < p.cells.length → celOk p i), (p.free.filter (inB p.cells.length)).length = unN p.cells p.cells.length := fun h => by
    rw [← sumC_len]
    refine sumC_un _ (Nat.le_refl _) fun i hi _ => ?_
    have := (h i hi).2.2
    rwa [hg i hi] at this
  constructor
  · intro k
    have hc : ∀ i, i < p.cells.length → celOk p i := fun i hi => by
      refine ⟨?_, ?_, ?_⟩
      · rw [hg i hi]; exact (k.gen i hi).1
      · rw [hg i hi]; exact (k.gen i hi).2
      · rw [hg i hi]
        have hu := k.use i hi
        have h1 := List.nodup_iff_count.1 k.nod (i : Int)
        by_cases e : (i : Int) ∈ p.free
        · have h2 : 0 < p.free.count (i : Int) := List.count_pos_iff.2 e
          have : p.cells[i].used = false := by
            cases h9 : p.cells[i].used
            · rfl
            · exact absurd e (hu.1 h9)
          rw [this]
          simp
          omega
        · rw [hu.2 e, List.count_eq_zero.2 e]
          rfl
    refine ⟨k.top, hc, ?_⟩
    rw [← key hc, List.filter_eq_self.2]
    intro a ha
    have := k.rng a ha
    unfold inB
    simp only [Bool.and_eq_true, decide_eq_true_eq]
    exact this
  · rintro ⟨ht, hc, hl⟩
    have hall : ∀ a ∈ p.free, inB p.cells.length a = true := by
      have h1 := key hc
      rw [← hl] at h1
      exact List.filter_eq_self.1 (List.filter_sublist.eq_of_length h1)
    have hr : ∀ a ∈ p.free, 0 ≤ a ∧ a < (p.cells.length : Int) := fun a ha => by
      have := hall a ha
      unfold inB at this
      simpa using this
    refine ⟨ht, hr, ?_, fun i hi => ?_, fun i hi => ?_⟩
    · rw [List.nodup_iff_count]
      intro a
      by_cases ha : a ∈ p.free
      · have h2 := hr a ha
        obtain ⟨i, rfl⟩ : ∃ i : Nat, a = i := ⟨a.toNat, by omega⟩
        have h3 := (hc i (by omega)).2.2
        split at h3 <;> omega
      · rw [List.count_eq_zero.2 ha]
        omega
    · have h3 := (hc i hi).2.2
      rw [hg i hi] at h3
      constructor
      · intro hu
        rw [hu] at h3
        exact List.count_eq_zero.1 h3
      · intro hm
        rw [List.count_eq_zero.2 hm] at h3
        cases h9 : p.cells[i].used
        · rw [h9] at h3; simp at h3
        · rfl
    · have h3 := hc i hi
      unfold celOk at h3
      rw [hg i hi] at h3
      exact ⟨h3.1, h3.2.1⟩
theorem ok_celno {p : Zp} {i : Nat} (hi : i < p.cells.length) (h : ¬ celOk p i) : okZ p = false := okZ_no fun k => h (((ok_doc p).1 k).2.1 i hi)

set_option maxHeartbeats 1000000 in
set_option maxRecDepth 100000 in
theorem rcount_z {A : Option Addr} {l : List Int} {B n : Nat} (c : Nat) (a : Int) (w : World) (hn : l.length = n) (h : IAt w B A l) (hl : n ≤ 100000) (hB : B ≤ w.heap.size) :
    Calls Tryz.prog 81 #[.slice A n c, .int .i64 a] w fun e w' => e = .returned (.int .i64 (l.count a : Nat)) ∧ w = w' := by
  have HI := Lib.hid h
  have HN := Lib.hid hn
  have hnI : (n : Int) ≤ 100000 := by omega
  clear h hn
  go_enter Tryz.func81, Tryz.ntmps81
  go_wp2_with fail
  go_loopw [5, 6] (fun kv iv W => ∃ j k : Nat, kv = .int .i64 k ∧ iv = .int .i64 j ∧ j ≤ n ∧ k ≤ j ∧ k = (l.take j).count a ∧ W = w) (fun _ iv _ => n - (intOf iv).toNat)
  case atStart => exact ⟨0, 0, rfl, rfl, by omega, by omega, by simp, rfl⟩
  case round =>
    obtain ⟨j, k, rfl, rfl, hj, hkj, hk, rfl⟩ := hrel
    have HK := Lib.hid hk
    have hj0 : (0 : Int) ≤ j := by omega
    have hk0 : (0 : Int) ≤ k := by omega
    have hk1 : (k : Int) ≤ 100000 := by omega
    clear hk
    by_cases hlt : j < n
    · have hjl : j < l.length := by rw [HN.out]; exact hlt
      have hlt2 : (j : Int) < n := by omega
      obtain ⟨b, off, rfl, _, hc⟩ := HI.out (by omega)
      have k0 := hc j hjl
      have T := Lib.hid (List.take_succ_eq_append_getElem hjl)
      generalize l[j] = x at *
      clear hc
      by_cases hx : x = a
      · have e1 : (x == a) = true := by simpa using hx
        have hnx : k + 1 = (l.take (j + 1)).count a := by
          rw [T.out, List.count_append, ← HK.out, hx]
          simp
        have HX := Lib.hid hnx
        clear hx hnx
        go_wp2_with fail
        go_roundw
        case rel => exact ⟨j + 1, k + 1, by go_num, by go_num, by omega, by omega, HX.out, trivial⟩
        case measure => simp [intOf]; omega
      · have e1 : (x == a) = false := by simpa using hx
        have hnx : k = (l.take (j + 1)).count a := by
          rw [T.out, List.count_append, ← HK.out]
          simp [List.count_cons, e1]
        have HX := Lib.hid hnx
        clear hx hnx
        go_wp2_with fail
        go_roundw
        case rel => exact ⟨j + 1, k, rfl, by go_num, by omega, by omega, HX.out, trivial⟩
        case measure => simp [intOf]; omega
    · obtain rfl : j = n := by omega
      have hkl : k = l.count a := by
        have := HK.out
        rwa [List.take_of_length_le (by rw [HN.out]; exact Nat.le_refl _)] at this
      go_wp2_with fail
      go_ret
      exact ⟨by rw [hkl]; rfl, rfl⟩
set_option maxHeartbeats 4000000 in
set_option maxRecDepth 100000 in
theorem rmay_z {A A2 : Option Addr} {p : Zp} {B n m : Nat} (c c2 : Nat) (w : World) (hn : p.cells.length = n) (hm : p.free.length = m) (h : PAtZ w B A A2 p) (hl : n ≤ 100000) (hl2 : m ≤ 100000) (hB : B ≤ w.heap.size) :
    Calls Tryz.prog 51 #[pv A n c A2 m c2 p.most] w fun e w' => e = .returned (.bool (okZ p)) ∧ Below w.heap.size w w' := by
  have hb0 : Below w.heap.size w (w.alloc (.cells (pc A n c A2 m c2 p.most) 32)) := (Below.refl _ _).alloc (Nat.le_refl _) _
  have g1 := Held.new w 32 (pc A n c A2 m c2 p.most)
  have HP := Lib.hid (h.below hb0 hB)
  have HN := Lib.hid hn
  have HM := Lib.hid hm
  have HBW := Lib.hid hB
  have hnI : (n : Int) ≤ 100000 := by omega
  have hmI : (m : Int) ≤ 100000 := by omega
  have hcs : (topZ p ∧ decide (p.most < 1) = false ∧ decide (1024 < p.most) = false ∧ decide (p.most < (n : Int)) = false) ∨ (¬ topZ p ∧ (decide (p.most < 1) = true ∨ (decide (p.most < 1) = false ∧ decide (1024 < p.most) = true) ∨ (decide (p.most < 1) = false ∧ decide (1024 < p.most) = false ∧ decide (p.most < (n : Int)) = true))) := by
    unfold topZ
    simp only [decide_eq_true_eq, decide_eq_false_iff_not, hn]
    omega
  obtain ⟨R, hR⟩ : ∃ R, okZ p = R := ⟨_, rfl⟩
  rw [hR]
  have HR := Lib.hid hR
  clear h hn hm hR
  rcases hcs with ⟨ht, d1, d2, d3⟩ | ⟨ht, hcs⟩
  · have HT := Lib.hid ht
    clear ht
    go_enter Tryz.func51, Tryz.ntmps51
    go_upto_region 3 with (fail)
    generalize w.alloc (.cells (pc A n c A2 m c2 p.most) 32) = W0 at *
    have hbs := Nat.le_trans hB hb0.size
    go_upto_region 5 with (fail)
    go_loopw [3, 4] (fun fv iv W => ∃ j k : Nat, fv = .int .i64 k ∧ iv = .int .i64 j ∧ j ≤ n ∧ k ≤ j ∧ k = unN p.cells j ∧ (∀ i, i < j → celOk p i) ∧ W = W0) (fun _ iv _ => n - (intOf iv).toNat)
    case atStart => exact ⟨0, 0, rfl, rfl, by omega, by omega, rfl, fun i hi => absurd hi (by omega), rfl⟩
    case round =>
      obtain ⟨j, k, rfl, rfl, hj, hkj, hk, hall, rfl⟩ := hrel
      have HK := Lib.hid hk
      have HA := Lib.hid hall
      have hj0 : (0 : Int) ≤ j := by omega
      have hk0 : (0 : Int) ≤ k := by omega
      have hk1 : (k : Int) ≤ 100000 := by omega
      have x0 := g1.cell 0
      have x1 := g1.cell 1
      simp at x0 x1
      clear hk hall
      by_cases hlt : j < n
      · have hjn : j < p.cells.length := by rw [HN.out]; exact hlt
        have hlt2 : (j : Int) < n := by omega
        obtain ⟨b, off, rfl, -, cs, -, -, -, k0, k1, -, -⟩ := HP.out.cells.cel hjn
        have hgd : p.cells.getD j cel0 = p.cells[j] := by rw [List.getD_eq_getElem?_getD, List.getElem?_eq_getElem hjn, Option.getD_some]
        obtain ⟨g, hg⟩ : ∃ g, p.cells[j].gen = g := ⟨_, rfl⟩
        obtain ⟨u, hu⟩ : ∃ u, p.cells[j].used = u := ⟨_, rfl⟩
        rw [hg] at k0
        rw [hu] at k1
        have CO := Lib.hid (show celOk p j ↔ 0 ≤ g ∧ g < 4294967296 ∧ p.free.count (j : Int) = if u = true then 0 else 1 by unfold celOk; rw [hgd, hg, hu])
        have UN : Hid (∀ v, k + (if u = true then 0 else 1) = v → v = unN p.cells (j + 1)) := Lib.hid (by
          intro v e
          rw [← e]
          show _ = unN p.cells j + _
          rw [hgd, hu, HK.out])
        have CT := rcount_z c2 (j : Int) wr HM.out HP.out.free hl2 hbs
        have hcz : p.free.count (j : Int) ≤ m := by rw [← HM.out]; exact List.count_le_length
        generalize p.free.count (j : Int) = cn at *
        have hcI : (cn : Int) ≤ 100000 := by omega
        clear hg hu hgd
        by_cases hgr : 0 ≤ g ∧ g < 4294967296
        · have d4 : decide (g < 0) = false := decide_eq_false (by omega)
          have d5 : decide (4294967296 ≤ g) = false := decide_eq_false (by omega)
          by_cases hc : cn = if u = true then 0 else 1
          · have hok := CO.out.2 ⟨hgr.1, hgr.2, hc⟩
            have HOK := Lib.hid hok
            cases u
            all_goals
              simp only [if_true, if_false, Bool.false_eq_true] at hc
              subst hc
              clear hgr hok
              go_wp2_with (go_at_call 81; (with_reducible refine CT.mono ?_); rintro _ u9 ⟨rfl, rfl⟩)
              go_roundw
              case rel =>
                have hl9 : ∀ i, i < j + 1 → celOk p i := fun i hi => by
                  by_cases e : i = j
                  · subst e; exact HOK.out
                  · exact HA.out i (by omega)
                first
                  | exact ⟨j + 1, k + 1, by go_num, by go_num, by omega, by omega, UN.out _ (by simp), hl9, trivial⟩
                  | exact ⟨j + 1, k, by first | rfl | go_num, by go_num, by omega, by omega, UN.out _ (by simp), hl9, trivial⟩
              case measure => simp [intOf]; omega
          · obtain rfl : R = false := HR.out.symm.trans (ok_celno hjn fun k => hc (CO.out.1 k).2.2)
            cases u
            all_goals
              simp only [if_true, if_false, Bool.false_eq_true] at hc
              have e9 := hc
              clear hgr hc
              go_wp2_with (go_at_call 81; (with_reducible refine CT.mono ?_); rintro _ u9 ⟨rfl, rfl⟩)
              go_ret
              exact ⟨rfl, hb0⟩
        · obtain rfl : R = false := HR.out.symm.trans (ok_celno hjn fun k => hgr ⟨(CO.out.1 k).1, (CO.out.1 k).2.1⟩)
          have hgc : decide (g < 0) = true ∨ (decide (g < 0) = false ∧ decide (4294967296 ≤ g) = true) := by
            simp only [decide_eq_true_eq, decide_eq_false_iff_not]
            omega
          clear hgr
          rcases hgc with d4 | ⟨d4, d5⟩
          all_goals
            cases u
            all_goals
              go_wp2_with fail
              go_ret
              exact ⟨rfl, hb0⟩
      · obtain rfl : j = n := by omega
        have hok : R = decide (m = k) := by
          rw [← HR.out, Bool.eq_iff_iff, okZ_iff, ok_doc, decide_eq_true_eq, HN.out, HM.out, HK.out]
          exact ⟨fun h => h.2.2, fun h => ⟨HT.out, HA.out, h⟩⟩
        by_cases e : m = k
        · rw [decide_eq_true e] at hok
          subst hok e
          clear hlt
          go_wp2_with fail
          go_ret
          exact ⟨rfl, hb0⟩
        · rw [decide_eq_false e] at hok
          subst hok
          have e3 : ((m : Int) == (k : Int)) = false := by
            rw [beq_eq_false_iff_ne]
            omega
          clear hlt
          go_wp2_with fail
          go_ret
          exact ⟨rfl, hb0⟩
  · obtain rfl : R = false := HR.out.symm.trans (ok_top ht)
    clear ht
    rcases hcs with d1 | ⟨d1, d2⟩ | ⟨d1, d2, d3⟩
    all_goals
      go_enter Tryz.func51, Tryz.ntmps51
      go_wp2_with fail
      go_ret
      exact ⟨rfl, hb0⟩
end Go.Proofs.YtjibkgildfjjoaaGreatDoor

/- Layer 12: whether a pen is small; the document's copy. -/
namespace Go.Proofs.YtjibkgildfjjoaaGreatDoor
set_option linter.unusedVariables false
set_option linter.unusedSimpArgs false
open Go.RowKit Go.ChangeShapes Go.WideShapes Go.ChangeAt Go.Sort

theorem sm_frm {f : Frm} (h : smB f = true) : FrmLen f := by
  unfold smB at h
  simp only [Bool.and_eq_true, decide_eq_true_eq] at h
  exact ⟨by omega, by omega, by omega⟩
theorem sm_len {p : Zp} {k : Nat} (h : smZ p k = true) (hk : k ≤ 1000) : LenZ p := by
  unfold smZ at h
  simp only [Bool.and_eq_true, decide_eq_true_eq, List.all_eq_true] at h
  exact ⟨by omega, by omega, fun i hi => sm_frm (h.2 _ (List.getElem_mem hi))⟩
theorem sm_no {p : Zp} {k j : Nat} (hj : j < p.cells.length) (h : smB p.cells[j].frm = false) : smZ p k = false := by
  rw [Bool.eq_false_iff]
  intro e
  unfold smZ at e
  simp only [Bool.and_eq_true, List.all_eq_true] at e
  rw [e.2 _ (List.getElem_mem hj)] at h
  cases h
set_option maxHeartbeats 1000000 in
set_option maxRecDepth 100000 in
theorem rsmallf_y {B : Nat} {v : Value} {f : Frm} (w : World) (h : FrmAt w B v f) :
    Calls Tryz.prog 54 #[v] w fun e w' => e = .returned (.bool (smB f)) ∧ Below w.heap.size w w' := by
  obtain ⟨A1, c1, A2, c2, A3, c3, rfl, h1, h2, h3⟩ := h
  unfold smB
  clear h1 h2 h3
  generalize f.stk.length = n1
  generalize f.loc.length = n2
  generalize f.slt.length = n3
  by_cases e1 : n1 ≤ 40
  · by_cases e2 : n2 ≤ 40
    · by_cases e3 : n3 ≤ 40
      all_goals
        go_enter Tryz.func54, Tryz.ntmps54
        go_wp2_with fail
        go_ret
        exact ⟨ret_bool (by simp [e1, e2, e3]; omega), by go_grown⟩
    · go_enter Tryz.func54, Tryz.ntmps54
      go_wp2_with fail
      go_ret
      exact ⟨ret_bool (by simp [e1, e2]), by go_grown⟩
  · go_enter Tryz.func54, Tryz.ntmps54
    go_wp2_with fail
    go_ret
    exact ⟨ret_bool (by simp [e1]), by go_grown⟩
set_option maxHeartbeats 2000000 in
set_option maxRecDepth 100000 in
theorem rsmall_z {A A2 : Option Addr} {p : Zp} {B n m : Nat} (c c2 : Nat) (w : World) (hn : p.cells.length = n) (hm : p.free.length = m) (h : PAtZ w B A A2 p) (hl : n ≤ maxLen) (hl2 : m ≤ maxLen) (hB : B ≤ w.heap.size) :
    Calls Tryz.prog 27 #[pv A n c A2 m c2 p.most, .int .i64 30] w fun e w' => e = .returned (.bool (smZ p 30)) ∧ Below w.heap.size w w' := by
  have hb0 : Below w.heap.size w (w.alloc (.cells (pc A n c A2 m c2 p.most) 32)) := (Below.refl _ _).alloc (Nat.le_refl _) _
  have g1 := Held.new w 32 (pc A n c A2 m c2 p.most)
  have HP := Lib.hid (h.below hb0 hB)
  have HN := Lib.hid hn
  have HM := Lib.hid hm
  obtain ⟨R, hR⟩ : ∃ R, smZ p 30 = R := ⟨_, rfl⟩
  rw [hR]
  have HR := Lib.hid hR
  by_cases hn30 : n ≤ 30
  · have d1 : decide (n ≤ 30) = true := decide_eq_true hn30
    have hnI : (n : Int) ≤ 30 := by omega
    clear h hn hm hR
    go_enter Tryz.func27, Tryz.ntmps27
    go_upto_region 1 with (fail)
    generalize w.alloc (.cells (pc A n c A2 m c2 p.most) 32) = W0 at *
    have hbs := Nat.le_trans hB hb0.size
    go_upto_region 2 with (fail)
    go_loopw [5] (fun iv W => ∃ j : Nat, iv = .int .i64 j ∧ j ≤ n ∧ (∀ i (h : i < p.cells.length), i < j → smB p.cells[i].frm = true) ∧ Below W0.heap.size W0 W) (fun iv _ => n - (intOf iv).toNat)
    case atStart => exact ⟨0, rfl, by omega, fun i hi h0 => absurd h0 (by omega), Below.refl _ _⟩
    case round =>
      obtain ⟨j, rfl, hj, hall, hw⟩ := hrel
      have HA := Lib.hid hall
      have HW := Lib.hid hw
      have hj0 : (0 : Int) ≤ j := by omega
      have x0 := (g1.below hw).cell 0
      have x1 := (g1.below hw).cell 1
      simp at x0 x1
      clear hall hw
      by_cases hlt : j < n
      · have hjn : j < p.cells.length := by rw [HN.out]; exact hlt
        have hlt2 : (j : Int) < n := by omega
        obtain ⟨b, off, rfl, -, cs, s1, -, hf, -, -, hr, -⟩ := (HP.out.below HW.out hbs).cells.cel hjn
        have SM := Lib.hid (rsmallf_y _ hf)
        have HR2 := Lib.hid hr
        have S1 := Lib.hid s1
        obtain ⟨u, hu⟩ : ∃ u, smB p.cells[j].frm = u := ⟨_, rfl⟩
        rw [hu] at SM
        cases u with
        | false =>
          obtain rfl : R = false := HR.out.symm.trans (sm_no hjn hu)
          clear s1 hf hr hu
          go_wp2_with (first
            | (refine wpList_load_midA rfl 60 _ rfl b (off + j * 18 + 2) rfl cs _ HR2.out Tryz.underlying60 rfl (by rw [S1.out]; kernel_rfl) ?_)
            | (go_at_call 54; (with_reducible refine SM.out.mono ?_); rintro _ u9 ⟨rfl, hb9⟩))
          go_ret
          exact ⟨rfl, Below.step hb0 (Below.step HW.out hb9)⟩
        | true =>
          have HU := Lib.hid hu
          clear s1 hf hr hu
          go_wp2_with (first
            | (refine wpList_load_midA rfl 60 _ rfl b (off + j * 18 + 2) rfl cs _ HR2.out Tryz.underlying60 rfl (by rw [S1.out]; kernel_rfl) ?_)
            | (go_at_call 54; (with_reducible refine SM.out.mono ?_); rintro _ u9 ⟨rfl, hb9⟩))
          go_roundw
          case rel => exact ⟨j + 1, by go_num, by omega, fun i hi h0 => by
            by_cases e : i = j
            · subst e; exact HU.out
            · exact HA.out i hi (by omega), Below.step HW.out hb9⟩
          case measure => simp [intOf]; omega
      · obtain rfl : j = n := by omega
        have hok : R = decide (m ≤ 30) := by
          rw [← HR.out, Bool.eq_iff_iff, decide_eq_true_eq]
          unfold smZ
          simp only [Bool.and_eq_true, decide_eq_true_eq, List.all_eq_true, HN.out, HM.out]
          refine ⟨fun h => h.1.2, fun h => ⟨⟨hn30, h⟩, fun x hx => ?_⟩⟩
          obtain ⟨i, hi, rfl⟩ := List.mem_iff_getElem.1 hx
          exact HA.out i hi (by have := HN.out; omega)
        have hmI : ((m : Int) ≤ 30) = (m ≤ 30) := by rw [eq_iff_iff]; omega
        clear hlt
        by_cases e : m ≤ 30
        · have d2 : decide (m ≤ 30) = true := decide_eq_true e
          obtain rfl : R = true := hok.trans d2
          clear e hok
          go_wp2_with fail
          go_ret
          exact ⟨rfl, Below.step hb0 HW.out⟩
        · have d2 : decide (m ≤ 30) = false := decide_eq_false e
          obtain rfl : R = false := hok.trans d2
          clear e hok
          go_wp2_with fail
          go_ret
          exact ⟨rfl, Below.step hb0 HW.out⟩
  · have d1 : decide (n ≤ 30) = false := decide_eq_false hn30
    obtain rfl : R = false := by
      rw [← HR.out]
      unfold smZ
      rw [HN.out, d1]
      rfl
    have hn0 : (0 : Int) < n := by omega
    have d1i : decide ((n : Int) ≤ 30) = false := decide_eq_false (by omega)
    have hn0' : 0 < n := by omega
    clear h hn hm hR hn30
    go_enter Tryz.func27, Tryz.ntmps27
    go_upto_region 1 with (fail)
    generalize w.alloc (.cells (pc A n c A2 m c2 p.most) 32) = W0 at *
    have x0 := g1.cell 0
    have x1 := g1.cell 1
    simp at x0 x1
    go_upto_region 2 with (fail)
    go_loopw [5] (fun iv W => iv = .int .i64 0 ∧ W = W0) (fun iv _ => 0)
    case atStart => exact ⟨rfl, rfl⟩
    case round =>
      obtain ⟨rfl, rfl⟩ := hrel
      go_wp2_with fail

      go_ret
      exact ⟨rfl, hb0⟩
end Go.Proofs.YtjibkgildfjjoaaGreatDoor

