/- Layer 12: comparisons of lists, at every input. -/
import Derived.Test.YtkpjlobpaippdaaYb
import Derived.Test.YtkpjlobpaippdaaNc
import Derived.Test.YtkpjlobpaippdaaVal
namespace Go.Proofs.Ytkpjlobpaippdaa
set_option linter.unusedVariables false
set_option linter.unusedSimpArgs false
open Go.RowKit Go.ChangeShapes Go.WideShapes Go.ChangeAt Go.Sort

abbrev sv (x : Slt) : Value := .agg #[.int .i64 x.st, .int .i64 x.kat, .int .i64 x.kgn, .int .i64 x.tr, .int .i64 x.re, .int .i64 x.im]
set_option maxHeartbeats 1000000 in
theorem neqs_run (x y : Slt) (W : World) : (binOp .neq 72 (sv x) (sv y)).run Try.prog W = .ok (.bool (decide (x ≠ y))) W := by
  obtain ⟨a, b, c, d, e, f⟩ := x
  obtain ⟨g, h, i, j, k, l⟩ := y
  by_cases h1 : a = g
  case neg => simp [go_sem, h1]
  by_cases h2 : b = h
  case neg => simp [go_sem, h1, h2]
  by_cases h3 : c = i
  case neg => simp [go_sem, h1, h2, h3]
  by_cases h4 : d = j
  case neg => simp [go_sem, h1, h2, h3, h4]
  by_cases h5 : e = k
  case neg => simp [go_sem, h1, h2, h3, h4, h5]
  by_cases h6 : f = l
  case neg => simp [go_sem, h1, h2, h3, h4, h5, h6]
  subst h1 h2 h3 h4 h5 h6
  simp [go_sem]
set_option maxHeartbeats 1000000 in
set_option maxRecDepth 100000 in
theorem svals_z {A A2 : Option Addr} {l k : List V} {B B' n m : Nat} (c c2 : Nat) (w : World) (hn : l.length = n) (hm : k.length = m) (h1 : VAt w B A l) (h2 : VAt w B' A2 k) (hl : n ≤ 100000) (hk : m ≤ 100000) :
    Calls Try.prog 49 #[.slice A n c, .slice A2 m c2] w fun e w' => e = .returned (.bool (decide (l = k))) ∧ Below w.heap.size w w' := by
  subst hn hm
  have H1 := Lib.hid h1
  have H2 := Lib.hid h2
  clear h1 h2
  by_cases hlen : l.length = k.length
  · have hl2 : (l.length : Int) ≤ 100000 := by omega
    have ne : ((l.length : Int) != (k.length : Int)) = false := by simp [hlen]
    have HLN := Lib.hid hlen
    obtain ⟨R, hR⟩ : ∃ R : Bool, R = decide (l = k) := ⟨_, rfl⟩
    rw [← hR]
    have HR := Lib.hid hR
    clear hR hlen
    go_enter Try.func49, Try.ntmps49
    go_wp2_with fail
    go_loopw [13] (fun iv W => ∃ j : Nat, iv = .int .i64 j ∧ j ≤ l.length ∧ l.take j = k.take j ∧ Below w.heap.size w W) (fun iv _ => l.length - (intOf iv).toNat)
    case atStart => exact ⟨0, rfl, by omega, by simp, Below.refl _ _⟩
    case round =>
      obtain ⟨j, rfl, hj, htk, hw⟩ := hrel
      have HTK := Lib.hid htk
      clear htk
      by_cases hlt : j < l.length
      · have hltk : j < k.length := by have := HLN.out; omega
        obtain ⟨b1, off1, rfl, _, hc1⟩ := H1.out (by omega)
        obtain ⟨b2, off2, rfl, _, hc2⟩ := H2.out (by omega)
        obtain ⟨a0, a1⟩ := hc1 j hlt
        obtain ⟨d0, d1⟩ := hc2 j hltk
        have lb1 := block_lt_of_cell a0
        replace a0 := (hw.cell (p := ⟨b1, off1 + j * 2, none⟩) lb1).trans a0
        replace a1 := (hw.cell (p := ⟨b1, off1 + j * 2 + 1, none⟩) lb1).trans a1
        have lb2 := block_lt_of_cell d0
        replace d0 := (hw.cell (p := ⟨b2, off2 + j * 2, none⟩) lb2).trans d0
        replace d1 := (hw.cell (p := ⟨b2, off2 + j * 2 + 1, none⟩) lb2).trans d1
        clear hc1 hc2
        have T1 := Lib.hid (List.take_succ_eq_append_getElem hlt)
        have T2 := Lib.hid (List.take_succ_eq_append_getElem hltk)
        have G1 := Lib.hid (List.getElem?_eq_getElem hlt)
        have G2 := Lib.hid (List.getElem?_eq_getElem hltk)
        have hlt2 : (j : Int) < l.length := by omega
        have hltk2 : (j : Int) < k.length := by omega
        have hj0 : (0 : Int) ≤ j := Int.natCast_nonneg j
        generalize l[j] = v at *
        generalize k[j] = u at *
        by_cases hvu : v = u
        · subst hvu
          have NE : ∀ W, (binOp .neq 31 (gv v.1 v.2) (gv v.1 v.2)).run Try.prog W = .ok (.bool false) W := fun W => by rw [neqv_run]; simp
          go_wp2_with fail
          go_quiet (fail)
          go_wp2_with fail
          go_roundw
          case rel => exact ⟨j + 1, by go_num, by omega, by rw [T1.out, T2.out, HTK.out], below_drewN hw _⟩
          case measure => simp [intOf]; omega
        · have NE : ∀ W, (binOp .neq 31 (gv v.1 v.2) (gv u.1 u.2)).run Try.prog W = .ok (.bool true) W := fun W => by rw [neqv_run, decide_eq_true (show (v.1, v.2) ≠ (u.1, u.2) from hvu)]
          have hno : R = false := by
            rw [HR.out]
            refine decide_eq_false fun e => hvu ?_
            have g1 := G1.out
            rw [e, G2.out] at g1
            exact (Option.some.inj g1).symm
          subst hno
          clear hvu
          go_wp2_with fail
          go_quiet (fail)
          go_wp2_with fail
          go_ret
          exact ⟨rfl, below_drewN hw _⟩
      · obtain rfl : j = l.length := by omega
        have hyes : R = true := by
          rw [HR.out]
          refine decide_eq_true ?_
          have := HTK.out
          rwa [List.take_length, List.take_of_length_le (by rw [HLN.out]; exact Nat.le_refl _)] at this
        subst hyes
        go_wp2_with fail
        go_ret
        exact ⟨rfl, hw⟩
  · have ne : ((l.length : Int) != (k.length : Int)) = true := by simpa using fun e : (l.length : Int) = k.length => hlen (by omega)
    have hno : decide (l = k) = false := decide_eq_false fun e => hlen (by rw [e])
    rw [hno]
    clear hno hlen
    go_enter Try.func49, Try.ntmps49
    go_wp2_with fail
    go_ret
    exact ⟨rfl, Below.refl _ _⟩
set_option maxHeartbeats 1000000 in
set_option maxRecDepth 100000 in
theorem sslots_z {A A2 : Option Addr} {l k : List Slt} {B B' n m : Nat} (c c2 : Nat) (w : World) (hn : l.length = n) (hm : k.length = m) (h1 : SAt w B A l) (h2 : SAt w B' A2 k) (hl : n ≤ 100000) (hk : m ≤ 100000) :
    Calls Try.prog 50 #[.slice A n c, .slice A2 m c2] w fun e w' => e = .returned (.bool (decide (l = k))) ∧ Below w.heap.size w w' := by
  subst hn hm
  have H1 := Lib.hid h1
  have H2 := Lib.hid h2
  clear h1 h2
  by_cases hlen : l.length = k.length
  · have hl2 : (l.length : Int) ≤ 100000 := by omega
    have ne : ((l.length : Int) != (k.length : Int)) = false := by simp [hlen]
    have HLN := Lib.hid hlen
    obtain ⟨R, hR⟩ : ∃ R : Bool, R = decide (l = k) := ⟨_, rfl⟩
    rw [← hR]
    have HR := Lib.hid hR
    clear hR hlen
    go_enter Try.func50, Try.ntmps50
    go_wp2_with fail
    go_loopw [13] (fun iv W => ∃ j : Nat, iv = .int .i64 j ∧ j ≤ l.length ∧ l.take j = k.take j ∧ Below w.heap.size w W) (fun iv _ => l.length - (intOf iv).toNat)
    case atStart => exact ⟨0, rfl, by omega, by simp, Below.refl _ _⟩
    case round =>
      obtain ⟨j, rfl, hj, htk, hw⟩ := hrel
      have HTK := Lib.hid htk
      clear htk
      by_cases hlt : j < l.length
      · have hltk : j < k.length := by have := HLN.out; omega
        obtain ⟨b1, off1, rfl, _, hc1⟩ := H1.out (by omega)
        obtain ⟨b2, off2, rfl, _, hc2⟩ := H2.out (by omega)
        obtain ⟨a0, a1, a2, a3, a4, a5⟩ := hc1 j hlt
        obtain ⟨d0, d1, d2, d3, d4, d5⟩ := hc2 j hltk
        have lb1 := block_lt_of_cell a0
        replace a0 := (hw.cell (p := ⟨b1, off1 + j * 6, none⟩) lb1).trans a0
        replace a1 := (hw.cell (p := ⟨b1, off1 + j * 6 + 1, none⟩) lb1).trans a1
        replace a2 := (hw.cell (p := ⟨b1, off1 + j * 6 + 2, none⟩) lb1).trans a2
        replace a3 := (hw.cell (p := ⟨b1, off1 + j * 6 + 3, none⟩) lb1).trans a3
        replace a4 := (hw.cell (p := ⟨b1, off1 + j * 6 + 4, none⟩) lb1).trans a4
        replace a5 := (hw.cell (p := ⟨b1, off1 + j * 6 + 5, none⟩) lb1).trans a5
        have lb2 := block_lt_of_cell d0
        replace d0 := (hw.cell (p := ⟨b2, off2 + j * 6, none⟩) lb2).trans d0
        replace d1 := (hw.cell (p := ⟨b2, off2 + j * 6 + 1, none⟩) lb2).trans d1
        replace d2 := (hw.cell (p := ⟨b2, off2 + j * 6 + 2, none⟩) lb2).trans d2
        replace d3 := (hw.cell (p := ⟨b2, off2 + j * 6 + 3, none⟩) lb2).trans d3
        replace d4 := (hw.cell (p := ⟨b2, off2 + j * 6 + 4, none⟩) lb2).trans d4
        replace d5 := (hw.cell (p := ⟨b2, off2 + j * 6 + 5, none⟩) lb2).trans d5
        clear hc1 hc2
        have T1 := Lib.hid (List.take_succ_eq_append_getElem hlt)
        have T2 := Lib.hid (List.take_succ_eq_append_getElem hltk)
        have G1 := Lib.hid (List.getElem?_eq_getElem hlt)
        have G2 := Lib.hid (List.getElem?_eq_getElem hltk)
        have hlt2 : (j : Int) < l.length := by omega
        have hltk2 : (j : Int) < k.length := by omega
        have hj0 : (0 : Int) ≤ j := Int.natCast_nonneg j
        generalize l[j] = v at *
        generalize k[j] = u at *
        by_cases hvu : v = u
        · subst hvu
          have NE : ∀ W, (binOp .neq 72 (sv v) (sv v)).run Try.prog W = .ok (.bool false) W := fun W => by rw [neqs_run]; simp
          go_wp2_with fail
          go_quiet (fail)
          go_wp2_with fail
          go_roundw
          case rel => exact ⟨j + 1, by go_num, by omega, by rw [T1.out, T2.out, HTK.out], below_drewN hw _⟩
          case measure => simp [intOf]; omega
        · have NE : ∀ W, (binOp .neq 72 (sv v) (sv u)).run Try.prog W = .ok (.bool true) W := fun W => by rw [neqs_run, decide_eq_true hvu]
          have hno : R = false := by
            rw [HR.out]
            refine decide_eq_false fun e => hvu ?_
            have g1 := G1.out
            rw [e, G2.out] at g1
            exact (Option.some.inj g1).symm
          subst hno
          clear hvu
          go_wp2_with fail
          go_quiet (fail)
          go_wp2_with fail
          go_ret
          exact ⟨rfl, below_drewN hw _⟩
      · obtain rfl : j = l.length := by omega
        have hyes : R = true := by
          rw [HR.out]
          refine decide_eq_true ?_
          have := HTK.out
          rwa [List.take_length, List.take_of_length_le (by rw [HLN.out]; exact Nat.le_refl _)] at this
        subst hyes
        go_wp2_with fail
        go_ret
        exact ⟨rfl, hw⟩
  · have ne : ((l.length : Int) != (k.length : Int)) = true := by simpa using fun e : (l.length : Int) = k.length => hlen (by omega)
    have hno : decide (l = k) = false := decide_eq_false fun e => hlen (by rw [e])
    rw [hno]
    clear hno hlen
    go_enter Try.func50, Try.ntmps50
    go_wp2_with fail
    go_ret
    exact ⟨rfl, Below.refl _ _⟩
set_option maxHeartbeats 1000000 in
set_option maxRecDepth 100000 in
theorem sints_z {A A2 : Option Addr} {l k : List Int} {B B' n m : Nat} (c c2 : Nat) (w : World) (hn : l.length = n) (hm : k.length = m) (h1 : IAt w B A l) (h2 : IAt w B' A2 k) (hl : n ≤ 100000) (hk : m ≤ 100000) :
    Calls Try.prog 43 #[.slice A n c, .slice A2 m c2] w fun e w' => e = .returned (.bool (decide (l = k))) ∧ Below w.heap.size w w' := by
  subst hn hm
  have H1 := Lib.hid h1
  have H2 := Lib.hid h2
  clear h1 h2
  by_cases hlen : l.length = k.length
  · have hl2 : (l.length : Int) ≤ 100000 := by omega
    have ne : ((l.length : Int) != (k.length : Int)) = false := by simp [hlen]
    have HLN := Lib.hid hlen
    obtain ⟨R, hR⟩ : ∃ R : Bool, R = decide (l = k) := ⟨_, rfl⟩
    rw [← hR]
    have HR := Lib.hid hR
    clear hR hlen
    go_enter Try.func43, Try.ntmps43
    go_wp2_with fail
    go_loopw [13] (fun iv W => ∃ j : Nat, iv = .int .i64 j ∧ j ≤ l.length ∧ l.take j = k.take j ∧ Below w.heap.size w W) (fun iv _ => l.length - (intOf iv).toNat)
    case atStart => exact ⟨0, rfl, by omega, by simp, Below.refl _ _⟩
    case round =>
      obtain ⟨j, rfl, hj, htk, hw⟩ := hrel
      have HTK := Lib.hid htk
      clear htk
      by_cases hlt : j < l.length
      · have hltk : j < k.length := by have := HLN.out; omega
        obtain ⟨b1, off1, rfl, _, hc1⟩ := H1.out (by omega)
        obtain ⟨b2, off2, rfl, _, hc2⟩ := H2.out (by omega)
        have a0 := hc1 j hlt
        have d0 := hc2 j hltk
        have lb1 := block_lt_of_cell a0
        replace a0 := (hw.cell (p := ⟨b1, off1 + j, none⟩) lb1).trans a0
        have lb2 := block_lt_of_cell d0
        replace d0 := (hw.cell (p := ⟨b2, off2 + j, none⟩) lb2).trans d0
        clear hc1 hc2
        have T1 := Lib.hid (List.take_succ_eq_append_getElem hlt)
        have T2 := Lib.hid (List.take_succ_eq_append_getElem hltk)
        have G1 := Lib.hid (List.getElem?_eq_getElem hlt)
        have G2 := Lib.hid (List.getElem?_eq_getElem hltk)
        have hlt2 : (j : Int) < l.length := by omega
        have hltk2 : (j : Int) < k.length := by omega
        have hj0 : (0 : Int) ≤ j := Int.natCast_nonneg j
        generalize l[j] = v at *
        generalize k[j] = u at *
        by_cases hvu : v = u
        · subst hvu
          have NE : (v != v) = false := by simp
          go_wp2_with fail
          go_quiet (fail)
          go_wp2_with fail
          go_roundw
          case rel => exact ⟨j + 1, by go_num, by omega, by rw [T1.out, T2.out, HTK.out], below_drewN hw _⟩
          case measure => simp [intOf]; omega
        · have NE : (v != u) = true := by simpa using hvu
          have hno : R = false := by
            rw [HR.out]
            refine decide_eq_false fun e => hvu ?_
            have g1 := G1.out
            rw [e, G2.out] at g1
            exact (Option.some.inj g1).symm
          subst hno
          clear hvu
          go_wp2_with fail
          go_quiet (fail)
          go_wp2_with fail
          go_ret
          exact ⟨rfl, below_drewN hw _⟩
      · obtain rfl : j = l.length := by omega
        have hyes : R = true := by
          rw [HR.out]
          refine decide_eq_true ?_
          have := HTK.out
          rwa [List.take_length, List.take_of_length_le (by rw [HLN.out]; exact Nat.le_refl _)] at this
        subst hyes
        go_wp2_with fail
        go_ret
        exact ⟨rfl, hw⟩
  · have ne : ((l.length : Int) != (k.length : Int)) = true := by simpa using fun e : (l.length : Int) = k.length => hlen (by omega)
    have hno : decide (l = k) = false := decide_eq_false fun e => hlen (by rw [e])
    rw [hno]
    clear hno hlen
    go_enter Try.func43, Try.ntmps43
    go_wp2_with fail
    go_ret
    exact ⟨rfl, Below.refl _ _⟩
set_option maxHeartbeats 1000000 in
set_option maxRecDepth 100000 in
theorem rvals_z {A A2 : Option Addr} {l k : List V} {B B' n m : Nat} (c c2 : Nat) (w : World) (hn : l.length = n) (hm : k.length = m) (h1 : VAt w B A l) (h2 : VAt w B' A2 k) (hl : n ≤ 100000) (hk : m ≤ 100000) :
    Calls Try.prog 39 #[.slice A n c, .slice A2 m c2] w fun e w' => e = .returned (.bool (decide (l = k))) ∧ Below w.heap.size w w' := by
  subst hn hm
  have H1 := Lib.hid h1
  have H2 := Lib.hid h2
  clear h1 h2
  by_cases hlen : l.length = k.length
  · have hl2 : (l.length : Int) ≤ 100000 := by omega
    have ne : ((l.length : Int) != (k.length : Int)) = false := by simp [hlen]
    have HLN := Lib.hid hlen
    obtain ⟨R, hR⟩ : ∃ R : Bool, R = decide (l = k) := ⟨_, rfl⟩
    rw [← hR]
    have HR := Lib.hid hR
    clear hR hlen
    go_enter Try.func39, Try.ntmps39
    go_wp2_with fail
    go_loopw [5] (fun iv W => ∃ j : Nat, iv = .int .i64 j ∧ j ≤ l.length ∧ l.take j = k.take j ∧ Below w.heap.size w W) (fun iv _ => l.length - (intOf iv).toNat)
    case atStart => exact ⟨0, rfl, by omega, by simp, Below.refl _ _⟩
    case round =>
      obtain ⟨j, rfl, hj, htk, hw⟩ := hrel
      have HTK := Lib.hid htk
      clear htk
      by_cases hlt : j < l.length
      · have hltk : j < k.length := by have := HLN.out; omega
        obtain ⟨b1, off1, rfl, _, hc1⟩ := H1.out (by omega)
        obtain ⟨b2, off2, rfl, _, hc2⟩ := H2.out (by omega)
        obtain ⟨a0, a1⟩ := hc1 j hlt
        obtain ⟨d0, d1⟩ := hc2 j hltk
        have lb1 := block_lt_of_cell a0
        replace a0 := (hw.cell (p := ⟨b1, off1 + j * 2, none⟩) lb1).trans a0
        replace a1 := (hw.cell (p := ⟨b1, off1 + j * 2 + 1, none⟩) lb1).trans a1
        have lb2 := block_lt_of_cell d0
        replace d0 := (hw.cell (p := ⟨b2, off2 + j * 2, none⟩) lb2).trans d0
        replace d1 := (hw.cell (p := ⟨b2, off2 + j * 2 + 1, none⟩) lb2).trans d1
        clear hc1 hc2
        have T1 := Lib.hid (List.take_succ_eq_append_getElem hlt)
        have T2 := Lib.hid (List.take_succ_eq_append_getElem hltk)
        have G1 := Lib.hid (List.getElem?_eq_getElem hlt)
        have G2 := Lib.hid (List.getElem?_eq_getElem hltk)
        have hlt2 : (j : Int) < l.length := by omega
        have hltk2 : (j : Int) < k.length := by omega
        have hj0 : (0 : Int) ≤ j := Int.natCast_nonneg j
        generalize l[j] = v at *
        generalize k[j] = u at *
        by_cases hvu : v = u
        · subst hvu
          have NE : ∀ W, (binOp .neq 31 (gv v.1 v.2) (gv v.1 v.2)).run Try.prog W = .ok (.bool false) W := fun W => by rw [neqv_run]; simp
          go_wp2_with fail
          go_quiet (fail)
          go_wp2_with fail
          go_roundw
          case rel => exact ⟨j + 1, by go_num, by omega, by rw [T1.out, T2.out, HTK.out], below_drewN hw _⟩
          case measure => simp [intOf]; omega
        · have NE : ∀ W, (binOp .neq 31 (gv v.1 v.2) (gv u.1 u.2)).run Try.prog W = .ok (.bool true) W := fun W => by rw [neqv_run, decide_eq_true (show (v.1, v.2) ≠ (u.1, u.2) from hvu)]
          have hno : R = false := by
            rw [HR.out]
            refine decide_eq_false fun e => hvu ?_
            have g1 := G1.out
            rw [e, G2.out] at g1
            exact (Option.some.inj g1).symm
          subst hno
          clear hvu
          go_wp2_with fail
          go_quiet (fail)
          go_wp2_with fail
          go_ret
          exact ⟨rfl, below_drewN hw _⟩
      · obtain rfl : j = l.length := by omega
        have hyes : R = true := by
          rw [HR.out]
          refine decide_eq_true ?_
          have := HTK.out
          rwa [List.take_length, List.take_of_length_le (by rw [HLN.out]; exact Nat.le_refl _)] at this
        subst hyes
        go_wp2_with fail
        go_ret
        exact ⟨rfl, hw⟩
  · have ne : ((l.length : Int) != (k.length : Int)) = true := by simpa using fun e : (l.length : Int) = k.length => hlen (by omega)
    have hno : decide (l = k) = false := decide_eq_false fun e => hlen (by rw [e])
    rw [hno]
    clear hno hlen
    go_enter Try.func39, Try.ntmps39
    go_wp2_with fail
    go_ret
    exact ⟨rfl, Below.refl _ _⟩
set_option maxHeartbeats 1000000 in
set_option maxRecDepth 100000 in
theorem rints_z {A A2 : Option Addr} {l k : List Int} {B B' n m : Nat} (c c2 : Nat) (w : World) (hn : l.length = n) (hm : k.length = m) (h1 : IAt w B A l) (h2 : IAt w B' A2 k) (hl : n ≤ 100000) (hk : m ≤ 100000) :
    Calls Try.prog 38 #[.slice A n c, .slice A2 m c2] w fun e w' => e = .returned (.bool (decide (l = k))) ∧ Below w.heap.size w w' := by
  subst hn hm
  have H1 := Lib.hid h1
  have H2 := Lib.hid h2
  clear h1 h2
  by_cases hlen : l.length = k.length
  · have hl2 : (l.length : Int) ≤ 100000 := by omega
    have ne : ((l.length : Int) != (k.length : Int)) = false := by simp [hlen]
    have HLN := Lib.hid hlen
    obtain ⟨R, hR⟩ : ∃ R : Bool, R = decide (l = k) := ⟨_, rfl⟩
    rw [← hR]
    have HR := Lib.hid hR
    clear hR hlen
    go_enter Try.func38, Try.ntmps38
    go_wp2_with fail
    go_loopw [5] (fun iv W => ∃ j : Nat, iv = .int .i64 j ∧ j ≤ l.length ∧ l.take j = k.take j ∧ Below w.heap.size w W) (fun iv _ => l.length - (intOf iv).toNat)
    case atStart => exact ⟨0, rfl, by omega, by simp, Below.refl _ _⟩
    case round =>
      obtain ⟨j, rfl, hj, htk, hw⟩ := hrel
      have HTK := Lib.hid htk
      clear htk
      by_cases hlt : j < l.length
      · have hltk : j < k.length := by have := HLN.out; omega
        obtain ⟨b1, off1, rfl, _, hc1⟩ := H1.out (by omega)
        obtain ⟨b2, off2, rfl, _, hc2⟩ := H2.out (by omega)
        have a0 := hc1 j hlt
        have d0 := hc2 j hltk
        have lb1 := block_lt_of_cell a0
        replace a0 := (hw.cell (p := ⟨b1, off1 + j, none⟩) lb1).trans a0
        have lb2 := block_lt_of_cell d0
        replace d0 := (hw.cell (p := ⟨b2, off2 + j, none⟩) lb2).trans d0
        clear hc1 hc2
        have T1 := Lib.hid (List.take_succ_eq_append_getElem hlt)
        have T2 := Lib.hid (List.take_succ_eq_append_getElem hltk)
        have G1 := Lib.hid (List.getElem?_eq_getElem hlt)
        have G2 := Lib.hid (List.getElem?_eq_getElem hltk)
        have hlt2 : (j : Int) < l.length := by omega
        have hltk2 : (j : Int) < k.length := by omega
        have hj0 : (0 : Int) ≤ j := Int.natCast_nonneg j
        generalize l[j] = v at *
        generalize k[j] = u at *
        by_cases hvu : v = u
        · subst hvu
          have NE : (v != v) = false := by simp
          go_wp2_with fail
          go_quiet (fail)
          go_wp2_with fail
          go_roundw
          case rel => exact ⟨j + 1, by go_num, by omega, by rw [T1.out, T2.out, HTK.out], below_drewN hw _⟩
          case measure => simp [intOf]; omega
        · have NE : (v != u) = true := by simpa using hvu
          have hno : R = false := by
            rw [HR.out]
            refine decide_eq_false fun e => hvu ?_
            have g1 := G1.out
            rw [e, G2.out] at g1
            exact (Option.some.inj g1).symm
          subst hno
          clear hvu
          go_wp2_with fail
          go_quiet (fail)
          go_wp2_with fail
          go_ret
          exact ⟨rfl, below_drewN hw _⟩
      · obtain rfl : j = l.length := by omega
        have hyes : R = true := by
          rw [HR.out]
          refine decide_eq_true ?_
          have := HTK.out
          rwa [List.take_length, List.take_of_length_le (by rw [HLN.out]; exact Nat.le_refl _)] at this
        subst hyes
        go_wp2_with fail
        go_ret
        exact ⟨rfl, hw⟩
  · have ne : ((l.length : Int) != (k.length : Int)) = true := by simpa using fun e : (l.length : Int) = k.length => hlen (by omega)
    have hno : decide (l = k) = false := decide_eq_false fun e => hlen (by rw [e])
    rw [hno]
    clear hno hlen
    go_enter Try.func38, Try.ntmps38
    go_wp2_with fail
    go_ret
    exact ⟨rfl, Below.refl _ _⟩
end Go.Proofs.Ytkpjlobpaippdaa
