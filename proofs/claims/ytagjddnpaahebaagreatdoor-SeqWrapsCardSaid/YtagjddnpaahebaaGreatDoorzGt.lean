/- Layer 8: the document's Off, Next, open, behind, field, Ints. -/
import Derived.Test.YtagjddnpaahebaaGreatDoorzGq
import Derived.Test.YtagjddnpaahebaaGreatDoorzOro
namespace Go.Proofs.YtagjddnpaahebaaGreatDoor
set_option linter.unusedVariables false
set_option linter.unusedSimpArgs false
open Go.RowKit Go.ChangeShapes Go.WideShapes Go.ChangeAt Go.Sort

set_option maxHeartbeats 1000000 in
set_option maxRecDepth 100000 in
theorem off_any {B : Nat} {A : Option Addr} {p : List Fun} (c : Nat) (o a b : Int) (w : World) (h : ProgAt w B A p) (hB : B ≤ w.heap.size) (hx : o = 13 → 0 ≤ a ∧ a < p.length) :
    Calls Tryz.prog 106 #[.slice A p.length c, .agg #[.int .i64 o, .int .i64 a, .int .i64 b]] w fun e w' => e = .returned (.int .i64 (offI p (o, a, b))) ∧ Below w.heap.size w w' := by
  by_cases ho : o = 13
  · obtain ⟨h0, h1⟩ := hx ho
    obtain ⟨k, rfl⟩ := Int.eq_ofNat_of_zero_le h0
    have hk : k < p.length := by omega
    obtain ⟨bb, off, rfl, hbl, hc⟩ := h (by omega)
    obtain ⟨c1, _⟩ := hc k hk
    have hoff : offI p (o, k, b) = p[k].ar := by
      unfold offI arP
      rw [if_pos ho]
      simp [hk]
    rw [hoff]
    generalize p[k].ar = y at *
    subst ho
    have hbb : bb < w.heap.size := by omega
    clear hc hoff hx h0 h
    go_enter Tryz.func106, Tryz.ntmps106
    go_wp2_with fail
    go_ret
    exact ⟨rfl, by go_grown⟩
  · have e1 : (o == 13) = false := by simpa using ho
    have hoff : offI p (o, a, b) = (rz o).p := by unfold offI; rw [if_neg ho]
    rw [hoff]
    have C := roff_any o
    generalize (rz o).p = q at *
    clear ho hoff hx h
    go_enter Tryz.func106, Tryz.ntmps106
    go_wp2_with (go_at_call 85; (with_reducible refine (C.go _).mono ?_); rintro e v ⟨rfl, rfl⟩)
    go_ret
    exact ⟨rfl, by go_grown⟩

set_option maxHeartbeats 1000000 in
set_option maxRecDepth 100000 in
theorem rnext_any (o a b i : Int) (w : World) (hi : 0 ≤ i) (hi2 : i ≤ 1000) :
    Calls Tryz.prog 92 #[.agg #[.int .i64 o, .int .i64 a, .int .i64 b], .int .i64 i] w fun e w' => ∃ x, e = .returned x ∧ LstAt w' w.heap.size x (nextI (o, a, b) i) ∧ Below w.heap.size w w' := by
  by_cases h1 : o = 10
  · subst h1
    have hn : nextI (10, a, b) i = [a] := rfl
    rw [hn]
    go_enter Tryz.func92, Tryz.ntmps92
    go_wp2_with fail
    go_ret
    exact ⟨_, rfl, .inr ⟨_, rfl, by omega, Held.new1 _ _ _ _⟩, by go_grown⟩
  by_cases h2 : o = 15 ∨ o = 16
  · have hn : nextI (o, a, b) i = [] := by unfold nextI; rw [if_neg h1, if_pos h2]
    rw [hn]
    rcases h2 with rfl | rfl
    all_goals
      go_enter Tryz.func92, Tryz.ntmps92
      go_wp2_with fail
      go_ret
      exact ⟨_, rfl, .inl ⟨rfl, rfl⟩, by go_grown⟩
  by_cases h3 : o = 11
  · subst h3
    have hn : nextI (11, a, b) i = [i + 1, a] := rfl
    rw [hn]
    go_enter Tryz.func92, Tryz.ntmps92
    go_wp2_with fail
    go_ret
    exact ⟨_, rfl, .inr ⟨_, rfl, by omega, Held.new1 _ _ _ _⟩, by go_grown⟩
  · have hn : nextI (o, a, b) i = [i + 1] := by unfold nextI; rw [if_neg h1, if_neg h2, if_neg h3]
    rw [hn]
    have e1 : (o == 10) = false := by simpa using h1
    have e2 : (o == 15) = false := by simp; omega
    have e3 : (o == 16) = false := by simp; omega
    have e4 : (o == 11) = false := by simpa using h3
    clear h1 h2 h3
    go_enter Tryz.func92, Tryz.ntmps92
    go_wp2_with fail
    go_ret
    exact ⟨_, rfl, .inr ⟨_, rfl, by omega, Held.new1 _ _ _ _⟩, by go_grown⟩

/-- Who waits: who is reached, and was not gone through. -/
def waitV (D : List Int) (Q : List Bool) : List Bool := List.zipWith (fun d q => decide (0 ≤ d) && !q) D Q
theorem waitV_get (D : List Int) (Q : List Bool) {i : Nat} (h1 : i < D.length) (h2 : i < Q.length) : (waitV D Q)[i]? = some (decide (0 ≤ D[i]) && !Q[i]) := by
  unfold waitV
  rw [List.getElem?_zipWith, List.getElem?_eq_getElem h1, List.getElem?_eq_getElem h2]
theorem waitV_len (D : List Int) (Q : List Bool) (h : D.length = Q.length) : (waitV D Q).length = D.length := by
  unfold waitV
  rw [List.length_zipWith]
  omega

set_option maxHeartbeats 1000000 in
set_option maxRecDepth 100000 in
theorem ropen_any {d q : Nat} {D : List Int} {Q : List Bool} (w : World) (hd : Held w d 3 (intA D)) (hq : Held w q 4 (boolA Q)) (hl : Q.length = D.length) (hn : D.length ≤ 1000) :
    Calls Tryz.prog 90 #[.slice (some ⟨d, 0, none⟩) D.length D.length, .slice (some ⟨q, 0, none⟩) D.length D.length] w fun e w' => e = .returned (.int .i64 (match openS (waitV D Q) with | some i => (i : Int) | none => -1)) ∧ w = w' := by
  have H := Lib.hid hd
  have H2 := Lib.hid hq
  have hwl := waitV_len D Q hl.symm
  have hW2 : (D.length : Int) ≤ 1000 := by omega
  generalize hR : (match openS (waitV D Q) with | some i => (i : Int) | none => -1) = R
  have HR := Lib.hid hR
  clear hR hd hq
  go_enter Tryz.func90, Tryz.ntmps90
  go_wp2
  go_loop [5] (fun i => ∃ j : Nat, j ≤ D.length ∧ i = .int .i64 j ∧ (∀ k (hk : k < j) (hk2 : k < (waitV D Q).length), (waitV D Q)[k] = false)) (fun i => D.length - (intOf i).toNat)
  case atStart => exact ⟨0, by omega, rfl, by intro k hk; omega⟩
  case round =>
    obtain ⟨j, hj, rfl, hall⟩ := hrel
    have HA := Lib.hid hall
    clear hall
    by_cases hlt : j < D.length
    · have c0 := ints_cell H.out hlt
      have c1 := bools_cell H2.out (i := j) (by omega)
      have hw := waitV_get D Q (i := j) hlt (by omega)
      have HWL := Lib.hid hwl
      generalize hDj : D[j] = dj at *
      generalize Q[j]'(by omega) = qj at *
      by_cases hd0 : 0 ≤ dj
      · cases qj with
        | false =>
          have hwj : (waitV D Q)[j]'(by rw [HWL.out]; exact hlt) = true := by
            have := hw
            rw [List.getElem?_eq_getElem (by rw [HWL.out]; exact hlt)] at this
            have h2 := Option.some.inj this
            rw [h2]
            simpa using hd0
          have ho := openS_at (by rw [HWL.out]; exact hlt) hwj (fun k hk => HA.out k hk (by rw [HWL.out]; omega))
          have hr := HR.out
          rw [ho] at hr
          have HR2 := Lib.hid hr
          clear hw ho hr hwj
          go_wp2_with fail
          go_ret
          exact ⟨ret_int HR2.out, rfl⟩
        | true =>
          have hwj : (waitV D Q)[j]'(by rw [HWL.out]; exact hlt) = false := by
            have := hw
            rw [List.getElem?_eq_getElem (by rw [HWL.out]; exact hlt)] at this
            have h2 := Option.some.inj this
            rw [h2]
            simp
          have HWJ := Lib.hid hwj
          clear hw hwj
          go_wp2_with fail
          go_round
          case rel =>
            refine ⟨j + 1, by omega, by go_num, fun k hk hk2 => ?_⟩
            rcases Nat.lt_succ_iff_lt_or_eq.1 hk with h | rfl
            · exact HA.out k h hk2
            · exact HWJ.out
          case measure => simp [intOf]; omega
      · have hwj : (waitV D Q)[j]'(by rw [HWL.out]; exact hlt) = false := by
          have := hw
          rw [List.getElem?_eq_getElem (by rw [HWL.out]; exact hlt)] at this
          have h2 := Option.some.inj this
          rw [h2]
          simp [hd0]
        have HWJ := Lib.hid hwj
        clear hw hwj
        go_wp2_with fail
        go_round
        case rel =>
          refine ⟨j + 1, by omega, by go_num, fun k hk hk2 => ?_⟩
          rcases Nat.lt_succ_iff_lt_or_eq.1 hk with h | rfl
          · exact HA.out k h hk2
          · exact HWJ.out
        case measure => simp [intOf]; omega
    · obtain rfl : j = D.length := by omega
      have ho := openS_no (W := waitV D Q) (fun x hx => by
        obtain ⟨k, hk, rfl⟩ := List.mem_iff_getElem.1 hx
        exact HA.out k (by omega) hk)
      have hr := HR.out
      rw [ho] at hr
      have HR2 := Lib.hid hr
      clear ho hr
      go_wp2_with fail
      go_ret
      exact ⟨ret_int HR2.out, rfl⟩
end Go.Proofs.YtagjddnpaahebaaGreatDoor

/- Layer 8: the document's behind, field, Ints. -/
namespace Go.Proofs.YtagjddnpaahebaaGreatDoor
set_option linter.unusedVariables false
set_option linter.unusedSimpArgs false
open Go.RowKit Go.ChangeShapes Go.WideShapes Go.ChangeAt Go.Sort

def behI (q r d : Int) : Int := if d < q ∨ 16 < d - q + r then -1 else d - q + r
set_option maxHeartbeats 1000000 in
set_option maxRecDepth 100000 in
theorem rbehind_any {B : Nat} {A : Option Addr} {p : List Fun} (c : Nat) (o a b d : Int) (w : World) (h : ProgAt w B A p) (hB : B ≤ w.heap.size) (hx : o = 13 → 0 ≤ a ∧ a < p.length)
    (hq : 0 ≤ offI p (o, a, b) ∧ offI p (o, a, b) ≤ 16) (hr : 0 ≤ (rz o).q ∧ (rz o).q ≤ 2) (hd : 0 ≤ d ∧ d ≤ 16) :
    Calls Tryz.prog 91 #[.slice A p.length c, .agg #[.int .i64 o, .int .i64 a, .int .i64 b], .int .i64 d] w fun e w' => e = .returned (.int .i64 (behI (offI p (o, a, b)) (rz o).q d)) ∧ Below w.heap.size w w' := by
  have OF := fun W (hb : Below w.heap.size w W) => Lib.hid (off_any c o a b W (h.below hb hB) (Nat.le_trans hB hb.size) hx)
  have ON := ron_any o
  generalize offI p (o, a, b) = q at *
  generalize (rz o).q = r at *
  obtain ⟨q1, q2⟩ := hq
  obtain ⟨r1, r2⟩ := hr
  obtain ⟨d1, d2⟩ := hd
  clear h hx
  generalize hR : behI q r d = R
  unfold behI at hR
  by_cases h1 : d < q
  · rw [if_pos (.inl h1)] at hR
    subst hR
    go_enter Tryz.func91, Tryz.ntmps91
    go_wp2_with (go_at_call 106; (with_reducible refine (OF _ (by go_grown)).out.mono ?_); rintro _ u ⟨rfl, hb⟩; have hbx := (Held.new w 44 #[.int .i64 o, .int .i64 a, .int .i64 b]).below hb; have x0 := hbx.cell 0; simp at x0; have hbw := below_laid hb; clear hb)
    go_ret
    exact ⟨rfl, hbw⟩
  by_cases h2 : 16 < d - q + r
  · rw [if_pos (.inr h2)] at hR
    subst hR
    go_enter Tryz.func91, Tryz.ntmps91
    go_wp2_with (first
      | (go_at_call 106; (with_reducible refine (OF _ (by go_grown)).out.mono ?_); rintro _ u ⟨rfl, hb⟩; have hbx := (Held.new w 44 #[.int .i64 o, .int .i64 a, .int .i64 b]).below hb; have x0 := hbx.cell 0; simp at x0; have hbw := below_laid hb; clear hb)
      | (go_at_call 63; (with_reducible refine (ON.go _).mono ?_); rintro _ u2 ⟨rfl, rfl⟩))
    go_ret
    exact ⟨rfl, hbw⟩
  · rw [if_neg (by omega)] at hR
    subst hR
    go_enter Tryz.func91, Tryz.ntmps91
    go_wp2_with (first
      | (go_at_call 106; (with_reducible refine (OF _ (by go_grown)).out.mono ?_); rintro _ u ⟨rfl, hb⟩; have hbx := (Held.new w 44 #[.int .i64 o, .int .i64 a, .int .i64 b]).below hb; have x0 := hbx.cell 0; simp at x0; have hbw := below_laid hb; clear hb)
      | (go_at_call 63; (with_reducible refine (ON.go _).mono ?_); rintro _ u2 ⟨rfl, rfl⟩))
    go_ret
    exact ⟨rfl, hbw⟩

set_option maxHeartbeats 2000000 in
set_option maxRecDepth 100000 in
theorem rfield_any {A Ac : Option Addr} {p : List Fun} {f : Fun} (c cc : Nat) (o a b : Int) (w : World) :
    Calls Tryz.prog 69 #[.slice A p.length c, .agg #[.int .i64 f.ar, .int .i64 f.lo, .int .i64 f.sl, .slice Ac f.code.length cc], .agg #[.int .i64 o, .int .i64 a, .int .i64 b]] w fun e w' => e = .returned (.int .i64 (fieldI p f (o, a, b))) ∧ Below w.heap.size w w' := by
  generalize hF : fieldI p f (o, a, b) = r
  by_cases h1 : o = 1 ∨ o = 2
  · rw [field_load h1] at hF
    generalize f.lo = l at *
    by_cases h2 : a < l
    · rw [if_pos (by simpa using h2)] at hF
      subst hF
      rcases h1 with rfl | rfl
      all_goals
        go_enter Tryz.func69, Tryz.ntmps69
        go_wp2_with fail
        go_ret
        exact ⟨rfl, by go_grown⟩
    · rw [if_neg (by simpa using h2)] at hF
      subst hF
      rcases h1 with rfl | rfl
      all_goals
        go_enter Tryz.func69, Tryz.ntmps69
        go_wp2_with fail
        go_ret
        exact ⟨rfl, by go_grown⟩
  by_cases h2 : o = 14
  · rw [field_join h2] at hF
    generalize f.sl = l at *
    by_cases h3 : a < l
    · rw [if_pos (by simpa using h3)] at hF
      subst hF h2
      clear h1
      go_enter Tryz.func69, Tryz.ntmps69
      go_wp2_with fail
      go_ret
      exact ⟨rfl, by go_grown⟩
    · rw [if_neg (by simpa using h3)] at hF
      subst hF h2
      clear h1
      go_enter Tryz.func69, Tryz.ntmps69
      go_wp2_with fail
      go_ret
      exact ⟨rfl, by go_grown⟩
  by_cases h3 : o = 13
  · rw [field_spawn h3] at hF
    generalize f.sl = l at *
    by_cases h4 : b < l
    · by_cases h5 : a < (p.length : Int)
      · rw [if_pos (by simpa using ⟨h5, h4⟩)] at hF
        subst hF h3
        clear h1 h2
        go_enter Tryz.func69, Tryz.ntmps69
        go_wp2_with fail
        go_ret
        exact ⟨rfl, by go_grown⟩
      · rw [if_neg (by simp only [Bool.and_eq_true, decide_eq_true_eq]; omega)] at hF
        subst hF h3
        clear h1 h2
        go_enter Tryz.func69, Tryz.ntmps69
        go_wp2_with fail
        go_ret
        exact ⟨rfl, by go_grown⟩
    · rw [if_neg (by simp only [Bool.and_eq_true, decide_eq_true_eq]; omega)] at hF
      subst hF h3
      clear h1 h2
      go_enter Tryz.func69, Tryz.ntmps69
      go_wp2_with fail
      go_ret
      exact ⟨rfl, by go_grown⟩
  by_cases h4 : o = 10 ∨ o = 11
  · rw [field_jump h4] at hF
    generalize f.code.length = l at *
    by_cases h5 : a < (l : Int)
    · rw [if_pos (by simpa using h5)] at hF
      subst hF
      clear h1 h2 h3
      rcases h4 with rfl | rfl
      all_goals
        go_enter Tryz.func69, Tryz.ntmps69
        go_wp2_with fail
        go_ret
        exact ⟨rfl, by go_grown⟩
    · rw [if_neg (by simpa using h5)] at hF
      subst hF
      clear h1 h2 h3
      rcases h4 with rfl | rfl
      all_goals
        go_enter Tryz.func69, Tryz.ntmps69
        go_wp2_with fail
        go_ret
        exact ⟨rfl, by go_grown⟩
  · rw [field_none (by omega)] at hF
    subst hF
    have e1 : (o == 1) = false := by simp; omega
    have e2 : (o == 2) = false := by simp; omega
    have e3 : (o == 14) = false := by simp; omega
    have e4 : (o == 13) = false := by simp; omega
    have e5 : (o == 10) = false := by simp; omega
    have e6 : (o == 11) = false := by simp; omega
    clear h1 h2 h3 h4
    go_enter Tryz.func69, Tryz.ntmps69
    go_wp2_with fail
    go_ret
    exact ⟨rfl, by go_grown⟩

end Go.Proofs.YtagjddnpaahebaaGreatDoor

