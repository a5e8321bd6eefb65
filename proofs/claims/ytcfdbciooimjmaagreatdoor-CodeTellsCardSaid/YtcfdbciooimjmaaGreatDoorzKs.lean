/- Layer 7's code: Same. -/
import Derived.Test.YtcfdbciooimjmaaGreatDoorzGi
import Derived.Test.YtcfdbciooimjmaaGreatDoorzPr2
import Derived.Test.YtcfdbciooimjmaaGreatDoorzKm
namespace Go.Proofs.YtcfdbciooimjmaaGreatDoor
set_option linter.unusedVariables false
set_option linter.unusedSimpArgs false
open Go.RowKit Go.ChangeShapes Go.WideShapes Go.ChangeAt Go.Sort

noncomputable def sameI (l m : List Ins) : Bool := @decide (l = m) (Classical.propDecidable _)
theorem sameI_iff (l m : List Ins) : sameI l m = true ↔ l = m := by unfold sameI; exact @decide_eq_true_iff _ (Classical.propDecidable _)
theorem sameI_no {l m : List Ins} (h : l ≠ m) : sameI l m = false := by rw [← Bool.not_eq_true, sameI_iff]; exact h
noncomputable def sameF (f g : Fun) : Bool := @decide (f = g) (Classical.propDecidable _)
theorem sameF_iff (f g : Fun) : sameF f g = true ↔ f = g := by unfold sameF; exact @decide_eq_true_iff _ (Classical.propDecidable _)
theorem sameF_no {f g : Fun} (h : f ≠ g) : sameF f g = false := by rw [← Bool.not_eq_true, sameF_iff]; exact h

set_option maxHeartbeats 2000000 in
set_option maxRecDepth 100000 in
theorem eqI_any {B : Nat} {A A' : Option Addr} {l m : List Ins} (c c' : Nat) (w : World) (h : CodeAt w B A l) (h' : CodeAt w B A' m) (hz : l.length ≤ maxLen) (hB : B ≤ w.heap.size) :
    Calls Tryz.prog 78 #[.slice A l.length c, .slice A' m.length c'] w fun e w' => e = .returned (.bool (sameI l m)) ∧ Below w.heap.size w w' := by
  have HA := Lib.hid h
  have HA' := Lib.hid h'
  unfold maxLen at hz
  clear h h'
  by_cases hlen : l.length = m.length
  case neg =>
    have hs := sameI_no (l := l) (m := m) fun e => hlen (by rw [e])
    have HS := Lib.hid hs
    have hl : ((l.length : Int) != (m.length : Int)) = true := by simp; omega
    clear hs hlen
    go_enter Tryz.func78, Tryz.ntmps78
    go_wp2
    go_ret
    rw [HS.out]
    exact ⟨rfl, Below.refl _ _⟩
  have hl : ((l.length : Int) != (m.length : Int)) = false := by simp; omega
  go_enter Tryz.func78, Tryz.ntmps78
  go_wp2
  clear hl
  go_loopw [13] (fun i W => ∃ k : Nat, k ≤ l.length ∧ i = .int .i64 k ∧ (∀ j (h1 : j < k) (h2 : j < l.length) (h3 : j < m.length), l[j] = m[j]) ∧ Below w.heap.size w W) (fun i _ => l.length - (intOf i).toNat)
  case atStart => exact ⟨0, by omega, rfl, fun j hj => absurd hj (by omega), Below.refl _ _⟩
  case round =>
    obtain ⟨j, hj, rfl, hall, hw⟩ := hrel
    have HJ := Lib.hid hall
    clear hall
    by_cases hltj : j < l.length
    · have hltj' : j < m.length := by omega
      obtain ⟨b2, off2, rfl, hbl2, hd⟩ := (HA.out.below hw hB) (by omega)
      obtain ⟨b3, off3, rfl, hbl3, hd'⟩ := (HA'.out.below hw hB) (by omega)
      obtain ⟨d0, d1, d2⟩ := hd j hltj
      obtain ⟨k0, k1, k2⟩ := hd' j hltj'
      clear hd hd'
      have hne : l[j] ≠ m[j] → l ≠ m := fun h e => by subst e; exact h rfl
      have hst : l[j] = m[j] → ∀ i (h1 : i < j + 1) (h2 : i < l.length) (h3 : i < m.length), l[i] = m[i] := fun e i h1 h2 h3 => by
        rcases Nat.lt_succ_iff_lt_or_eq.1 h1 with h | rfl
        · exact HJ.out i h h2 h3
        · exact e
      generalize l[j] = x at *
      generalize m[j] = u at *
      obtain ⟨xo, xa, xb⟩ := x
      obtain ⟨uo, ua, ub⟩ := u
      have HNE := Lib.hid hne
      have HST2 := Lib.hid hst
      clear hne hst
      have kn := fun W => neqi_run xo xa xb uo ua ub W
      obtain ⟨t, ht⟩ : ∃ t : Bool, t = decide ((xo, xa, xb) ≠ (uo, ua, ub)) := ⟨_, rfl⟩
      rw [← ht] at kn
      have HM := Lib.hid ht
      clear ht
      have q0 := fun d os => cell_regrown d0 d os
      have q1 := fun d os => cell_regrown d1 d os
      have q2 := fun d os => cell_regrown d2 d os
      have r0 := fun d os => cell_regrown k0 d os
      have r1 := fun d os => cell_regrown k1 d os
      have r2 := fun d os => cell_regrown k2 d os
      cases t
      · have he : (xo, xa, xb) = (uo, ua, ub) := by
          have := HM.out
          simpa using this
        have HE := Lib.hid he
        clear he
        go_upto_region 6 with (fail)
        clear d0 d1 d2 k0 k1 k2
        refine wp_region_quiet_below (by kernel_rfl) (by kernel_rfl) ?_
        (repeat (first | go_big_quiet_step (fail) | quiet_step (fail)))
        refine wpQuiet_nil ?_
        intro v hv
        have hbv := below_of_regrown hv
        clear hv q0 q1 q2 r0 r1 r2
        replace hw := Below.step hw hbv
        go_wp2_with fail
        go_roundw
        case rel => exact ⟨j + 1, by omega, by go_num, HST2.out HE.out, hw⟩
        case measure => simp [intOf]; omega
      · have he : (xo, xa, xb) ≠ (uo, ua, ub) := by
          have := HM.out
          intro e
          rw [e] at this
          simp at this
        have hs := sameI_no (HNE.out he)
        have HS := Lib.hid hs
        clear he hs
        go_upto_region 6 with (fail)
        clear d0 d1 d2 k0 k1 k2
        refine wp_region_quiet_below (by kernel_rfl) (by kernel_rfl) ?_
        (repeat (first | go_big_quiet_step (fail) | quiet_step (fail)))
        refine wpQuiet_nil ?_
        intro v hv
        have hbv := below_of_regrown hv
        clear hv q0 q1 q2 r0 r1 r2
        replace hw := Below.step hw hbv
        go_wp2_with fail
        go_ret
        rw [HS.out]
        exact ⟨rfl, hw⟩
    · obtain rfl : j = l.length := by omega
      have hs : sameI l m = true := by
        rw [sameI_iff]
        exact List.ext_getElem hlen fun i h1 h2 => HJ.out i h1 h1 h2
      have HS := Lib.hid hs
      clear hs
      go_wp2_with fail
      go_ret
      rw [HS.out]
      exact ⟨rfl, hw⟩

set_option maxHeartbeats 2000000 in
set_option maxRecDepth 100000 in
theorem csameF_any {B : Nat} {A A' : Option Addr} {f g : Fun} (c c' : Nat) (w : World) (h : CodeAt w B A f.code) (h' : CodeAt w B A' g.code) (hz : f.code.length ≤ maxLen) (hB : B ≤ w.heap.size) :
    Calls Tryz.prog 54 #[.agg #[.int .i64 f.ar, .int .i64 f.lo, .int .i64 f.sl, .slice A f.code.length c], .agg #[.int .i64 g.ar, .int .i64 g.lo, .int .i64 g.sl, .slice A' g.code.length c']] w fun e w' => e = .returned (.bool (sameF f g)) ∧ Below w.heap.size w w' := by
  have C := fun W h h' hB => Lib.hid (eqI_any (B := B) (A := A) (A' := A') (l := f.code) (m := g.code) c c' W h h' hz hB)
  have HA := Lib.hid h
  have HA' := Lib.hid h'
  have hdec : sameF f g = ((f.ar == g.ar) && (f.lo == g.lo) && (f.sl == g.sl) && sameI f.code g.code) := by
    rw [Bool.eq_iff_iff, sameF_iff]
    simp only [Bool.and_eq_true, beq_iff_eq, sameI_iff]
    constructor
    · rintro rfl
      simp
    · rintro ⟨⟨⟨h0, h1⟩, h2⟩, h3⟩
      cases f
      cases g
      simp_all
  rw [hdec]
  clear hdec h h'
  unfold maxLen at hz
  have hw := below2 w (.cells #[.int .i64 f.ar, .int .i64 f.lo, .int .i64 f.sl, .slice A f.code.length c] 39) (.cells #[.int .i64 g.ar, .int .i64 g.lo, .int .i64 g.sl, .slice A' g.code.length c'] 39)
  generalize f.ar = fa at *
  generalize f.lo = fl at *
  generalize f.sl = fs at *
  generalize g.ar = ga at *
  generalize g.lo = gl at *
  generalize g.sl = gs at *
  generalize sameI f.code g.code = x at *
  cases e0 : (fa == ga)
  · go_enter Tryz.func54, Tryz.ntmps54
    go_wp2_with fail
    go_ret
    exact ⟨rfl, hw⟩
  cases e1 : (fl == gl)
  · go_enter Tryz.func54, Tryz.ntmps54
    go_wp2_with fail
    go_ret
    exact ⟨rfl, hw⟩
  cases e2 : (fs == gs)
  · go_enter Tryz.func54, Tryz.ntmps54
    go_wp2_with fail
    go_ret
    exact ⟨rfl, hw⟩
  go_enter Tryz.func54, Tryz.ntmps54
  go_wp2_with (go_at_call 78; (with_reducible refine (C _ (HA.out.below hw hB) (HA'.out.below hw hB) (Nat.le_trans hB hw.size)).out.mono ?_); rintro e v ⟨rfl, hb⟩)
  go_ret
  exact ⟨rfl, Below.step hw hb⟩

set_option maxHeartbeats 2000000 in
set_option maxRecDepth 100000 in
theorem eqF_any {B : Nat} {A A' : Option Addr} {p q : List Fun} (c c' : Nat) (w : World) (h : ProgAt w B A p) (hz : SizedP p) (h' : ProgAt w B A' q) (hB : B ≤ w.heap.size) :
    Calls Tryz.prog 53 #[.slice A p.length c, .slice A' q.length c', fnv 54] w fun e w' => e = .returned (.bool (sameP p q)) ∧ Below w.heap.size w w' := by
  have HA := Lib.hid h
  have HA' := Lib.hid h'
  have HZ := Lib.hid hz.2
  have hzp := hz.1
  unfold maxLen at hzp
  clear h hz h'
  by_cases hlen : p.length = q.length
  case neg =>
    have hs := sameP_no (p := p) (q := q) fun e => hlen (by rw [e])
    have HS := Lib.hid hs
    have hl : ((p.length : Int) != (q.length : Int)) = true := by simp; omega
    clear hs hlen
    go_enter Tryz.func53, Tryz.ntmps53
    go_wp2
    go_ret
    rw [HS.out]
    exact ⟨rfl, Below.refl _ _⟩
  have hl : ((p.length : Int) != (q.length : Int)) = false := by simp; omega
  have HLEN := Lib.hid hlen
  clear hlen
  go_enter Tryz.func53, Tryz.ntmps53
  go_wp2
  clear hl
  go_loopw [17] (fun i W => ∃ k : Nat, k ≤ p.length ∧ i = .int .i64 k ∧ (∀ j (h1 : j < k) (h2 : j < p.length) (h3 : j < q.length), p[j] = q[j]) ∧ Below w.heap.size w W) (fun i _ => p.length - (intOf i).toNat)
  case atStart => exact ⟨0, by omega, rfl, fun j hj => absurd hj (by omega), Below.refl _ _⟩
  case round =>
    obtain ⟨k, hk, rfl, hall, hw⟩ := hrel
    have HALL := Lib.hid hall
    clear hall
    by_cases hlt : k < p.length
    · have hlt' : k < q.length := by have := HLEN.out; omega
      obtain ⟨b, off, rfl, hbl, hc⟩ := (HA.out.below hw hB) (by omega)
      obtain ⟨b', off', rfl, hbl', hc'⟩ := (HA'.out.below hw hB) (by omega)
      have hF := hc k hlt
      have hF' := hc' k hlt'
      clear hc hc'
      have hat := fun (e : p[k] ≠ q[k]) => sameP_at hlt hlt' e
      have hstep : p[k] = q[k] → ∀ j (h1 : j < k + 1) (h2 : j < p.length) (h3 : j < q.length), p[j] = q[j] := fun e j h1 h2 h3 => by
        rcases Nat.lt_succ_iff_lt_or_eq.1 h1 with h | rfl
        · exact HALL.out j h h2 h3
        · exact e
      have hzf := HZ.out _ (List.getElem_mem hlt)
      generalize p[k] = f at *
      generalize q[k] = g at *
      have HAT := Lib.hid hat
      have HST := Lib.hid hstep
      clear hat hstep
      obtain ⟨f0, f1, f2, A2, c2, f3, hcf⟩ := hF
      obtain ⟨g0, g1, g2, A3, c3, g3, hcg⟩ := hF'
      have hwz := hw.size
      have hBr : B ≤ wr.heap.size := by omega
      have hbr := below2 wr (.cells #[.int .i64 f.ar, .int .i64 f.lo, .int .i64 f.sl, .slice A2 f.code.length c2] 39) (.cells #[.int .i64 g.ar, .int .i64 g.lo, .int .i64 g.sl, .slice A3 g.code.length c3] 39)
      have C := Lib.hid (csameF_any (f := f) (g := g) c2 c3 _ (hcf.below hbr hBr) (hcg.below hbr hBr) hzf (Nat.le_trans hBr hbr.size))
      obtain ⟨t, ht⟩ : ∃ t, t = sameF f g := ⟨_, rfl⟩
      rw [← ht] at C
      have HT := Lib.hid ht
      clear ht hcf hcg hzf hbr
      have hbw : b < wr.heap.size := by omega
      have hbw' : b' < wr.heap.size := by omega
      cases t
      · have hs := HAT.out (fun e => by
          have := HT.out
          rw [(sameF_iff f g).2 e] at this
          cases this)
        have HS := Lib.hid hs
        clear hs
        go_wp2_with (go_at_call 54; (with_reducible refine C.out.mono ?_); rintro e v ⟨rfl, hb⟩; replace hw := Below.step hw (Below.step (below2 _ _ _) hb); clear hb)
        go_ret
        rw [HS.out]
        exact ⟨rfl, hw⟩
      · have he : f = g := (sameF_iff f g).1 HT.out.symm
        have HE := Lib.hid he
        clear he
        go_wp2_with (go_at_call 54; (with_reducible refine C.out.mono ?_); rintro e v ⟨rfl, hb⟩; replace hw := Below.step hw (Below.step (below2 _ _ _) hb); clear hb)
        go_roundw
        case rel => exact ⟨k + 1, by omega, by go_num, HST.out HE.out, hw⟩
        case measure => simp [intOf]; omega
    · obtain rfl : k = p.length := by omega
      have hs : sameP p q = true := by
        rw [sameP_iff]
        exact List.ext_getElem HLEN.out fun j h1 h2 => HALL.out j h1 h1 h2
      have HS := Lib.hid hs
      clear hs
      go_wp2_with fail
      go_ret
      rw [HS.out]
      exact ⟨rfl, hw⟩

set_option maxHeartbeats 1000000 in
set_option maxRecDepth 100000 in
theorem csame_any {B : Nat} {A A' : Option Addr} {p q : List Fun} (c c' : Nat) (w : World) (h : ProgAt w B A p) (hz : SizedP p) (h' : ProgAt w B A' q) (hB : B ≤ w.heap.size) :
    Calls Tryz.prog 24 #[.slice A p.length c, .slice A' q.length c'] w fun e w' => e = .returned (.bool (sameP p q)) ∧ Below w.heap.size w w' := by
  have C := Lib.hid (eqF_any c c' w h hz h' hB)
  clear h h' hz
  go_enter Tryz.func24, Tryz.ntmps24
  go_wp2_with (go_at_call 53; (with_reducible refine C.out.mono ?_); rintro e v ⟨rfl, hb⟩)
  go_ret
  exact ⟨rfl, hb⟩
end Go.Proofs.YtcfdbciooimjmaaGreatDoor

