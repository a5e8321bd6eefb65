/- Layer 7: the document's Same. -/
import Derived.Test.YtcfdbciooimjmaaGreatDoorzGh
import Derived.Test.YtcfdbciooimjmaaGreatDoorzGc
import Derived.OpenShut
import Derived.Lib.Hide
import Derived.WalkMore
import Derived.Handy
import Derived.BigQuiet
import Derived.Deep.QuietTactic
import Derived.RegionTactic
import Derived.Deep.DeepCutAuto
import Derived.Deep.CutBlock
import Derived.Deep.RegionHeld3
namespace Go.Proofs.YtcfdbciooimjmaaGreatDoor
set_option linter.unusedVariables false
set_option linter.unusedSimpArgs false
open Go.RowKit Go.ChangeShapes Go.WideShapes Go.ChangeAt Go.Sort

theorem neqi_run (a b c d e f : Int) (W : World) : (binOp .neq 64 (iv a b c) (iv d e f)).run Tryz.prog W = .ok (.bool (decide ((a, b, c) ≠ (d, e, f)))) W := by
  by_cases h1 : a = d <;> by_cases h2 : b = e <;> by_cases h3 : c = f <;> simp [go_sem, h1, h2, h3]
/-- Two functions, laid in new blocks. -/
def Mid4 (w0 : World) (x0 x1 x2 x3 y0 y1 y2 y3 : Value) (v6 v7 : Value) (wx : World) : Prop := ∃ y z, v6 = .pointer (some ⟨y, 0, none⟩) ∧ v7 = .pointer (some ⟨z, 0, none⟩) ∧ Held wx y 39 #[x0, x1, x2, x3] ∧ Held wx z 39 #[y0, y1, y2, y3] ∧
  y ≠ z ∧ Below w0.heap.size w0 wx

set_option maxHeartbeats 4000000 in
set_option maxRecDepth 100000 in
theorem psame_any {B : Nat} {A A' : Option Addr} {p q : List Fun} (c c' : Nat) (w : World) (h : ProgAt w B A p) (hz : SizedP p) (h' : ProgAt w B A' q) (hB : B ≤ w.heap.size) :
    Calls Tryz.prog 23 #[.slice A p.length c, .slice A' q.length c'] w fun e w' => e = .returned (.bool (sameP p q)) ∧ Below w.heap.size w w' := by
  have HA := Lib.hid h
  have HA' := Lib.hid h'
  have HZ := Lib.hid hz.2
  have hzp := hz.1
  unfold maxLen at hzp
  clear h hz h'
  by_cases hlen : p.length = q.length
  case neg =>
    have hs := sameP_no (p := p) (q := q) fun e => hlen (by rw [e])
    have HS := Lib.hid hs
    have hl : ((p.length : Int) != (q.length : Int)) = true := by simp; omega
    clear hs hlen
    go_enter Tryz.func23, Tryz.ntmps23
    go_wp2
    go_ret
    rw [HS.out]
    exact ⟨rfl, Below.refl _ _⟩
  have hl : ((p.length : Int) != (q.length : Int)) = false := by simp; omega
  go_enter Tryz.func23, Tryz.ntmps23
  go_wp2
  clear hl
  go_loopw [5] (fun i W => ∃ k : Nat, k ≤ p.length ∧ i = .int .i64 k ∧ (∀ j (h1 : j < k) (h2 : j < p.length) (h3 : j < q.length), p[j] = q[j]) ∧ Below w.heap.size w W) (fun i _ => p.length - (intOf i).toNat)
  case atStart => exact ⟨0, by omega, rfl, fun j hj => absurd hj (by omega), Below.refl _ _⟩
  case round =>
    obtain ⟨k, hk, rfl, hall, hw⟩ := hrel
    have HALL := Lib.hid hall
    clear hall
    obtain ⟨wo, rfl⟩ : ∃ wo, wo = wr := ⟨_, rfl⟩
    by_cases hlt : k < p.length
    · have hlt' : k < q.length := by omega
      obtain ⟨b, off, rfl, hbl, hc⟩ := (HA.out.below hw hB) (by omega)
      obtain ⟨b', off', rfl, hbl', hc'⟩ := (HA'.out.below hw hB) (by omega)
      have hF := hc k hlt
      have hF' := hc' k hlt'
      clear hc hc'
      have hat := fun (e : p[k] ≠ q[k]) => sameP_at hlt hlt' e
      have hstep : p[k] = q[k] → ∀ j (h1 : j < k + 1) (h2 : j < p.length) (h3 : j < q.length), p[j] = q[j] := fun e j h1 h2 h3 => by
        rcases Nat.lt_succ_iff_lt_or_eq.1 h1 with h | rfl
        · exact HALL.out j h h2 h3
        · exact e
      have hzf := HZ.out _ (List.getElem_mem hlt)
      unfold maxLen at hzf
      generalize p[k] = f at *
      generalize q[k] = g at *
      have HAT := Lib.hid hat
      have HST := Lib.hid hstep
      clear hat hstep
      obtain ⟨f0, f1, f2, A2, c2, f3, hcf⟩ := hF
      obtain ⟨g0, g1, g2, A3, c3, g3, hcg⟩ := hF'
      have HCF := Lib.hid hcf
      have HCG := Lib.hid hcg
      clear hcf hcg
      have hwz := hw.size
      have hbo : b < wo.heap.size := by omega
      have hbo' : b' < wo.heap.size := by omega
      go_upto_region 6 with (fail)
      go_cut [6, 7] (fun v6 v7 wx => Mid4 wo (.int .i64 f.ar) (.int .i64 f.lo) (.int .i64 f.sl) (.slice A2 f.code.length c2) (.int .i64 g.ar) (.int .i64 g.lo) (.int .i64 g.sl) (.slice A3 g.code.length c3) v6 v7 wx)
      case first =>
        go_region
        all_goals
          go_wp2_with fail
          go_meet
          case rel =>
            refine ⟨_, _, rfl, rfl, ?_, ?_, ?_, ?_⟩
            all_goals first
              | exact Held.new1 _ _ _ _
              | exact (Held.new _ _ _).alloc _
              | omega
              | exact (below2 _ _ _).drew
      case rest =>
        obtain ⟨y, z, rfl, rfl, hy, hz, nyz, hb⟩ := hcut
        have hwx := Below.step hw hb
        have HY := Lib.hid hy
        have HW := Lib.hid hz
        have y0 := hy.cell 0
        have y1 := hy.cell 1
        have y2 := hy.cell 2
        have y3 := hy.cell 3
        have z0 := hz.cell 0
        have z1 := hz.cell 1
        have z2 := hz.cell 2
        have z3 := hz.cell 3
        have ly := hy.lt
        have lz := hz.lt
        simp at y0 y1 y2 y3 z0 z1 z2 z3
        clear hy hz f0 f1 f2 f3 g0 g1 g2 g3
        by_cases e0 : f.ar = g.ar
        case neg =>
          have hs := HAT.out (fun e => e0 (by rw [e]))
          have hn : (f.ar != g.ar) = true := by simpa using e0
          have HS := Lib.hid hs
          clear hs e0
          go_wp2_with fail
          go_ret
          rw [HS.out]
          exact ⟨rfl, hwx⟩
        by_cases e1 : f.lo = g.lo
        case neg =>
          have hs := HAT.out (fun e => e1 (by rw [e]))
          have hm0 : (f.ar != g.ar) = false := by simpa using e0
          have hn : (f.lo != g.lo) = true := by simpa using e1
          have HS := Lib.hid hs
          clear hs e0 e1
          go_wp2_with fail
          go_ret
          rw [HS.out]
          exact ⟨rfl, hwx⟩
        by_cases e2 : f.sl = g.sl
        case neg =>
          have hs := HAT.out (fun e => e2 (by rw [e]))
          have hm0 : (f.ar != g.ar) = false := by simpa using e0
          have hm1 : (f.lo != g.lo) = false := by simpa using e1
          have hn : (f.sl != g.sl) = true := by simpa using e2
          have HS := Lib.hid hs
          clear hs e0 e1 e2
          go_wp2_with fail
          go_ret
          rw [HS.out]
          exact ⟨rfl, hwx⟩
        by_cases e3 : f.code.length = g.code.length
        case neg =>
          have hs := HAT.out (fun e => e3 (by rw [e]))
          have hm0 : (f.ar != g.ar) = false := by simpa using e0
          have hm1 : (f.lo != g.lo) = false := by simpa using e1
          have hm2 : (f.sl != g.sl) = false := by simpa using e2
          have hn : ((f.code.length : Int) != (g.code.length : Int)) = true := by simp; omega
          have HS := Lib.hid hs
          clear hs e0 e1 e2 e3
          go_wp2_with fail
          go_ret
          rw [HS.out]
          exact ⟨rfl, hwx⟩
        have hm0 : (f.ar != g.ar) = false := by simpa using e0
        have hm1 : (f.lo != g.lo) = false := by simpa using e1
        have hm2 : (f.sl != g.sl) = false := by simpa using e2
        have hm3 : ((f.code.length : Int) != (g.code.length : Int)) = false := by simp; omega
        have E := Lib.hid (And.intro e0 (And.intro e1 e2))
        clear e0 e1 e2
        go_wp2_with fail
        clear hm0 hm1 hm2 hm3 y0 y1 y2 z0 z1 z2 y3 z3
        have hbz := hb.size
        go_loopw [8] (fun i W => ∃ j : Nat, j ≤ f.code.length ∧ i = .int .i64 j ∧ (∀ m (h1 : m < j) (h2 : m < f.code.length) (h3 : m < g.code.length), f.code[m] = g.code[m]) ∧ Below wc.heap.size wc W) (fun i _ => f.code.length - (intOf i).toNat)
        case atStart => exact ⟨0, by omega, rfl, fun j hj => absurd hj (by omega), Below.refl _ _⟩
        case round =>
          obtain ⟨j, hj, rfl, hjall, hwi⟩ := hrel
          have HJ := Lib.hid hjall
          clear hjall
          have y3 := (HY.out.below hwi).cell 3
          have z3 := (HW.out.below hwi).cell 3
          have ly2 := (HY.out.below hwi).lt
          have lz2 := (HW.out.below hwi).lt
          simp at y3 z3
          by_cases hltj : j < f.code.length
          · have hltj' : j < g.code.length := by omega
            obtain ⟨b2, off2, rfl, hbl2, hd⟩ := ((HCF.out.below hb (by omega)).below hwi (by omega)) (by omega)
            obtain ⟨b3, off3, rfl, hbl3, hd'⟩ := ((HCG.out.below hb (by omega)).below hwi (by omega)) (by omega)
            obtain ⟨d0, d1, d2⟩ := hd j hltj
            obtain ⟨k0, k1, k2⟩ := hd' j hltj'
            clear hd hd'
            have hne : f.code[j] ≠ g.code[j] → f ≠ g := fun h e => by subst e; exact h rfl
            have hst : f.code[j] = g.code[j] → ∀ m (h1 : m < j + 1) (h2 : m < f.code.length) (h3 : m < g.code.length), f.code[m] = g.code[m] := fun e m h1 h2 h3 => by
              rcases Nat.lt_succ_iff_lt_or_eq.1 h1 with h | rfl
              · exact HJ.out m h h2 h3
              · exact e
            generalize f.code[j] = x at *
            generalize g.code[j] = u at *
            obtain ⟨xo, xa, xb⟩ := x
            obtain ⟨uo, ua, ub⟩ := u
            have HNE := Lib.hid hne
            have HST2 := Lib.hid hst
            clear hne hst
            have kn := fun W => neqi_run xo xa xb uo ua ub W
            obtain ⟨m, hm⟩ : ∃ m : Bool, m = decide ((xo, xa, xb) ≠ (uo, ua, ub)) := ⟨_, rfl⟩
            rw [← hm] at kn
            have HM := Lib.hid hm
            clear hm
            have gy := fun d os => cell_regrown y3 d os
            have gz := fun d os => cell_regrown z3 d os
            have q0 := fun d os => cell_regrown d0 d os
            have q1 := fun d os => cell_regrown d1 d os
            have q2 := fun d os => cell_regrown d2 d os
            have r0 := fun d os => cell_regrown k0 d os
            have r1 := fun d os => cell_regrown k1 d os
            have r2 := fun d os => cell_regrown k2 d os
            cases m
            · have he : (xo, xa, xb) = (uo, ua, ub) := by
                have := HM.out
                simpa using this
              have HE := Lib.hid he
              clear he
              go_upto_region 12 with (fail)
              clear y3 z3 d0 d1 d2 k0 k1 k2
              refine wp_region_quiet_below (by kernel_rfl) (by kernel_rfl) ?_
              (repeat (first | go_big_quiet_step (fail) | quiet_step (fail)))
              refine wpQuiet_nil ?_
              intro v hv
              have hbv := below_of_regrown hv
              clear hv gy gz q0 q1 q2 r0 r1 r2
              replace hwi := Below.step hwi hbv
              go_wp2_with fail
              go_roundw
              case rel => exact ⟨j + 1, by omega, by go_num, HST2.out HE.out, hwi⟩
              case measure => simp [intOf]; omega
            · have he : (xo, xa, xb) ≠ (uo, ua, ub) := by
                have := HM.out
                intro e
                rw [e] at this
                simp at this
              have hs := HAT.out (HNE.out he)
              have HS := Lib.hid hs
              clear he hs
              go_upto_region 12 with (fail)
              clear y3 z3 d0 d1 d2 k0 k1 k2
              refine wp_region_quiet_below (by kernel_rfl) (by kernel_rfl) ?_
              (repeat (first | go_big_quiet_step (fail) | quiet_step (fail)))
              refine wpQuiet_nil ?_
              intro v hv
              have hbv := below_of_regrown hv
              clear hv gy gz q0 q1 q2 r0 r1 r2
              replace hwi := Below.step hwi hbv
              go_wp2_with fail
              go_ret
              rw [HS.out]
              exact ⟨rfl, Below.step hwx hwi⟩
          · obtain rfl : j = f.code.length := by omega
            have he : f = g := by
              have hc : f.code = g.code := List.ext_getElem e3 fun m h1 h2 => HJ.out m h1 h1 h2
              cases f
              cases g
              simp only [Fun.mk.injEq]
              exact ⟨E.out.1, E.out.2.1, E.out.2.2, hc⟩
            have HE := Lib.hid he
            clear he
            go_wp2_with fail
            go_roundw
            case rel => exact ⟨k + 1, by omega, by go_num, HST.out HE.out, Below.step hwx hwi⟩
            case measure => simp [intOf]; omega
    · obtain rfl : k = p.length := by omega
      have hs : sameP p q = true := by
        rw [sameP_iff]
        exact List.ext_getElem hlen fun j h1 h2 => HALL.out j h1 h1 h2
      have HS := Lib.hid hs
      clear hs
      go_wp2_with fail
      go_ret
      rw [HS.out]
      exact ⟨rfl, hw⟩
end Go.Proofs.YtcfdbciooimjmaaGreatDoor

