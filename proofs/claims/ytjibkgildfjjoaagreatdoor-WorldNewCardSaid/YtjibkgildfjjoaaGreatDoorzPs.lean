/- Layer 7: programs in memory; arguments that are programs, opened. -/
import Derived.Test.YtjibkgildfjjoaaGreatDoorRows
import Derived.Test.YtjibkgildfjjoaaGreatDoorzHd
import Derived.Test.YtjibkgildfjjoaaGreatDoorzPp
import Derived.Deep.SlicePairs
import Derived.Lib.SmallJoins
import Derived.Laws.Rows
import Derived.Test.YtjibkgildfjjoaaGreatDoorzQt
import Derived.OpenShut
import Derived.Lib.Hide
import Derived.WalkMore
import Derived.Handy
import Derived.BigQuiet
import Derived.Deep.QuietTactic
import Derived.RegionTactic
import Derived.Deep.DeepCutAuto
import Derived.Deep.CutBlock
import Derived.Deep.RegionHeld3
import Derived.Test.YtjibkgildfjjoaaGreatDoorzOt
import Derived.Test.YtjibkgildfjjoaaGreatDoorzOp
import Derived.Lib.LaidTab
namespace Go.Proofs.YtjibkgildfjjoaaGreatDoor
set_option linter.unusedVariables false
set_option linter.unusedSimpArgs false
open Go.RowKit Go.ChangeShapes Go.WideShapes Go.ChangeAt Go.Deep Go.Joins

abbrev Ins := Int × Int × Int
/-- The slice at A holds these instructions, below block B. -/
def CodeAt (w : World) (B : Nat) (A : Option Addr) (l : List Ins) : Prop :=
  0 < l.length → ∃ b off, A = some ⟨b, off, none⟩ ∧ b < B ∧ ∀ j (h : j < l.length), w.cell? ⟨b, off + j * 3, none⟩ = some (.int .i64 l[j].1) ∧ w.cell? ⟨b, off + j * 3 + 1, none⟩ = some (.int .i64 l[j].2.1) ∧ w.cell? ⟨b, off + j * 3 + 2, none⟩ = some (.int .i64 l[j].2.2)
/-- A function at a place. -/
def FunAt (w : World) (B b off : Nat) (f : Fun) : Prop :=
  w.cell? ⟨b, off, none⟩ = some (.int .i64 f.ar) ∧ w.cell? ⟨b, off + 1, none⟩ = some (.int .i64 f.lo) ∧ w.cell? ⟨b, off + 2, none⟩ = some (.int .i64 f.sl) ∧
  ∃ A c, w.cell? ⟨b, off + 3, none⟩ = some (.slice A f.code.length c) ∧ CodeAt w B A f.code
/-- The slice at A holds this program, below block B. -/
def ProgAt (w : World) (B : Nat) (A : Option Addr) (p : List Fun) : Prop :=
  0 < p.length → ∃ b off, A = some ⟨b, off, none⟩ ∧ b < B ∧ ∀ j (h : j < p.length), FunAt w B b (off + j * 4) p[j]
theorem CodeAt.below {w w' : World} {B : Nat} {A : Option Addr} {l : List Ins} (h : CodeAt w B A l) {C : Nat} (hb : Below C w w') (hC : B ≤ C) : CodeAt w' B A l := fun h0 => by
  obtain ⟨b, off, e, hlt, hc⟩ := h h0
  refine ⟨b, off, e, hlt, fun j hj => ⟨?_, ?_, ?_⟩⟩
  · exact (hb.cell (p := ⟨b, off + j * 3, none⟩) (by show b < C; omega)).trans (hc j hj).1
  · exact (hb.cell (p := ⟨b, off + j * 3 + 1, none⟩) (by show b < C; omega)).trans (hc j hj).2.1
  · exact (hb.cell (p := ⟨b, off + j * 3 + 2, none⟩) (by show b < C; omega)).trans (hc j hj).2.2
theorem FunAt.below {w w' : World} {B b off : Nat} {f : Fun} (h : FunAt w B b off f) {C : Nat} (hb : Below C w w') (hC : B ≤ C) (hlt : b < C) : FunAt w' B b off f := by
  obtain ⟨h0, h1, h2, A, c, h3, h4⟩ := h
  refine ⟨?_, ?_, ?_, A, c, ?_, h4.below hb hC⟩
  · exact (hb.cell (p := ⟨b, off, none⟩) hlt).trans h0
  · exact (hb.cell (p := ⟨b, off + 1, none⟩) hlt).trans h1
  · exact (hb.cell (p := ⟨b, off + 2, none⟩) hlt).trans h2
  · exact (hb.cell (p := ⟨b, off + 3, none⟩) hlt).trans h3
theorem ProgAt.below {w w' : World} {B : Nat} {A : Option Addr} {p : List Fun} (h : ProgAt w B A p) {C : Nat} (hb : Below C w w') (hC : B ≤ C) : ProgAt w' B A p := fun h0 => by
  obtain ⟨b, off, e, hlt, hc⟩ := h h0
  exact ⟨b, off, e, hlt, fun j hj => (hc j hj).below hb hC (by omega)⟩
theorem CodeAt.more {w : World} {B C : Nat} {A : Option Addr} {l : List Ins} (h : CodeAt w B A l) (hC : B ≤ C) : CodeAt w C A l := fun h0 => by
  obtain ⟨b, off, e, hlt, hc⟩ := h h0
  exact ⟨b, off, e, by omega, hc⟩
theorem FunAt.more {w : World} {B C b off : Nat} {f : Fun} (h : FunAt w B b off f) (hC : B ≤ C) : FunAt w C b off f := by
  obtain ⟨h0, h1, h2, A, c, h3, h4⟩ := h
  exact ⟨h0, h1, h2, A, c, h3, h4.more hC⟩
theorem ProgAt.more {w : World} {B C : Nat} {A : Option Addr} {p : List Fun} (h : ProgAt w B A p) (hC : B ≤ C) : ProgAt w C A p := fun h0 => by
  obtain ⟨b, off, e, hlt, hc⟩ := h h0
  exact ⟨b, off, e, by omega, fun j hj => (hc j hj).more hC⟩
theorem ProgAt.nil (w : World) (B : Nat) (A : Option Addr) : ProgAt w B A [] := fun h => absurd h (by simp)
theorem CodeAt.nil (w : World) (B : Nat) (A : Option Addr) : CodeAt w B A [] := fun h => absurd h (by simp)
/-- What a walk may know of a program's sizes. -/
def SizedP (p : List Fun) : Prop := p.length ≤ maxLen ∧ ∀ f ∈ p, f.code.length ≤ maxLen

/-- Are programs the same? -/
noncomputable def sameP (p q : List Fun) : Bool := @decide (p = q) (Classical.propDecidable _)
theorem sameP_iff (p q : List Fun) : sameP p q = true ↔ p = q := by unfold sameP; exact @decide_eq_true_iff _ (Classical.propDecidable _)
theorem sameP_no {p q : List Fun} (h : p ≠ q) : sameP p q = false := by
  rw [← Bool.not_eq_true, sameP_iff]
  exact h
theorem sameP_at {p q : List Fun} {k : Nat} (h1 : k < p.length) (h2 : k < q.length) (h : p[k] ≠ q[k]) : sameP p q = false := sameP_no fun e => by
  subst e
  exact h rfl
theorem addr_add (b off n : Nat) : (⟨b, off, none⟩ : Addr).add n = ⟨b, off + n, none⟩ := by unfold Addr.add; split <;> simp [*]

set_option maxRecDepth 100000 in
theorem open_code {H : Type} {enc : TypeId × Value → H} {W : World} {base : Nat} {sp : Nat → Bool} {hd : Bool} {fuel : Nat} {cs : List Value} {x : DataW H × List MemPlace}
    (h : DataW.trod enc Tryz.prog W base sp hd fuel 71 cs = some x) : ∃ A c l, cs = [.slice A l.length c] ∧ CodeAt W W.heap.size A l ∧ l.length ≤ maxLen := by
  rcases open_slice Tryz.underlying71 h with ⟨rfl, _⟩ | ⟨a, len, cap, m, n, D, Pl, rfl, _, hl, hm, hmm, rfl, hx⟩
  · exact ⟨none, 0, [], rfl, CodeAt.nil _ _ _, by simp⟩
  · have hlm : len ≤ m := by rw [hmm]; split <;> omega
    have ce : Tryz.prog.cellsOf 115 = 3 := by kernel_rfl
    have each : ∀ i, i < len → ∃ q : Ins, W.cell? (a.add (i * 3)) = some (.int .i64 q.1) ∧ W.cell? (a.add (i * 3 + 1)) = some (.int .i64 q.2.1) ∧ W.cell? (a.add (i * 3 + 2)) = some (.int .i64 q.2.2) := by
      intro i hi
      obtain ⟨cs', h1, h2⟩ := hx i (by omega)
      rw [ce] at h1
      obtain ⟨_, hlen, hcell⟩ := World.cells?_some h1
      obtain ⟨y0, y1, y2, k, _, _, g0, g1, g2⟩ := trod_struct3 Tryz.underlying115 h2
      match cs', hlen with
      | [v0, v1, v2], _ =>
        have ci : Tryz.prog.cellsOf 3 = 1 := by kernel_rfl
        simp [ci] at g0 g1 g2
        obtain ⟨n0, e0, _, _⟩ := DataW.trod_int Tryz.underlying3 g0
        obtain ⟨n1, e1, _, _⟩ := DataW.trod_int Tryz.underlying3 g1
        obtain ⟨n2, e2, _, _⟩ := DataW.trod_int Tryz.underlying3 g2
        simp at e0 e1 e2
        subst e0 e1 e2
        have c0 := hcell 0 (by omega)
        have c1 := hcell 1 (by omega)
        have c2 := hcell 2 (by omega)
        rw [add_add] at c0 c1 c2
        exact ⟨(n0, n1, n2), by simpa using c0, by simpa using c1, by simpa using c2⟩
    obtain ⟨q, hq⟩ := choose_lt each
    refine ⟨some a, cap, (List.range len).map q, by simp, fun h0 => ?_, by simp; omega⟩
    have hlen : 0 < len := by simpa using h0
    obtain ⟨b, off, spot⟩ := a
    have hspot : spot = none := by simpa [Addr.add] using World.cell?_spot (hq 0 hlen).1
    subst hspot
    refine ⟨b, off, rfl, block_lt_of_cell (a := Addr.add ⟨b, off, none⟩ (0 * 3)) (hq 0 hlen).1, fun j hj => ?_⟩
    have hj' : j < len := by simpa using hj
    obtain ⟨c0, c1, c2⟩ := hq j hj'
    rw [addr_add] at c0 c1 c2
    simp only [List.getElem_map, List.getElem_range]
    exact ⟨c0, c1, c2⟩

instance : Inhabited Fun := ⟨⟨0, 0, 0, []⟩⟩
end Go.Proofs.YtjibkgildfjjoaaGreatDoor

/- Layer 7: the document's Same. -/
namespace Go.Proofs.YtjibkgildfjjoaaGreatDoor
set_option linter.unusedVariables false
set_option linter.unusedSimpArgs false
open Go.RowKit Go.ChangeShapes Go.WideShapes Go.ChangeAt Go.Sort

theorem neqi_run (a b c d e f : Int) (W : World) : (binOp .neq 115 (iv a b c) (iv d e f)).run Tryz.prog W = .ok (.bool (decide ((a, b, c) ≠ (d, e, f)))) W := by
  by_cases h1 : a = d <;> by_cases h2 : b = e <;> by_cases h3 : c = f <;> simp [go_sem, h1, h2, h3]
/-- Two functions, laid in new blocks. -/
def Mid4 (w0 : World) (x0 x1 x2 x3 y0 y1 y2 y3 : Value) (v6 v7 : Value) (wx : World) : Prop := ∃ y z, v6 = .pointer (some ⟨y, 0, none⟩) ∧ v7 = .pointer (some ⟨z, 0, none⟩) ∧ Held wx y 73 #[x0, x1, x2, x3] ∧ Held wx z 73 #[y0, y1, y2, y3] ∧
  y ≠ z ∧ Below w0.heap.size w0 wx

set_option maxHeartbeats 4000000 in
set_option maxRecDepth 100000 in
theorem psame_any {B : Nat} {A A' : Option Addr} {p q : List Fun} (c c' : Nat) (w : World) (h : ProgAt w B A p) (hz : SizedP p) (h' : ProgAt w B A' q) (hB : B ≤ w.heap.size) :
    Calls Tryz.prog 38 #[.slice A p.length c, .slice A' q.length c'] w fun e w' => e = .returned (.bool (sameP p q)) ∧ Below w.heap.size w w' := by
  have HA := Lib.hid h
  have HA' := Lib.hid h'
  have HZ := Lib.hid hz.2
  have hzp := hz.1
  unfold maxLen at hzp
  clear h hz h'
  by_cases hlen : p.length = q.length
  case neg =>
    have hs := sameP_no (p := p) (q := q) fun e => hlen (by rw [e])
    have HS := Lib.hid hs
    have hl : ((p.length : Int) != (q.length : Int)) = true := by simp; omega
    clear hs hlen
    go_enter Tryz.func38, Tryz.ntmps38
    go_wp2
    go_ret
    rw [HS.out]
    exact ⟨rfl, Below.refl _ _⟩
  have hl : ((p.length : Int) != (q.length : Int)) = false := by simp; omega
  go_enter Tryz.func38, Tryz.ntmps38
  go_wp2
  clear hl
  go_loopw [5] (fun i W => ∃ k : Nat, k ≤ p.length ∧ i = .int .i64 k ∧ (∀ j (h1 : j < k) (h2 : j < p.length) (h3 : j < q.length), p[j] = q[j]) ∧ Below w.heap.size w W) (fun i _ => p.length - (intOf i).toNat)
  case atStart => exact ⟨0, by omega, rfl, fun j hj => absurd hj (by omega), Below.refl _ _⟩
  case round =>
    obtain ⟨k, hk, rfl, hall, hw⟩ := hrel
    have HALL := Lib.hid hall
    clear hall
    obtain ⟨wo, rfl⟩ : ∃ wo, wo = wr := ⟨_, rfl⟩
    by_cases hlt : k < p.length
    · have hlt' : k < q.length := by omega
      obtain ⟨b, off, rfl, hbl, hc⟩ := (HA.out.below hw hB) (by omega)
      obtain ⟨b', off', rfl, hbl', hc'⟩ := (HA'.out.below hw hB) (by omega)
      have hF := hc k hlt
      have hF' := hc' k hlt'
      clear hc hc'
      have hat := fun (e : p[k] ≠ q[k]) => sameP_at hlt hlt' e
      have hstep : p[k] = q[k] → ∀ j (h1 : j < k + 1) (h2 : j < p.length) (h3 : j < q.length), p[j] = q[j] := fun e j h1 h2 h3 => by
        rcases Nat.lt_succ_iff_lt_or_eq.1 h1 with h | rfl
        · exact HALL.out j h h2 h3
        · exact e
      have hzf := HZ.out _ (List.getElem_mem hlt)
      unfold maxLen at hzf
      generalize p[k] = f at *
      generalize q[k] = g at *
      have HAT := Lib.hid hat
      have HST := Lib.hid hstep
      clear hat hstep
      obtain ⟨f0, f1, f2, A2, c2, f3, hcf⟩ := hF
      obtain ⟨g0, g1, g2, A3, c3, g3, hcg⟩ := hF'
      have HCF := Lib.hid hcf
      have HCG := Lib.hid hcg
      clear hcf hcg
      have hwz := hw.size
      have hbo : b < wo.heap.size := by omega
      have hbo' : b' < wo.heap.size := by omega
      go_upto_region 6 with (fail)
      go_cut [6, 7] (fun v6 v7 wx => Mid4 wo (.int .i64 f.ar) (.int .i64 f.lo) (.int .i64 f.sl) (.slice A2 f.code.length c2) (.int .i64 g.ar) (.int .i64 g.lo) (.int .i64 g.sl) (.slice A3 g.code.length c3) v6 v7 wx)
      case first =>
        go_region
        all_goals
          go_wp2_with fail
          go_meet
          case rel =>
            refine ⟨_, _, rfl, rfl, ?_, ?_, ?_, ?_⟩
            all_goals first
              | exact Held.new1 _ _ _ _
              | exact (Held.new _ _ _).alloc _
              | omega
              | exact (below2 _ _ _).drew
      case rest =>
        obtain ⟨y, z, rfl, rfl, hy, hz, nyz, hb⟩ := hcut
        have hwx := Below.step hw hb
        have HY := Lib.hid hy
        have HW := Lib.hid hz
        have y0 := hy.cell 0
        have y1 := hy.cell 1
        have y2 := hy.cell 2
        have y3 := hy.cell 3
        have z0 := hz.cell 0
        have z1 := hz.cell 1
        have z2 := hz.cell 2
        have z3 := hz.cell 3
        have ly := hy.lt
        have lz := hz.lt
        simp at y0 y1 y2 y3 z0 z1 z2 z3
        clear hy hz f0 f1 f2 f3 g0 g1 g2 g3
        by_cases e0 : f.ar = g.ar
        case neg =>
          have hs := HAT.out (fun e => e0 (by rw [e]))
          have hn : (f.ar != g.ar) = true := by simpa using e0
          have HS := Lib.hid hs
          clear hs e0
          go_wp2_with fail
          go_ret
          rw [HS.out]
          exact ⟨rfl, hwx⟩
        by_cases e1 : f.lo = g.lo
        case neg =>
          have hs := HAT.out (fun e => e1 (by rw [e]))
          have hm0 : (f.ar != g.ar) = false := by simpa using e0
          have hn : (f.lo != g.lo) = true := by simpa using e1
          have HS := Lib.hid hs
          clear hs e0 e1
          go_wp2_with fail
          go_ret
          rw [HS.out]
          exact ⟨rfl, hwx⟩
        by_cases e2 : f.sl = g.sl
        case neg =>
          have hs := HAT.out (fun e => e2 (by rw [e]))
          have hm0 : (f.ar != g.ar) = false := by simpa using e0
          have hm1 : (f.lo != g.lo) = false := by simpa using e1
          have hn : (f.sl != g.sl) = true := by simpa using e2
          have HS := Lib.hid hs
          clear hs e0 e1 e2
          go_wp2_with fail
          go_ret
          rw [HS.out]
          exact ⟨rfl, hwx⟩
        by_cases e3 : f.code.length = g.code.length
        case neg =>
          have hs := HAT.out (fun e => e3 (by rw [e]))
          have hm0 : (f.ar != g.ar) = false := by simpa using e0
          have hm1 : (f.lo != g.lo) = false := by simpa using e1
          have hm2 : (f.sl != g.sl) = false := by simpa using e2
          have hn : ((f.code.length : Int) != (g.code.length : Int)) = true := by simp; omega
          have HS := Lib.hid hs
          clear hs e0 e1 e2 e3
          go_wp2_with fail
          go_ret
          rw [HS.out]
          exact ⟨rfl, hwx⟩
        have hm0 : (f.ar != g.ar) = false := by simpa using e0
        have hm1 : (f.lo != g.lo) = false := by simpa using e1
        have hm2 : (f.sl != g.sl) = false := by simpa using e2
        have hm3 : ((f.code.length : Int) != (g.code.length : Int)) = false := by simp; omega
        have E := Lib.hid (And.intro e0 (And.intro e1 e2))
        clear e0 e1 e2
        go_wp2_with fail
        clear hm0 hm1 hm2 hm3 y0 y1 y2 z0 z1 z2 y3 z3
        have hbz := hb.size
        go_loopw [8] (fun i W => ∃ j : Nat, j ≤ f.code.length ∧ i = .int .i64 j ∧ (∀ m (h1 : m < j) (h2 : m < f.code.length) (h3 : m < g.code.length), f.code[m] = g.code[m]) ∧ Below wc.heap.size wc W) (fun i _ => f.code.length - (intOf i).toNat)
        case atStart => exact ⟨0, by omega, rfl, fun j hj => absurd hj (by omega), Below.refl _ _⟩
        case round =>
          obtain ⟨j, hj, rfl, hjall, hwi⟩ := hrel
          have HJ := Lib.hid hjall
          clear hjall
          have y3 := (HY.out.below hwi).cell 3
          have z3 := (HW.out.below hwi).cell 3
          have ly2 := (HY.out.below hwi).lt
          have lz2 := (HW.out.below hwi).lt
          simp at y3 z3
          by_cases hltj : j < f.code.length
          · have hltj' : j < g.code.length := by omega
            obtain ⟨b2, off2, rfl, hbl2, hd⟩ := ((HCF.out.below hb (by omega)).below hwi (by omega)) (by omega)
            obtain ⟨b3, off3, rfl, hbl3, hd'⟩ := ((HCG.out.below hb (by omega)).below hwi (by omega)) (by omega)
            obtain ⟨d0, d1, d2⟩ := hd j hltj
            obtain ⟨k0, k1, k2⟩ := hd' j hltj'
            clear hd hd'
            have hne : f.code[j] ≠ g.code[j] → f ≠ g := fun h e => by subst e; exact h rfl
            have hst : f.code[j] = g.code[j] → ∀ m (h1 : m < j + 1) (h2 : m < f.code.length) (h3 : m < g.code.length), f.code[m] = g.code[m] := fun e m h1 h2 h3 => by
              rcases Nat.lt_succ_iff_lt_or_eq.1 h1 with h | rfl
              · exact HJ.out m h h2 h3
              · exact e
            generalize f.code[j] = x at *
            generalize g.code[j] = u at *
            obtain ⟨xo, xa, xb⟩ := x
            obtain ⟨uo, ua, ub⟩ := u
            have HNE := Lib.hid hne
            have HST2 := Lib.hid hst
            clear hne hst
            have kn := fun W => neqi_run xo xa xb uo ua ub W
            obtain ⟨m, hm⟩ : ∃ m : Bool, m = decide ((xo, xa, xb) ≠ (uo, ua, ub)) := ⟨_, rfl⟩
            rw [← hm] at kn
            have HM := Lib.hid hm
            clear hm
            have gy := fun d os => cell_regrown y3 d os
            have gz := fun d os => cell_regrown z3 d os
            have q0 := fun d os => cell_regrown d0 d os
            have q1 := fun d os => cell_regrown d1 d os
            have q2 := fun d os => cell_regrown d2 d os
            have r0 := fun d os => cell_regrown k0 d os
            have r1 := fun d os => cell_regrown k1 d os
            have r2 := fun d os => cell_regrown k2 d os
            cases m
            · have he : (xo, xa, xb) = (uo, ua, ub) := by
                have := HM.out
                simpa using this
              have HE := Lib.hid he
              clear he
              go_upto_region 12 with (fail)
              clear y3 z3 d0 d1 d2 k0 k1 k2
              refine wp_region_quiet_below (by kernel_rfl) (by kernel_rfl) ?_
              (repeat (first | go_big_quiet_step (fail) | quiet_step (fail)))
              refine wpQuiet_nil ?_
              intro v hv
              have hbv := below_of_regrown hv
              clear hv gy gz q0 q1 q2 r0 r1 r2
              replace hwi := Below.step hwi hbv
              go_wp2_with fail
              go_roundw
              case rel => exact ⟨j + 1, by omega, by go_num, HST2.out HE.out, hwi⟩
              case measure => simp [intOf]; omega
            · have he : (xo, xa, xb) ≠ (uo, ua, ub) := by
                have := HM.out
                intro e
                rw [e] at this
                simp at this
              have hs := HAT.out (HNE.out he)
              have HS := Lib.hid hs
              clear he hs
              go_upto_region 12 with (fail)
              clear y3 z3 d0 d1 d2 k0 k1 k2
              refine wp_region_quiet_below (by kernel_rfl) (by kernel_rfl) ?_
              (repeat (first | go_big_quiet_step (fail) | quiet_step (fail)))
              refine wpQuiet_nil ?_
              intro v hv
              have hbv := below_of_regrown hv
              clear hv gy gz q0 q1 q2 r0 r1 r2
              replace hwi := Below.step hwi hbv
              go_wp2_with fail
              go_ret
              rw [HS.out]
              exact ⟨rfl, Below.step hwx hwi⟩
          · obtain rfl : j = f.code.length := by omega
            have he : f = g := by
              have hc : f.code = g.code := List.ext_getElem e3 fun m h1 h2 => HJ.out m h1 h1 h2
              cases f
              cases g
              simp only [Fun.mk.injEq]
              exact ⟨E.out.1, E.out.2.1, E.out.2.2, hc⟩
            have HE := Lib.hid he
            clear he
            go_wp2_with fail
            go_roundw
            case rel => exact ⟨k + 1, by omega, by go_num, HST.out HE.out, Below.step hwx hwi⟩
            case measure => simp [intOf]; omega
    · obtain rfl : k = p.length := by omega
      have hs : sameP p q = true := by
        rw [sameP_iff]
        exact List.ext_getElem hlen fun j h1 h2 => HALL.out j h1 h1 h2
      have HS := Lib.hid hs
      clear hs
      go_wp2_with fail
      go_ret
      rw [HS.out]
      exact ⟨rfl, hw⟩
end Go.Proofs.YtjibkgildfjjoaaGreatDoor

/- Layer 7's code: May. -/
namespace Go.Proofs.YtjibkgildfjjoaaGreatDoor
set_option linter.unusedVariables false
set_option linter.unusedSimpArgs false
open Go.RowKit Go.ChangeShapes Go.WideShapes Go.ChangeAt Go.Sort

set_option maxHeartbeats 1000000 in
theorem cwithin_any (n a b : Int) (w : World) : Calls Tryz.prog 84 #[.int .i64 n, .int .i64 a, .int .i64 b] w fun e w' => e = .returned (.bool (decide (a ≤ n) && decide (n ≤ b))) ∧ w = w' := by
  go_enter Tryz.func84, Tryz.ntmps84
  go_wp2_with fail
  all_goals
    go_ret
    refine ⟨ret_bool ?_, rfl⟩
    rw [Bool.eq_iff_iff]
    simp
    omega
theorem cs_cwithin {n a b : Int} {x : Bool} (h : (decide (a ≤ n) && decide (n ≤ b)) = x) : Cs Tryz.prog 84 #[.int .i64 n, .int .i64 a, .int .i64 b] (.bool x) := fun W => by have := cwithin_any n a b W; rwa [h] at this

set_option maxHeartbeats 1000000 in
set_option maxRecDepth 100000 in
theorem chead_any (a l s : Int) (v : Value) : Ct Tryz.prog 105 #[.agg #[.int .i64 a, .int .i64 l, .int .i64 s, v]] (.bool (headB a l s)) := fun w => by
  have C1 := cs_cwithin (n := a) (a := 0) (b := 16) rfl
  have C2 := cs_cwithin (n := l) (a := 0) (b := 16) rfl
  have C3 := cs_cwithin (n := s) (a := 0) (b := 8) rfl
  have hm : headB a l s = ((decide (0 ≤ a) && decide (a ≤ 16)) && (decide (0 ≤ l) && decide (l ≤ 16)) && (decide (0 ≤ s) && decide (s ≤ 8))) := rfl
  rw [hm]
  generalize (decide (0 ≤ a) && decide (a ≤ 16)) = x1 at *
  generalize (decide (0 ≤ l) && decide (l ≤ 16)) = x2 at *
  generalize (decide (0 ≤ s) && decide (s ≤ 8)) = x3 at *
  clear hm
  cases x1 <;> cases x2 <;> cases x3
  all_goals
    go_enter Tryz.func105, Tryz.ntmps105
    go_wp2_with (first
      | (go_at_call 84; (with_reducible refine (C1.go _).mono ?_); rintro e v ⟨rfl, rfl⟩)
      | (go_at_call 84; (with_reducible refine (C2.go _).mono ?_); rintro e v ⟨rfl, rfl⟩)
      | (go_at_call 84; (with_reducible refine (C3.go _).mono ?_); rintro e v ⟨rfl, rfl⟩))
    go_ret
    exact ⟨rfl, by go_grown⟩

/-- The value of a function without captures. -/
abbrev fnv (n : Nat) : Value := .func (.func n) #[] #[]

set_option maxHeartbeats 1000000 in
set_option maxRecDepth 100000 in
theorem allI_any {B : Nat} {A : Option Addr} {l : List Ins} (c : Nat) (w : World) (hT : Otab w) (h : CodeAt w B A l) (hz : l.length ≤ maxLen) (hB : B ≤ w.heap.size) :
    Calls Tryz.prog 106 #[.slice A l.length c, fnv 107] w fun e w' => e = .returned (.bool (l.all fun x => mayZ x.1 x.2.1 x.2.2)) ∧ Below w.heap.size w w' := by
  have HA := Lib.hid h
  unfold maxLen at hz
  clear h
  go_enter Tryz.func106, Tryz.ntmps106
  go_wp2
  go_loopw [9] (fun i W => ∃ j : Nat, j ≤ l.length ∧ i = .int .i64 j ∧ (∀ x ∈ l.take j, mayZ x.1 x.2.1 x.2.2 = true) ∧ Below w.heap.size w W) (fun i _ => l.length - (intOf i).toNat)
  case atStart => exact ⟨0, by omega, rfl, by simp, Below.refl _ _⟩
  case round =>
    obtain ⟨j, hj, rfl, hall, hw⟩ := hrel
    have HJ := Lib.hid hall
    clear hall
    have hwz := hw.size
    by_cases hlt : j < l.length
    · obtain ⟨b, off, rfl, hbl, hd⟩ := (HA.out.below hw hB) (by omega)
      obtain ⟨d0, d1, d2⟩ := hd j hlt
      clear hd
      have hjt : l.take (j + 1) = l.take j ++ [l[j]] := List.take_succ_eq_append_getElem hlt
      have hjm : l[j] ∈ l := List.getElem_mem hlt
      generalize l[j] = x at *
      obtain ⟨xo, xa, xb⟩ := x
      have HJT := Lib.hid hjt
      have HJM := Lib.hid hjm
      clear hjt hjm
      have CM := fun W h => Lib.hid (opmay_any xo xa xb W h)
      have hT2 := hT.below hw
      have CM2 := fun cs ty => CM (wr.alloc (.cells cs ty)) ((hT2.below ((Below.refl _ _).alloc (Nat.le_refl _) _)))
      clear CM
      cases hx : mayZ xo xa xb
      · rw [hx] at CM2
        have hf : (l.all fun x => mayZ x.1 x.2.1 x.2.2) = false := by
          rw [← Bool.not_eq_true, List.all_eq_true]
          intro h
          have := h _ HJM.out
          simp only at this
          rw [hx] at this
          cases this
        have HF := Lib.hid hf
        clear hf hx
        go_wp2_with (go_at_call 107; (with_reducible refine (CM2 _ _).out.mono ?_); rintro e v ⟨rfl, hb⟩; replace hw := Below.step hw (below_laid hb); clear hb)
        go_ret
        rw [HF.out]
        exact ⟨rfl, hw⟩
      · rw [hx] at CM2
        have HX := Lib.hid hx
        clear hx
        go_wp2_with (go_at_call 107; (with_reducible refine (CM2 _ _).out.mono ?_); rintro e v ⟨rfl, hb⟩; replace hw := Below.step hw (below_laid hb); clear hb)
        go_roundw
        case rel =>
          refine ⟨j + 1, by omega, by go_num, ?_, hw⟩
          rw [HJT.out]
          intro y hy
          rcases List.mem_append.1 hy with h | h
          · exact HJ.out y h
          · simp only [List.mem_singleton] at h
            subst h
            exact HX.out
        case measure => simp [intOf]; omega
    · obtain rfl : j = l.length := by omega
      have hall := HJ.out
      rw [List.take_length] at hall
      have hf : (l.all fun x => mayZ x.1 x.2.1 x.2.2) = true := List.all_eq_true.2 hall
      have HF := Lib.hid hf
      clear hf hall
      go_wp2_with fail
      go_ret
      rw [HF.out]
      exact ⟨rfl, hw⟩

set_option maxHeartbeats 1000000 in
set_option maxRecDepth 100000 in
theorem cmayF_any {B : Nat} {A : Option Addr} {f : Fun} (c : Nat) (w : World) (hT : Otab w) (h : CodeAt w B A f.code) (hz : f.code.length ≤ maxLen) (hB : B ≤ w.heap.size) :
    Calls Tryz.prog 86 #[.agg #[.int .i64 f.ar, .int .i64 f.lo, .int .i64 f.sl, .slice A f.code.length c]] w fun e w' => e = .returned (.bool (mayF f)) ∧ Below w.heap.size w w' := by
  have HA := Lib.hid h
  have hz2 := hz
  unfold maxLen at hz2
  have CH := chead_any f.ar f.lo f.sl (.slice A f.code.length c)
  have CW := cs_cwithin (n := f.code.length) (a := 1) (b := 200) rfl
  have CA := fun W hT h hB => Lib.hid (allI_any (B := B) (A := A) (l := f.code) c W hT h hz hB)
  have hm : mayF f = (headB f.ar f.lo f.sl && (decide (1 ≤ (f.code.length : Int)) && decide ((f.code.length : Int) ≤ 200)) && f.code.all fun x => mayZ x.1 x.2.1 x.2.2) := by
    have e1 : decide (1 ≤ (f.code.length : Int)) = decide (1 ≤ f.code.length) := by rw [decide_eq_decide]; omega
    have e2 : decide ((f.code.length : Int) ≤ 200) = decide (f.code.length ≤ 200) := by rw [decide_eq_decide]; omega
    rw [e1, e2]
    rfl
  rw [hm]
  clear hm hz h
  generalize headB f.ar f.lo f.sl = x1 at *
  generalize (decide (1 ≤ (f.code.length : Int)) && decide ((f.code.length : Int) ≤ 200)) = x2 at *
  generalize (f.code.all fun x => mayZ x.1 x.2.1 x.2.2) = x3 at *
  have hw := Below.refl w.heap.size w
  generalize hx0 : f.ar = fa at *
  generalize hx0 : f.lo = fl at *
  generalize hx0 : f.sl = fs at *
  cases x1 <;> cases x2 <;> cases x3
  all_goals
    go_enter Tryz.func86, Tryz.ntmps86
    go_wp2_with (first
      | (go_at_call 105; (with_reducible refine (CH.go _).mono ?_); rintro e v ⟨rfl, hb⟩; have hH := (Held.new w _ _).below hb; have c3 := hH.cell 3; have hl := hH.lt; simp at c3; replace hw := below_laid hb; have hs := hw.size; clear hb hH)
      | (go_at_call 84; (with_reducible refine (CW.go _).mono ?_); rintro e v ⟨rfl, rfl⟩)
      | (go_at_call 106; (with_reducible refine (CA _ (hT.below hw) (HA.out.below hw hB) (by omega)).out.mono ?_); rintro e v ⟨rfl, hb⟩; replace hw := Below.step hw hb; clear hb))
    go_ret
    exact ⟨rfl, hw⟩

set_option maxHeartbeats 1000000 in
set_option maxRecDepth 100000 in
theorem allF_any {B : Nat} {A : Option Addr} {p : List Fun} (c : Nat) (w : World) (hT : Otab w) (h : ProgAt w B A p) (hz : SizedP p) (hB : B ≤ w.heap.size) :
    Calls Tryz.prog 85 #[.slice A p.length c, fnv 86] w fun e w' => e = .returned (.bool (p.all mayF)) ∧ Below w.heap.size w w' := by
  have HA := Lib.hid h
  have HZ := Lib.hid hz.2
  have hzp := hz.1
  unfold maxLen at hzp
  clear h hz
  go_enter Tryz.func85, Tryz.ntmps85
  go_wp2
  go_loopw [9] (fun i W => ∃ j : Nat, j ≤ p.length ∧ i = .int .i64 j ∧ (∀ x ∈ p.take j, mayF x = true) ∧ Below w.heap.size w W) (fun i _ => p.length - (intOf i).toNat)
  case atStart => exact ⟨0, by omega, rfl, by simp, Below.refl _ _⟩
  case round =>
    obtain ⟨j, hj, rfl, hall, hw⟩ := hrel
    have HJ := Lib.hid hall
    clear hall
    have hwz := hw.size
    by_cases hlt : j < p.length
    · obtain ⟨b, off, rfl, hbl, hd⟩ := (HA.out.below hw hB) (by omega)
      obtain ⟨d0, d1, d2, A2, c2, d3, hcode⟩ := hd j hlt
      clear hd
      have hjt : p.take (j + 1) = p.take j ++ [p[j]] := List.take_succ_eq_append_getElem hlt
      have hjm : p[j] ∈ p := List.getElem_mem hlt
      have hzf := HZ.out _ hjm
      generalize p[j] = x at *
      have HJT := Lib.hid hjt
      have HJM := Lib.hid hjm
      clear hjt hjm
      have hT2 := hT.below hw
      have CM := fun cs ty => Lib.hid (cmayF_any (f := x) c2 (wr.alloc (.cells cs ty)) (hT2.below ((Below.refl _ _).alloc (Nat.le_refl _) _)) (hcode.below ((Below.refl wr.heap.size wr).alloc (Nat.le_refl _) _) (by omega)) hzf (by simp; omega))
      clear hcode
      obtain ⟨xa, xl, xs, xc⟩ := x
      simp only at *
      generalize xc.length = n at *
      cases hx : mayF ⟨xa, xl, xs, xc⟩
      · rw [hx] at CM
        have hf : (p.all mayF) = false := by
          rw [← Bool.not_eq_true, List.all_eq_true]
          intro h
          have := h _ HJM.out
          rw [hx] at this
          cases this
        have HF := Lib.hid hf
        clear hf hx hzf
        go_wp2_with (go_at_call 86; (with_reducible refine (CM _ _).out.mono ?_); rintro e v ⟨rfl, hb⟩; replace hw := Below.step hw (below_laid hb); clear hb)
        go_ret
        rw [HF.out]
        exact ⟨rfl, hw⟩
      · rw [hx] at CM
        have HX := Lib.hid hx
        clear hx hzf
        go_wp2_with (go_at_call 86; (with_reducible refine (CM _ _).out.mono ?_); rintro e v ⟨rfl, hb⟩; replace hw := Below.step hw (below_laid hb); clear hb)
        go_roundw
        case rel =>
          refine ⟨j + 1, by omega, by go_num, ?_, hw⟩
          rw [HJT.out]
          intro y hy
          rcases List.mem_append.1 hy with h | h
          · exact HJ.out y h
          · simp only [List.mem_singleton] at h
            subst h
            exact HX.out
        case measure => simp [intOf]; omega
    · obtain rfl : j = p.length := by omega
      have hall := HJ.out
      rw [List.take_length] at hall
      have hf : (p.all mayF) = true := List.all_eq_true.2 hall
      have HF := Lib.hid hf
      clear hf hall
      go_wp2_with fail
      go_ret
      rw [HF.out]
      exact ⟨rfl, hw⟩

set_option maxHeartbeats 1000000 in
set_option maxRecDepth 100000 in
theorem cmay_any {B : Nat} {A : Option Addr} {p : List Fun} (c : Nat) (w : World) (hT : Otab w) (h : ProgAt w B A p) (hz : SizedP p) (hB : B ≤ w.heap.size) :
    Calls Tryz.prog 56 #[.slice A p.length c] w fun e w' => e = .returned (.bool (mayP p)) ∧ Below w.heap.size w w' := by
  have hz2 := hz.1
  unfold maxLen at hz2
  have CW := cs_cwithin (n := p.length) (a := 1) (b := 16) rfl
  have CA := Lib.hid (allF_any c w hT h hz hB)
  have hm : mayP p = ((decide (1 ≤ (p.length : Int)) && decide ((p.length : Int) ≤ 16)) && p.all mayF) := by
    have e1 : decide (1 ≤ (p.length : Int)) = decide (1 ≤ p.length) := by rw [decide_eq_decide]; omega
    have e2 : decide ((p.length : Int) ≤ 16) = decide (p.length ≤ 16) := by rw [decide_eq_decide]; omega
    rw [e1, e2]
    rfl
  rw [hm]
  clear hm hz h
  generalize (decide (1 ≤ (p.length : Int)) && decide ((p.length : Int) ≤ 16)) = x1 at *
  generalize p.all mayF = x2 at *
  have hw := Below.refl w.heap.size w
  cases x1 <;> cases x2
  all_goals
    go_enter Tryz.func56, Tryz.ntmps56
    go_wp2_with (first
      | (go_at_call 84; (with_reducible refine (CW.go _).mono ?_); rintro e v ⟨rfl, rfl⟩)
      | (go_at_call 85; (with_reducible refine CA.out.mono ?_); rintro e v ⟨rfl, hb⟩; replace hw := hb; clear hb))
    go_ret
    exact ⟨rfl, hw⟩
end Go.Proofs.YtjibkgildfjjoaaGreatDoor

/- Programs that may be have sizes. -/
namespace Go.Proofs.YtjibkgildfjjoaaGreatDoor
set_option linter.unusedVariables false
set_option linter.unusedSimpArgs false
open Go.RowKit Go.ChangeShapes Go.WideShapes Go.ChangeAt Go.Sort

theorem may_sized {p : List Fun} (h : mayP p = true) : SizedP p := by
  obtain ⟨_, h2, h3⟩ := (mayP_iff p).1 h
  refine ⟨by unfold maxLen; omega, fun f hf => ?_⟩
  have := h3 f hf
  unfold mayF at this
  simp only [Bool.and_eq_true, decide_eq_true_eq] at this
  unfold maxLen
  omega
theorem nil_sized : SizedP [] := ⟨by simp, fun f hf => by simp at hf⟩
theorem parse_sized (l : List UInt8) : SizedP (parseP l).1 := by
  by_cases h : (parseP l).2.2 = 0
  · exact may_sized (text_parse h).1
  · rw [(parse_none h).1]
    exact nil_sized
end Go.Proofs.YtjibkgildfjjoaaGreatDoor

/- Layer 7's code: Same. -/
namespace Go.Proofs.YtjibkgildfjjoaaGreatDoor
set_option linter.unusedVariables false
set_option linter.unusedSimpArgs false
open Go.RowKit Go.ChangeShapes Go.WideShapes Go.ChangeAt Go.Sort

noncomputable def sameI (l m : List Ins) : Bool := @decide (l = m) (Classical.propDecidable _)
theorem sameI_iff (l m : List Ins) : sameI l m = true ↔ l = m := by unfold sameI; exact @decide_eq_true_iff _ (Classical.propDecidable _)
theorem sameI_no {l m : List Ins} (h : l ≠ m) : sameI l m = false := by rw [← Bool.not_eq_true, sameI_iff]; exact h
noncomputable def sameF (f g : Fun) : Bool := @decide (f = g) (Classical.propDecidable _)
theorem sameF_iff (f g : Fun) : sameF f g = true ↔ f = g := by unfold sameF; exact @decide_eq_true_iff _ (Classical.propDecidable _)
set_option maxHeartbeats 2000000 in
set_option maxRecDepth 100000 in
theorem eqI_any {B : Nat} {A A' : Option Addr} {l m : List Ins} (c c' : Nat) (w : World) (h : CodeAt w B A l) (h' : CodeAt w B A' m) (hz : l.length ≤ maxLen) (hB : B ≤ w.heap.size) :
    Calls Tryz.prog 96 #[.slice A l.length c, .slice A' m.length c'] w fun e w' => e = .returned (.bool (sameI l m)) ∧ Below w.heap.size w w' := by
  have HA := Lib.hid h
  have HA' := Lib.hid h'
  unfold maxLen at hz
  clear h h'
  by_cases hlen : l.length = m.length
  case neg =>
    have hs := sameI_no (l := l) (m := m) fun e => hlen (by rw [e])
    have HS := Lib.hid hs
    have hl : ((l.length : Int) != (m.length : Int)) = true := by simp; omega
    clear hs hlen
    go_enter Tryz.func96, Tryz.ntmps96
    go_wp2
    go_ret
    rw [HS.out]
    exact ⟨rfl, Below.refl _ _⟩
  have hl : ((l.length : Int) != (m.length : Int)) = false := by simp; omega
  go_enter Tryz.func96, Tryz.ntmps96
  go_wp2
  clear hl
  go_loopw [13] (fun i W => ∃ k : Nat, k ≤ l.length ∧ i = .int .i64 k ∧ (∀ j (h1 : j < k) (h2 : j < l.length) (h3 : j < m.length), l[j] = m[j]) ∧ Below w.heap.size w W) (fun i _ => l.length - (intOf i).toNat)
  case atStart => exact ⟨0, by omega, rfl, fun j hj => absurd hj (by omega), Below.refl _ _⟩
  case round =>
    obtain ⟨j, hj, rfl, hall, hw⟩ := hrel
    have HJ := Lib.hid hall
    clear hall
    by_cases hltj : j < l.length
    · have hltj' : j < m.length := by omega
      obtain ⟨b2, off2, rfl, hbl2, hd⟩ := (HA.out.below hw hB) (by omega)
      obtain ⟨b3, off3, rfl, hbl3, hd'⟩ := (HA'.out.below hw hB) (by omega)
      obtain ⟨d0, d1, d2⟩ := hd j hltj
      obtain ⟨k0, k1, k2⟩ := hd' j hltj'
      clear hd hd'
      have hne : l[j] ≠ m[j] → l ≠ m := fun h e => by subst e; exact h rfl
      have hst : l[j] = m[j] → ∀ i (h1 : i < j + 1) (h2 : i < l.length) (h3 : i < m.length), l[i] = m[i] := fun e i h1 h2 h3 => by
        rcases Nat.lt_succ_iff_lt_or_eq.1 h1 with h | rfl
        · exact HJ.out i h h2 h3
        · exact e
      generalize l[j] = x at *
      generalize m[j] = u at *
      obtain ⟨xo, xa, xb⟩ := x
      obtain ⟨uo, ua, ub⟩ := u
      have HNE := Lib.hid hne
      have HST2 := Lib.hid hst
      clear hne hst
      have kn := fun W => neqi_run xo xa xb uo ua ub W
      obtain ⟨t, ht⟩ : ∃ t : Bool, t = decide ((xo, xa, xb) ≠ (uo, ua, ub)) := ⟨_, rfl⟩
      rw [← ht] at kn
      have HM := Lib.hid ht
      clear ht
      have q0 := fun d os => cell_regrown d0 d os
      have q1 := fun d os => cell_regrown d1 d os
      have q2 := fun d os => cell_regrown d2 d os
      have r0 := fun d os => cell_regrown k0 d os
      have r1 := fun d os => cell_regrown k1 d os
      have r2 := fun d os => cell_regrown k2 d os
      cases t
      · have he : (xo, xa, xb) = (uo, ua, ub) := by
          have := HM.out
          simpa using this
        have HE := Lib.hid he
        clear he
        go_upto_region 6 with (fail)
        clear d0 d1 d2 k0 k1 k2
        refine wp_region_quiet_below (by kernel_rfl) (by kernel_rfl) ?_
        (repeat (first | go_big_quiet_step (fail) | quiet_step (fail)))
        refine wpQuiet_nil ?_
        intro v hv
        have hbv := below_of_regrown hv
        clear hv q0 q1 q2 r0 r1 r2
        replace hw := Below.step hw hbv
        go_wp2_with fail
        go_roundw
        case rel => exact ⟨j + 1, by omega, by go_num, HST2.out HE.out, hw⟩
        case measure => simp [intOf]; omega
      · have he : (xo, xa, xb) ≠ (uo, ua, ub) := by
          have := HM.out
          intro e
          rw [e] at this
          simp at this
        have hs := sameI_no (HNE.out he)
        have HS := Lib.hid hs
        clear he hs
        go_upto_region 6 with (fail)
        clear d0 d1 d2 k0 k1 k2
        refine wp_region_quiet_below (by kernel_rfl) (by kernel_rfl) ?_
        (repeat (first | go_big_quiet_step (fail) | quiet_step (fail)))
        refine wpQuiet_nil ?_
        intro v hv
        have hbv := below_of_regrown hv
        clear hv q0 q1 q2 r0 r1 r2
        replace hw := Below.step hw hbv
        go_wp2_with fail
        go_ret
        rw [HS.out]
        exact ⟨rfl, hw⟩
    · obtain rfl : j = l.length := by omega
      have hs : sameI l m = true := by
        rw [sameI_iff]
        exact List.ext_getElem hlen fun i h1 h2 => HJ.out i h1 h1 h2
      have HS := Lib.hid hs
      clear hs
      go_wp2_with fail
      go_ret
      rw [HS.out]
      exact ⟨rfl, hw⟩

set_option maxHeartbeats 2000000 in
set_option maxRecDepth 100000 in
theorem csameF_any {B : Nat} {A A' : Option Addr} {f g : Fun} (c c' : Nat) (w : World) (h : CodeAt w B A f.code) (h' : CodeAt w B A' g.code) (hz : f.code.length ≤ maxLen) (hB : B ≤ w.heap.size) :
    Calls Tryz.prog 73 #[.agg #[.int .i64 f.ar, .int .i64 f.lo, .int .i64 f.sl, .slice A f.code.length c], .agg #[.int .i64 g.ar, .int .i64 g.lo, .int .i64 g.sl, .slice A' g.code.length c']] w fun e w' => e = .returned (.bool (sameF f g)) ∧ Below w.heap.size w w' := by
  have C := fun W h h' hB => Lib.hid (eqI_any (B := B) (A := A) (A' := A') (l := f.code) (m := g.code) c c' W h h' hz hB)
  have HA := Lib.hid h
  have HA' := Lib.hid h'
  have hdec : sameF f g = ((f.ar == g.ar) && (f.lo == g.lo) && (f.sl == g.sl) && sameI f.code g.code) := by
    rw [Bool.eq_iff_iff, sameF_iff]
    simp only [Bool.and_eq_true, beq_iff_eq, sameI_iff]
    constructor
    · rintro rfl
      simp
    · rintro ⟨⟨⟨h0, h1⟩, h2⟩, h3⟩
      cases f
      cases g
      simp_all
  rw [hdec]
  clear hdec h h'
  unfold maxLen at hz
  have hw := below2 w (.cells #[.int .i64 f.ar, .int .i64 f.lo, .int .i64 f.sl, .slice A f.code.length c] 73) (.cells #[.int .i64 g.ar, .int .i64 g.lo, .int .i64 g.sl, .slice A' g.code.length c'] 73)
  generalize f.ar = fa at *
  generalize f.lo = fl at *
  generalize f.sl = fs at *
  generalize g.ar = ga at *
  generalize g.lo = gl at *
  generalize g.sl = gs at *
  generalize sameI f.code g.code = x at *
  cases e0 : (fa == ga)
  · go_enter Tryz.func73, Tryz.ntmps73
    go_wp2_with fail
    go_ret
    exact ⟨rfl, hw⟩
  cases e1 : (fl == gl)
  · go_enter Tryz.func73, Tryz.ntmps73
    go_wp2_with fail
    go_ret
    exact ⟨rfl, hw⟩
  cases e2 : (fs == gs)
  · go_enter Tryz.func73, Tryz.ntmps73
    go_wp2_with fail
    go_ret
    exact ⟨rfl, hw⟩
  go_enter Tryz.func73, Tryz.ntmps73
  go_wp2_with (go_at_call 96; (with_reducible refine (C _ (HA.out.below hw hB) (HA'.out.below hw hB) (Nat.le_trans hB hw.size)).out.mono ?_); rintro e v ⟨rfl, hb⟩)
  go_ret
  exact ⟨rfl, Below.step hw hb⟩

set_option maxHeartbeats 2000000 in
set_option maxRecDepth 100000 in
theorem eqF_any {B : Nat} {A A' : Option Addr} {p q : List Fun} (c c' : Nat) (w : World) (h : ProgAt w B A p) (hz : SizedP p) (h' : ProgAt w B A' q) (hB : B ≤ w.heap.size) :
    Calls Tryz.prog 72 #[.slice A p.length c, .slice A' q.length c', fnv 73] w fun e w' => e = .returned (.bool (sameP p q)) ∧ Below w.heap.size w w' := by
  have HA := Lib.hid h
  have HA' := Lib.hid h'
  have HZ := Lib.hid hz.2
  have hzp := hz.1
  unfold maxLen at hzp
  clear h hz h'
  by_cases hlen : p.length = q.length
  case neg =>
    have hs := sameP_no (p := p) (q := q) fun e => hlen (by rw [e])
    have HS := Lib.hid hs
    have hl : ((p.length : Int) != (q.length : Int)) = true := by simp; omega
    clear hs hlen
    go_enter Tryz.func72, Tryz.ntmps72
    go_wp2
    go_ret
    rw [HS.out]
    exact ⟨rfl, Below.refl _ _⟩
  have hl : ((p.length : Int) != (q.length : Int)) = false := by simp; omega
  have HLEN := Lib.hid hlen
  clear hlen
  go_enter Tryz.func72, Tryz.ntmps72
  go_wp2
  clear hl
  go_loopw [17] (fun i W => ∃ k : Nat, k ≤ p.length ∧ i = .int .i64 k ∧ (∀ j (h1 : j < k) (h2 : j < p.length) (h3 : j < q.length), p[j] = q[j]) ∧ Below w.heap.size w W) (fun i _ => p.length - (intOf i).toNat)
  case atStart => exact ⟨0, by omega, rfl, fun j hj => absurd hj (by omega), Below.refl _ _⟩
  case round =>
    obtain ⟨k, hk, rfl, hall, hw⟩ := hrel
    have HALL := Lib.hid hall
    clear hall
    by_cases hlt : k < p.length
    · have hlt' : k < q.length := by have := HLEN.out; omega
      obtain ⟨b, off, rfl, hbl, hc⟩ := (HA.out.below hw hB) (by omega)
      obtain ⟨b', off', rfl, hbl', hc'⟩ := (HA'.out.below hw hB) (by omega)
      have hF := hc k hlt
      have hF' := hc' k hlt'
      clear hc hc'
      have hat := fun (e : p[k] ≠ q[k]) => sameP_at hlt hlt' e
      have hstep : p[k] = q[k] → ∀ j (h1 : j < k + 1) (h2 : j < p.length) (h3 : j < q.length), p[j] = q[j] := fun e j h1 h2 h3 => by
        rcases Nat.lt_succ_iff_lt_or_eq.1 h1 with h | rfl
        · exact HALL.out j h h2 h3
        · exact e
      have hzf := HZ.out _ (List.getElem_mem hlt)
      generalize p[k] = f at *
      generalize q[k] = g at *
      have HAT := Lib.hid hat
      have HST := Lib.hid hstep
      clear hat hstep
      obtain ⟨f0, f1, f2, A2, c2, f3, hcf⟩ := hF
      obtain ⟨g0, g1, g2, A3, c3, g3, hcg⟩ := hF'
      have hwz := hw.size
      have hBr : B ≤ wr.heap.size := by omega
      have hbr := below2 wr (.cells #[.int .i64 f.ar, .int .i64 f.lo, .int .i64 f.sl, .slice A2 f.code.length c2] 73) (.cells #[.int .i64 g.ar, .int .i64 g.lo, .int .i64 g.sl, .slice A3 g.code.length c3] 73)
      have C := Lib.hid (csameF_any (f := f) (g := g) c2 c3 _ (hcf.below hbr hBr) (hcg.below hbr hBr) hzf (Nat.le_trans hBr hbr.size))
      obtain ⟨t, ht⟩ : ∃ t, t = sameF f g := ⟨_, rfl⟩
      rw [← ht] at C
      have HT := Lib.hid ht
      clear ht hcf hcg hzf hbr
      have hbw : b < wr.heap.size := by omega
      have hbw' : b' < wr.heap.size := by omega
      cases t
      · have hs := HAT.out (fun e => by
          have := HT.out
          rw [(sameF_iff f g).2 e] at this
          cases this)
        have HS := Lib.hid hs
        clear hs
        go_wp2_with (go_at_call 73; (with_reducible refine C.out.mono ?_); rintro e v ⟨rfl, hb⟩; replace hw := Below.step hw (Below.step (below2 _ _ _) hb); clear hb)
        go_ret
        rw [HS.out]
        exact ⟨rfl, hw⟩
      · have he : f = g := (sameF_iff f g).1 HT.out.symm
        have HE := Lib.hid he
        clear he
        go_wp2_with (go_at_call 73; (with_reducible refine C.out.mono ?_); rintro e v ⟨rfl, hb⟩; replace hw := Below.step hw (Below.step (below2 _ _ _) hb); clear hb)
        go_roundw
        case rel => exact ⟨k + 1, by omega, by go_num, HST.out HE.out, hw⟩
        case measure => simp [intOf]; omega
    · obtain rfl : k = p.length := by omega
      have hs : sameP p q = true := by
        rw [sameP_iff]
        exact List.ext_getElem HLEN.out fun j h1 h2 => HALL.out j h1 h1 h2
      have HS := Lib.hid hs
      clear hs
      go_wp2_with fail
      go_ret
      rw [HS.out]
      exact ⟨rfl, hw⟩

set_option maxHeartbeats 1000000 in
set_option maxRecDepth 100000 in
theorem csame_any {B : Nat} {A A' : Option Addr} {p q : List Fun} (c c' : Nat) (w : World) (h : ProgAt w B A p) (hz : SizedP p) (h' : ProgAt w B A' q) (hB : B ≤ w.heap.size) :
    Calls Tryz.prog 42 #[.slice A p.length c, .slice A' q.length c'] w fun e w' => e = .returned (.bool (sameP p q)) ∧ Below w.heap.size w w' := by
  have C := Lib.hid (eqF_any c c' w h hz h' hB)
  clear h h' hz
  go_enter Tryz.func42, Tryz.ntmps42
  go_wp2_with (go_at_call 72; (with_reducible refine C.out.mono ?_); rintro e v ⟨rfl, hb⟩)
  go_ret
  exact ⟨rfl, hb⟩
end Go.Proofs.YtjibkgildfjjoaaGreatDoor

