/- Layer 13: the document's Same. -/
import Derived.Test.YtjibkgildfjjoaaGreatDoorzZr
import Derived.Test.YtjibkgildfjjoaaGreatDoorzPs
import Derived.Test.YtjibkgildfjjoaaGreatDoorzYw
import Derived.Test.YtjibkgildfjjoaaGreatDoorzRs
import Derived.Test.YtjibkgildfjjoaaGreatDoorzZe
import Derived.Test.YtjibkgildfjjoaaGreatDoorzYs
import Derived.Deep.RegionHeld3
namespace Go.Proofs.YtjibkgildfjjoaaGreatDoor
set_option linter.unusedVariables false
set_option linter.unusedSimpArgs false
open Go.RowKit Go.ChangeShapes Go.WideShapes Go.ChangeAt Go.Sort

def eqG (r q : Rng) : Bool := decide (r.buf = q.buf) && (r.head == q.head) && (r.many == q.many) && (r.most == q.most)
theorem eqG_iff (r q : Rng) : eqG r q = true ↔ r = q := by
  obtain ⟨b, h, m, t⟩ := r
  obtain ⟨b', h', m', t'⟩ := q
  simp [eqG, and_assoc]
/-- Two limits, two ends compared. -/
theorem eqlm_run (x y z x2 y2 z2 : Int) (W : World) : (binOp .eql 26 (.agg #[.int .i64 x, .int .i64 y, .int .i64 z]) (.agg #[.int .i64 x2, .int .i64 y2, .int .i64 z2])).run Tryz.prog W = .ok (.bool (decide ((x, y, z) = (x2, y2, z2)))) W := by
  by_cases h1 : x = x2 <;> by_cases h2 : y = y2 <;> by_cases h3 : z = z2 <;> simp [go_sem, h1, h2, h3]
theorem eqout_run (x y z x2 y2 z2 : Int) (W : World) : (binOp .eql 40 (.agg #[.int .i64 x, .int .i64 y, .int .i64 z]) (.agg #[.int .i64 x2, .int .i64 y2, .int .i64 z2])).run Tryz.prog W = .ok (.bool (decide ((x, y, z) = (x2, y2, z2)))) W := by
  by_cases h1 : x = x2 <;> by_cases h2 : y = y2 <;> by_cases h3 : z = z2 <;> simp [go_sem, h1, h2, h3]
/-- The numbers of two worlds are the same. -/
def scalW (U W : Wld) : Bool := decide ((U.lf, U.lm, U.lr) = (W.lf, W.lm, W.lr)) && decide (U.root = W.root) && (U.used == W.used) && (U.st == W.st) && decide ((U.otr, U.ore, U.oim) = (W.otr, W.ore, W.oim)) && (U.err == W.err) && (U.stl == W.stl) && (U.mis == W.mis)
theorem scalW_iff (U W : Wld) : scalW U W = true ↔ U.lf = W.lf ∧ U.lm = W.lm ∧ U.lr = W.lr ∧ U.root = W.root ∧ U.used = W.used ∧ U.st = W.st ∧ U.otr = W.otr ∧ U.ore = W.ore ∧ U.oim = W.oim ∧ U.err = W.err ∧ U.stl = W.stl ∧ U.mis = W.mis := by
  simp [scalW, and_assoc]
theorem sameW_parts (U W : Wld) : sameW U W = true ↔ U.rings.length = W.rings.length ∧ U.cur = W.cur ∧ U.prog = W.prog ∧ U.pen = W.pen ∧ U.rings = W.rings ∧ scalW U W = true := by
  rw [sameW_iff, scalW_iff]
  constructor
  · rintro rfl
    simp
  · rintro ⟨-, h1, h2, h3, h4, h5, h6, h7, h8, h9, h10, h11, h12, h13, h14, h15, h16⟩
    cases U
    cases W
    simp only at *
    subst h1 h2 h3 h4 h5 h6 h7 h8 h9 h10 h11 h12 h13 h14 h15 h16
    rfl
theorem sameW_false {U W : Wld} (h : ¬ (U.rings.length = W.rings.length ∧ U.cur = W.cur ∧ U.prog = W.prog ∧ U.pen = W.pen ∧ U.rings = W.rings ∧ scalW U W = true)) : sameW U W = false := by
  rw [← Bool.not_eq_true, sameW_parts]
  exact h
set_option maxHeartbeats 8000000 in
set_option maxRecDepth 100000 in
theorem rsame_w {a b : WA} {U W : Wld} {B : Nat} (w : World) (h : WAt w B a U) (h' : WAt w B b W) (hl : LenW U) (hl' : LenW W) (hB : B ≤ w.heap.size) :
    Calls Tryz.prog 14 #[.agg (wcs a U), .agg (wcs b W)] w fun e w' => e = .returned (.bool (sameW U W)) ∧ Below w.heap.size w w' := by
  have hbw := below2 w (.cells (wcs a U) 43) (.cells (wcs b W) 43)
  have k2 := (Held.new w 43 (wcs a U)).alloc (.cells (wcs b W) 43)
  have k3 := Held.new1 w (.cells (wcs a U) 43) 43 (wcs b W)
  have HP := Lib.hid (And.intro h (And.intro h' hB))
  have HL := Lib.hid (And.intro hl hl')
  obtain ⟨R, hR⟩ : ∃ R, sameW U W = R := ⟨_, rfl⟩
  rw [hR]
  have HR := Lib.hid hR
  clear h h' hl hl' hB hR
  go_enter Tryz.func14, Tryz.ntmps14
  go_upto_region 1 with (fail)
  generalize (w.alloc (.cells (wcs a U) 43)).alloc (.cells (wcs b W) 43) = W0 at *
  have PU := fun (u : World) (hb : Below w.heap.size w u) => HP.out.1.below hb HP.out.2.2
  have PW := fun (u : World) (hb : Below w.heap.size w u) => HP.out.2.1.below hb HP.out.2.2
  have BU := fun (u : World) (hb : Below w.heap.size w u) => Nat.le_trans HP.out.2.2 hb.size
  obtain ⟨e2, he2⟩ : ∃ e, decide (U.cur = W.cur) = e := ⟨_, rfl⟩
  obtain ⟨e3, he3⟩ : ∃ e, sameP U.prog W.prog = e := ⟨_, rfl⟩
  obtain ⟨e4, he4⟩ : ∃ e, decide (U.pen = W.pen) = e := ⟨_, rfl⟩
  have C2 := Lib.hid (fun (u : World) (hb : Below w.heap.size w u) => by
    have h9 := rrefs_any a.cq b.cq u (PU u hb).cur (PW u hb).cur (by have := HL.out.1.cur; omega) (by have := HL.out.2.cur; omega)
    rw [he2] at h9
    exact h9 : ∀ u, Below w.heap.size w u → Calls Tryz.prog 12 #[.slice a.aq U.cur.length a.cq, .slice b.aq W.cur.length b.cq] u fun e w' => e = .returned (.bool e2) ∧ Below u.heap.size u w')
  have C3 := Lib.hid (fun (u : World) (hb : Below w.heap.size w u) => by
    have h9 := psame_any a.cp b.cp u (PU u hb).prog HL.out.1.prog (PW u hb).prog (BU u hb)
    rw [he3] at h9
    exact h9 : ∀ u, Below w.heap.size w u → Calls Tryz.prog 38 #[.slice a.ap U.prog.length a.cp, .slice b.ap W.prog.length b.cp] u fun e w' => e = .returned (.bool e3) ∧ Below u.heap.size u w')
  have C4 := Lib.hid (fun (u : World) (hb : Below w.heap.size w u) => by
    have h9 := rsame_z a.cc a.cf b.cc b.cf u rfl rfl rfl rfl (PU u hb).pen (PW u hb).pen HL.out.1.pen HL.out.2.pen (BU u hb) (BU u hb)
    rw [he4] at h9
    exact h9 : ∀ u, Below w.heap.size w u → Calls Tryz.prog 39 #[pv a.ac U.pen.cells.length a.cc a.af U.pen.free.length a.cf U.pen.most, pv b.ac W.pen.cells.length b.cc b.af W.pen.free.length b.cf W.pen.most] u fun e w' => e = .returned (.bool e4) ∧ Below u.heap.size u w')
  have hnI : (U.rings.length : Int) ≤ 1000 := by have := HL.out.1.rings; omega
  have hnI2 : (W.rings.length : Int) ≤ 1000 := by have := HL.out.2.rings; omega
  have HE := Lib.hid (And.intro he2 (And.intro he3 he4))
  clear PU PW BU he2 he3 he4
  have x7 := k2.cell 7
  have y7 := k3.cell 7
  have x8 := k2.cell 8
  have y8 := k3.cell 8
  have x0 := k2.cell 0
  have y0 := k3.cell 0
  have x4 := k2.cell 4
  have y4 := k3.cell 4
  have x5 := k2.cell 5
  have y5 := k3.cell 5
  have x6 := k2.cell 6
  have y6 := k3.cell 6
  simp at x7 y7 x8 y8 x0 y0 x4 y4 x5 y5 x6 y6
  by_cases hlen : U.rings.length = W.rings.length
  case neg =>
    have ne8 : ((U.rings.length : Int) != (W.rings.length : Int)) = true := by simpa using fun e : (U.rings.length : Int) = W.rings.length => hlen (by omega)
    obtain rfl : false = R := by rw [← HR.out]; exact (sameW_false fun h9 => hlen h9.1).symm
    clear hlen
    go_wp2_with fail
    go_ret
    exact ⟨rfl, hbw⟩
  case pos =>
  have ne8 : ((U.rings.length : Int) != (W.rings.length : Int)) = false := by simpa using (by omega : (U.rings.length : Int) = W.rings.length)
  have HLN := Lib.hid hlen
  clear hlen
  cases e2
  case false =>
    obtain rfl : false = R := by rw [← HR.out]; exact (sameW_false fun h9 => by have := HE.out.1; simp [h9.2.1] at this).symm
    go_wp2_with (first
    | (go_at_call 12; (with_reducible refine (C2.out _ hbw).mono ?_); rintro _ u2 ⟨rfl, hbu2⟩; replace k2 := Held.below k2 hbu2; replace k3 := Held.below k3 hbu2; replace hbw := Below.step hbw hbu2; have x7 := k2.cell 7; have y7 := k3.cell 7; have x8 := k2.cell 8; have y8 := k3.cell 8; have x0 := k2.cell 0; have y0 := k3.cell 0; have x4 := k2.cell 4; have y4 := k3.cell 4; have x5 := k2.cell 5; have y5 := k3.cell 5; have x6 := k2.cell 6; have y6 := k3.cell 6; simp at x7 y7 x8 y8 x0 y0 x4 y4 x5 y5 x6 y6)
    | (go_at_call 38; (with_reducible refine (C3.out _ hbw).mono ?_); rintro _ u3 ⟨rfl, hbu3⟩; replace k2 := Held.below k2 hbu3; replace k3 := Held.below k3 hbu3; replace hbw := Below.step hbw hbu3; have x7 := k2.cell 7; have y7 := k3.cell 7; have x8 := k2.cell 8; have y8 := k3.cell 8; have x0 := k2.cell 0; have y0 := k3.cell 0; have x4 := k2.cell 4; have y4 := k3.cell 4; have x5 := k2.cell 5; have y5 := k3.cell 5; have x6 := k2.cell 6; have y6 := k3.cell 6; simp at x7 y7 x8 y8 x0 y0 x4 y4 x5 y5 x6 y6)
    | (go_at_call 39; (with_reducible refine (C4.out _ hbw).mono ?_); rintro _ u4 ⟨rfl, hbu4⟩; replace k2 := Held.below k2 hbu4; replace k3 := Held.below k3 hbu4; replace hbw := Below.step hbw hbu4; have x7 := k2.cell 7; have y7 := k3.cell 7; have x8 := k2.cell 8; have y8 := k3.cell 8; have x0 := k2.cell 0; have y0 := k3.cell 0; have x4 := k2.cell 4; have y4 := k3.cell 4; have x5 := k2.cell 5; have y5 := k3.cell 5; have x6 := k2.cell 6; have y6 := k3.cell 6; simp at x7 y7 x8 y8 x0 y0 x4 y4 x5 y5 x6 y6))
    go_ret
    exact ⟨rfl, hbw⟩
  cases e3
  case false =>
    obtain rfl : false = R := by rw [← HR.out]; exact (sameW_false fun h9 => by have := HE.out.2.1; rw [h9.2.2.1, (sameP_iff _ _).2 rfl] at this; cases this).symm
    go_wp2_with (first
    | (go_at_call 12; (with_reducible refine (C2.out _ hbw).mono ?_); rintro _ u2 ⟨rfl, hbu2⟩; replace k2 := Held.below k2 hbu2; replace k3 := Held.below k3 hbu2; replace hbw := Below.step hbw hbu2; have x7 := k2.cell 7; have y7 := k3.cell 7; have x8 := k2.cell 8; have y8 := k3.cell 8; have x0 := k2.cell 0; have y0 := k3.cell 0; have x4 := k2.cell 4; have y4 := k3.cell 4; have x5 := k2.cell 5; have y5 := k3.cell 5; have x6 := k2.cell 6; have y6 := k3.cell 6; simp at x7 y7 x8 y8 x0 y0 x4 y4 x5 y5 x6 y6)
    | (go_at_call 38; (with_reducible refine (C3.out _ hbw).mono ?_); rintro _ u3 ⟨rfl, hbu3⟩; replace k2 := Held.below k2 hbu3; replace k3 := Held.below k3 hbu3; replace hbw := Below.step hbw hbu3; have x7 := k2.cell 7; have y7 := k3.cell 7; have x8 := k2.cell 8; have y8 := k3.cell 8; have x0 := k2.cell 0; have y0 := k3.cell 0; have x4 := k2.cell 4; have y4 := k3.cell 4; have x5 := k2.cell 5; have y5 := k3.cell 5; have x6 := k2.cell 6; have y6 := k3.cell 6; simp at x7 y7 x8 y8 x0 y0 x4 y4 x5 y5 x6 y6)
    | (go_at_call 39; (with_reducible refine (C4.out _ hbw).mono ?_); rintro _ u4 ⟨rfl, hbu4⟩; replace k2 := Held.below k2 hbu4; replace k3 := Held.below k3 hbu4; replace hbw := Below.step hbw hbu4; have x7 := k2.cell 7; have y7 := k3.cell 7; have x8 := k2.cell 8; have y8 := k3.cell 8; have x0 := k2.cell 0; have y0 := k3.cell 0; have x4 := k2.cell 4; have y4 := k3.cell 4; have x5 := k2.cell 5; have y5 := k3.cell 5; have x6 := k2.cell 6; have y6 := k3.cell 6; simp at x7 y7 x8 y8 x0 y0 x4 y4 x5 y5 x6 y6))
    go_ret
    exact ⟨rfl, hbw⟩
  cases e4
  case false =>
    obtain rfl : false = R := by rw [← HR.out]; exact (sameW_false fun h9 => by have := HE.out.2.2; simp [h9.2.2.2.1] at this).symm
    go_wp2_with (first
    | (go_at_call 12; (with_reducible refine (C2.out _ hbw).mono ?_); rintro _ u2 ⟨rfl, hbu2⟩; replace k2 := Held.below k2 hbu2; replace k3 := Held.below k3 hbu2; replace hbw := Below.step hbw hbu2; have x7 := k2.cell 7; have y7 := k3.cell 7; have x8 := k2.cell 8; have y8 := k3.cell 8; have x0 := k2.cell 0; have y0 := k3.cell 0; have x4 := k2.cell 4; have y4 := k3.cell 4; have x5 := k2.cell 5; have y5 := k3.cell 5; have x6 := k2.cell 6; have y6 := k3.cell 6; simp at x7 y7 x8 y8 x0 y0 x4 y4 x5 y5 x6 y6)
    | (go_at_call 38; (with_reducible refine (C3.out _ hbw).mono ?_); rintro _ u3 ⟨rfl, hbu3⟩; replace k2 := Held.below k2 hbu3; replace k3 := Held.below k3 hbu3; replace hbw := Below.step hbw hbu3; have x7 := k2.cell 7; have y7 := k3.cell 7; have x8 := k2.cell 8; have y8 := k3.cell 8; have x0 := k2.cell 0; have y0 := k3.cell 0; have x4 := k2.cell 4; have y4 := k3.cell 4; have x5 := k2.cell 5; have y5 := k3.cell 5; have x6 := k2.cell 6; have y6 := k3.cell 6; simp at x7 y7 x8 y8 x0 y0 x4 y4 x5 y5 x6 y6)
    | (go_at_call 39; (with_reducible refine (C4.out _ hbw).mono ?_); rintro _ u4 ⟨rfl, hbu4⟩; replace k2 := Held.below k2 hbu4; replace k3 := Held.below k3 hbu4; replace hbw := Below.step hbw hbu4; have x7 := k2.cell 7; have y7 := k3.cell 7; have x8 := k2.cell 8; have y8 := k3.cell 8; have x0 := k2.cell 0; have y0 := k3.cell 0; have x4 := k2.cell 4; have y4 := k3.cell 4; have x5 := k2.cell 5; have y5 := k3.cell 5; have x6 := k2.cell 6; have y6 := k3.cell 6; simp at x7 y7 x8 y8 x0 y0 x4 y4 x5 y5 x6 y6))
    go_ret
    exact ⟨rfl, hbw⟩
  go_upto_region 4 with (first
    | (go_at_call 12; (with_reducible refine (C2.out _ hbw).mono ?_); rintro _ u2 ⟨rfl, hbu2⟩; replace k2 := Held.below k2 hbu2; replace k3 := Held.below k3 hbu2; replace hbw := Below.step hbw hbu2; have x7 := k2.cell 7; have y7 := k3.cell 7; have x8 := k2.cell 8; have y8 := k3.cell 8; have x0 := k2.cell 0; have y0 := k3.cell 0; have x4 := k2.cell 4; have y4 := k3.cell 4; have x5 := k2.cell 5; have y5 := k3.cell 5; have x6 := k2.cell 6; have y6 := k3.cell 6; simp at x7 y7 x8 y8 x0 y0 x4 y4 x5 y5 x6 y6)
    | (go_at_call 38; (with_reducible refine (C3.out _ hbw).mono ?_); rintro _ u3 ⟨rfl, hbu3⟩; replace k2 := Held.below k2 hbu3; replace k3 := Held.below k3 hbu3; replace hbw := Below.step hbw hbu3; have x7 := k2.cell 7; have y7 := k3.cell 7; have x8 := k2.cell 8; have y8 := k3.cell 8; have x0 := k2.cell 0; have y0 := k3.cell 0; have x4 := k2.cell 4; have y4 := k3.cell 4; have x5 := k2.cell 5; have y5 := k3.cell 5; have x6 := k2.cell 6; have y6 := k3.cell 6; simp at x7 y7 x8 y8 x0 y0 x4 y4 x5 y5 x6 y6)
    | (go_at_call 39; (with_reducible refine (C4.out _ hbw).mono ?_); rintro _ u4 ⟨rfl, hbu4⟩; replace k2 := Held.below k2 hbu4; replace k3 := Held.below k3 hbu4; replace hbw := Below.step hbw hbu4; have x7 := k2.cell 7; have y7 := k3.cell 7; have x8 := k2.cell 8; have y8 := k3.cell 8; have x0 := k2.cell 0; have y0 := k3.cell 0; have x4 := k2.cell 4; have y4 := k3.cell 4; have x5 := k2.cell 5; have y5 := k3.cell 5; have x6 := k2.cell 6; have y6 := k3.cell 6; simp at x7 y7 x8 y8 x0 y0 x4 y4 x5 y5 x6 y6))
  clear C2 C3 C4 ne8 x7 y7 x8 y8 x0 y0 x4 y4 x5 y5 x6 y6
  have HX := Lib.hid (And.intro k2 (And.intro k3 hbw))
  clear k2 k3 hbw
  obtain ⟨W9, hW9⟩ : ∃ W, W = u4 := ⟨_, rfl⟩
  rw [← hW9] at HX ⊢
  clear hW9
  go_loopw [5] (fun iv wx => ∃ j : Nat, iv = .int .i64 j ∧ j ≤ U.rings.length ∧ (∀ i (h1 : i < U.rings.length) (h2 : i < W.rings.length), i < j → U.rings[i] = W.rings[i]) ∧ Below w.heap.size w wx ∧ Held wx w.heap.size 43 (wcs a U) ∧ Held wx (w.heap.size + 1) 43 (wcs b W)) (fun iv _ => U.rings.length - (intOf iv).toNat)
  case atStart => exact ⟨0, rfl, by omega, fun i _ _ h => absurd h (by omega), HX.out.2.2, HX.out.1, HX.out.2.1⟩
  case round =>
    clear HX
    obtain ⟨j, rfl, hj, hall, hbw, k2, k3⟩ := hrel
    have hj0 : (0 : Int) ≤ j := by omega
    have HA := Lib.hid hall
    clear hall
    by_cases hlt : j < U.rings.length
    · have hlt2 : (j : Int) < (U.rings.length : Int) := by omega
      have hltW : j < W.rings.length := by rw [← HLN.out]; exact hlt
      have hlt3 : (j : Int) < (W.rings.length : Int) := by omega
      have hp := HP.out.1.below hbw HP.out.2.2
      have hq := HP.out.2.1.below hbw HP.out.2.2
      have hbs := Nat.le_trans HP.out.2.2 hbw.size
      obtain ⟨b1, off1, e1, hb1, Ab, cb, hab, p0, p1, p2, p3⟩ := hp.rings.rng hlt
      obtain ⟨b2, off2, e2, hb2, Aq, cq, haq, q0, q1, q2, q3⟩ := hq.rings.rng hltW
      have hbl1 : b1 < wr.heap.size := Nat.lt_of_lt_of_le hb1 hbs
      have hbl2 : b2 < wr.heap.size := Nat.lt_of_lt_of_le hb2 hbs
      have lu := HL.out.1.buf _ (List.getElem_mem hlt)
      have lw := HL.out.2.buf _ (List.getElem_mem hltW)
      obtain ⟨rj, hrj⟩ : ∃ r, U.rings[j] = r := ⟨_, rfl⟩
      obtain ⟨qj, hqj⟩ : ∃ r, W.rings[j] = r := ⟨_, rfl⟩
      rw [hrj] at p0 p1 p2 p3 hab lu
      rw [hqj] at q0 q1 q2 q3 haq lw
      obtain ⟨eg, heg⟩ : ∃ e, eqG rj qj = e := ⟨_, rfl⟩
      have CR := Lib.hid (fun (u : World) (hb : Below wr.heap.size wr u) => by
        have h9 := rsamer_any (r := rj) (q := qj) cb cq u (hab.below hb hbs) (haq.below hb hbs) (Nat.le_trans hbs hb.size) lu lw
        rw [show (decide (rj.buf = qj.buf) && (rj.head == qj.head) && (rj.many == qj.many) && (rj.most == qj.most)) = eg from heg] at h9
        exact h9 : ∀ u, Below wr.heap.size wr u → Calls Tryz.prog 13 #[rgv Ab rj.buf.length cb rj.head rj.many rj.most, rgv Aq qj.buf.length cq qj.head qj.many qj.most] u fun e w' => e = .returned (.bool eg) ∧ Below u.heap.size u w')
      have E1 := Lib.hid e1
      have E2 := Lib.hid e2
      have HEG := Lib.hid heg
      have x7 := k2.cell 7
      simp at x7
      clear hp hq hab haq hb1 hb2 lu lw e1 e2 heg
      go_upto_region 6 with (fail)
      go_cut [55] from 44 to 55 (fun v wx => v = .bool (!eg) ∧ Below wr.heap.size wr wx)
      case first =>
        have hdr := (Below.refl wr.heap.size wr).drew
        have HDR := Lib.hid hdr
        have hdq := hdr
        replace k2 := Held.below k2 hdr
        replace k3 := Held.below k3 hdr
        replace p0 := (hdr.cell (p := ⟨b1, _, none⟩) hbl1).trans p0
        replace p1 := (hdr.cell (p := ⟨b1, _, none⟩) hbl1).trans p1
        replace p2 := (hdr.cell (p := ⟨b1, _, none⟩) hbl1).trans p2
        replace p3 := (hdr.cell (p := ⟨b1, _, none⟩) hbl1).trans p3
        replace q0 := (hdr.cell (p := ⟨b2, _, none⟩) hbl2).trans q0
        replace q1 := (hdr.cell (p := ⟨b2, _, none⟩) hbl2).trans q1
        replace q2 := (hdr.cell (p := ⟨b2, _, none⟩) hbl2).trans q2
        replace q3 := (hdr.cell (p := ⟨b2, _, none⟩) hbl2).trans q3
        replace hbl1 : b1 < wr.drew.heap.size := hbl1
        replace hbl2 : b2 < wr.drew.heap.size := hbl2
        clear hdr
        refine wp_region_held_drew (S := fun W => Below wr.drew.heap.size wr.drew W) (by kernel_rfl) (Below.refl _ _) (fun hS => ?_)
        generalize wr.drew = Wq at *
        show wpAnyH _ _ _ _ _ 12 #[false, false, false, false, false, false, false, false, false, false, false, false] _ _
        refine wpAnyH_begin (by kernel_rfl) (fun HNS => ?_)
        refine wpAnyH_takeS HNS (i := 0) (v := .pointer (some ⟨w.heap.size, 7, none⟩)) rfl (by kernel_rfl) (by kernel_rfl) (fun _ _ _ h => h) (Or.inl ⟨by kernel_rfl, fun W hW => ?_⟩) hS ?_
        · go_simp
        simp only [Act.put, List.getElem_toArray, List.getElem_cons_succ, List.getElem_cons_zero, List.setIfInBounds_toArray, List.set_cons_zero, List.set_cons_succ]
        refine wpAnyH_takeS HNS (i := 1) (v := .slice (some ⟨b1, off1, none⟩) U.rings.length a.cr) rfl (by kernel_rfl) (by kernel_rfl) (fun _ _ _ h => h) (Or.inl ⟨by kernel_rfl, fun W hW => ?_⟩) hS ?_
        · (have hz := Held.below k2 hW; have z0 := hz.cell 7; simp at z0; rw [E1.out] at z0; go_simp)
        simp only [Act.put, List.getElem_toArray, List.getElem_cons_succ, List.getElem_cons_zero, List.setIfInBounds_toArray, List.set_cons_zero, List.set_cons_succ]
        refine wpAnyH_takeS HNS (i := 2) (v := .int .i64 j) rfl (by kernel_rfl) (by kernel_rfl) (fun _ _ _ h => h) (Or.inl ⟨by kernel_rfl, fun W hW => ?_⟩) hS ?_
        · go_simp
        simp only [Act.put, List.getElem_toArray, List.getElem_cons_succ, List.getElem_cons_zero, List.setIfInBounds_toArray, List.set_cons_zero, List.set_cons_succ]
        refine wpAnyH_takeS HNS (i := 3) (v := .pointer (some ⟨b1, off1 + j * 4, none⟩)) rfl (by kernel_rfl) (by kernel_rfl) (fun _ _ _ h => h) (Or.inl ⟨by kernel_rfl, fun W hW => ?_⟩) hS ?_
        · go_simp
        simp only [Act.put, List.getElem_toArray, List.getElem_cons_succ, List.getElem_cons_zero, List.setIfInBounds_toArray, List.set_cons_zero, List.set_cons_succ]
        refine wpAnyH_takeS HNS (i := 4) (v := .agg (rgc Ab rj.buf.length cb rj.head rj.many rj.most)) rfl (by kernel_rfl) (by kernel_rfl) (fun _ _ _ h => h) (Or.inl ⟨by kernel_rfl, fun W hW => ?_⟩) hS ?_
        · (have z0 := (hW.cell (p := ⟨b1, _, none⟩) hbl1).trans p0; have z1 := (hW.cell (p := ⟨b1, _, none⟩) hbl1).trans p1; have z2 := (hW.cell (p := ⟨b1, _, none⟩) hbl1).trans p2; have z3 := (hW.cell (p := ⟨b1, _, none⟩) hbl1).trans p3; go_simp)
        simp only [Act.put, List.getElem_toArray, List.getElem_cons_succ, List.getElem_cons_zero, List.setIfInBounds_toArray, List.set_cons_zero, List.set_cons_succ]
        refine wpAnyH_takeS HNS (i := 5) (v := .pointer (some ⟨w.heap.size + 1, 7, none⟩)) rfl (by kernel_rfl) (by kernel_rfl) (fun _ _ _ h => h) (Or.inl ⟨by kernel_rfl, fun W hW => ?_⟩) hS ?_
        · go_simp
        simp only [Act.put, List.getElem_toArray, List.getElem_cons_succ, List.getElem_cons_zero, List.setIfInBounds_toArray, List.set_cons_zero, List.set_cons_succ]
        refine wpAnyH_takeS HNS (i := 6) (v := .slice (some ⟨b2, off2, none⟩) W.rings.length b.cr) rfl (by kernel_rfl) (by kernel_rfl) (fun _ _ _ h => h) (Or.inl ⟨by kernel_rfl, fun W hW => ?_⟩) hS ?_
        · (have hz := Held.below k3 hW; have z0 := hz.cell 7; simp at z0; rw [E2.out] at z0; go_simp)
        simp only [Act.put, List.getElem_toArray, List.getElem_cons_succ, List.getElem_cons_zero, List.setIfInBounds_toArray, List.set_cons_zero, List.set_cons_succ]
        refine wpAnyH_takeS HNS (i := 7) (v := .int .i64 j) rfl (by kernel_rfl) (by kernel_rfl) (fun _ _ _ h => h) (Or.inl ⟨by kernel_rfl, fun W hW => ?_⟩) hS ?_
        · go_simp
        simp only [Act.put, List.getElem_toArray, List.getElem_cons_succ, List.getElem_cons_zero, List.setIfInBounds_toArray, List.set_cons_zero, List.set_cons_succ]
        refine wpAnyH_takeS HNS (i := 8) (v := .pointer (some ⟨b2, off2 + j * 4, none⟩)) rfl (by kernel_rfl) (by kernel_rfl) (fun _ _ _ h => h) (Or.inl ⟨by kernel_rfl, fun W hW => ?_⟩) hS ?_
        · go_simp
        simp only [Act.put, List.getElem_toArray, List.getElem_cons_succ, List.getElem_cons_zero, List.setIfInBounds_toArray, List.set_cons_zero, List.set_cons_succ]
        refine wpAnyH_takeS HNS (i := 9) (v := .agg (rgc Aq qj.buf.length cq qj.head qj.many qj.most)) rfl (by kernel_rfl) (by kernel_rfl) (fun _ _ _ h => h) (Or.inl ⟨by kernel_rfl, fun W hW => ?_⟩) hS ?_
        · (have z0 := (hW.cell (p := ⟨b2, _, none⟩) hbl2).trans q0; have z1 := (hW.cell (p := ⟨b2, _, none⟩) hbl2).trans q1; have z2 := (hW.cell (p := ⟨b2, _, none⟩) hbl2).trans q2; have z3 := (hW.cell (p := ⟨b2, _, none⟩) hbl2).trans q3; go_simp)
        simp only [Act.put, List.getElem_toArray, List.getElem_cons_succ, List.getElem_cons_zero, List.setIfInBounds_toArray, List.set_cons_zero, List.set_cons_succ]
        refine wpAnyH_ready (rs := [10]) (by kernel_rfl) (by simp) ?_
        refine (AllReadyH.cons rfl (fun K hK => ?_) AllReadyH.nil)
        · rw [if_pos (by kernel_rfl)]
          go_simp
          go_at_call 13
          (with_reducible refine (CR.out _ (Below.step hdq hS)).mono ?_)
          rintro _ u1 ⟨rfl, hb1⟩
          replace hS := Below.step hS hb1
          (repeat (first | go_skip | go_guarded | go_step | go_upon))
          refine hK.out _ _ hS (fun _ => ?_)
          clear hK K
          (try simp only [Act.put, List.getElem_toArray, List.getElem_cons_succ, List.getElem_cons_zero, List.setIfInBounds_toArray, List.set_cons_zero, List.set_cons_succ])
          refine wpAnyH_takeS HNS (i := 11) (v := .bool (!eg)) rfl (by kernel_rfl) (by kernel_rfl) (fun _ _ _ h => h) (Or.inl ⟨by kernel_rfl, fun W hW => ?_⟩) hS ?_
          · go_simp
          simp only [Act.put, List.getElem_toArray, List.getElem_cons_succ, List.getElem_cons_zero, List.setIfInBounds_toArray, List.set_cons_zero, List.set_cons_succ]
          refine wpAnyH_done (by kernel_rfl) ?_ _
          (repeat (first | go_skip | go_guarded | go_step | go_upon))
          go_meet
          case rel => exact ⟨rfl, Below.step HDR.out hS⟩
      case rest =>
        obtain ⟨rfl, hwc⟩ := hcut
        have HF := Lib.hid (And.intro (Below.step hbw hwc) (And.intro (k2.below hwc) (k3.below hwc)))
        clear hbw k2 k3 hwc x7 CR E1 E2 p0 p1 p2 p3 q0 q1 q2 q3 hbl1 hbl2
        have hg := HEG.out
        clear HEG
        cases eg with
        | false =>
          obtain rfl : false = R := by
            rw [← HR.out]
            refine (sameW_false fun h9 => ?_).symm
            have h8 : rj = qj := by rw [← hrj, ← hqj]; simp only [h9.2.2.2.2.1]
            rw [(eqG_iff _ _).2 h8] at hg
            cases hg
          clear hrj hqj hg
          go_wp2_with fail
          go_ret
          exact ⟨rfl, HF.out.1⟩
        | true =>
          have HA2 : Hid (∀ i (h1 : i < U.rings.length) (h2 : i < W.rings.length), i < j + 1 → U.rings[i] = W.rings[i]) := Lib.hid (fun i h1 h2 hi => by
            by_cases e : i = j
            · subst e
              rw [hrj, hqj]
              exact (eqG_iff _ _).1 hg
            · exact HA.out i h1 h2 (by omega))
          clear hrj hqj hg HA
          go_wp2_with fail
          go_roundw
          case rel => exact ⟨j + 1, by go_num, by omega, HA2.out, HF.out.1, HF.out.2.1, HF.out.2.2⟩
          case measure => simp [intOf]; omega
    · obtain rfl : j = U.rings.length := by omega
      have hrr : U.rings = W.rings := List.ext_getElem HLN.out fun i h1 h2 => HA.out i h1 h2 h1
      have hsc : scalW U W = R := by
        rw [← HR.out]
        cases hs : scalW U W with
        | false => exact (sameW_false fun h9 => by rw [h9.2.2.2.2.2] at hs; cases hs).symm
        | true =>
          refine ((sameW_parts U W).2 ⟨HLN.out, by simpa using HE.out.1, (sameP_iff _ _).1 HE.out.2.1, by simpa using HE.out.2.2, hrr, hs⟩).symm
      unfold scalW at hsc
      have HSC := Lib.hid hsc
      obtain ⟨s1, hs1⟩ : ∃ s, decide ((U.lf, U.lm, U.lr) = (W.lf, W.lm, W.lr)) = s := ⟨_, rfl⟩
      obtain ⟨s2, hs2⟩ : ∃ s, decide (U.root = W.root) = s := ⟨_, rfl⟩
      obtain ⟨s3, hs3⟩ : ∃ s, (U.used == W.used) = s := ⟨_, rfl⟩
      obtain ⟨s4, hs4⟩ : ∃ s, (U.st == W.st) = s := ⟨_, rfl⟩
      obtain ⟨s5, hs5⟩ : ∃ s, decide ((U.otr, U.ore, U.oim) = (W.otr, W.ore, W.oim)) = s := ⟨_, rfl⟩
      obtain ⟨s6, hs6⟩ : ∃ s, (U.err == W.err) = s := ⟨_, rfl⟩
      obtain ⟨s7, hs7⟩ : ∃ s, (U.stl == W.stl) = s := ⟨_, rfl⟩
      obtain ⟨s8, hs8⟩ : ∃ s, (U.mis == W.mis) = s := ⟨_, rfl⟩
      have E1 : ∀ w9, (binOp .eql 26 (.agg #[.int .i64 U.lf, .int .i64 U.lm, .int .i64 U.lr]) (.agg #[.int .i64 W.lf, .int .i64 W.lm, .int .i64 W.lr])).run Tryz.prog w9 = .ok (.bool s1) w9 := fun w9 => by rw [← hs1]; exact eqlm_run _ _ _ _ _ _ w9
      have E2 : ∀ w9, (binOp .eql 36 (gv U.root.1 U.root.2) (gv W.root.1 W.root.2)).run Tryz.prog w9 = .ok (.bool s2) w9 := fun w9 => by rw [← hs2]; exact eqr_run _ _ _ _ w9
      have E5 : ∀ w9, (binOp .eql 40 (.agg #[.int .i64 U.otr, .int .i64 U.ore, .int .i64 U.oim]) (.agg #[.int .i64 W.otr, .int .i64 W.ore, .int .i64 W.oim])).run Tryz.prog w9 = .ok (.bool s5) w9 := fun w9 => by rw [← hs5]; exact eqout_run _ _ _ _ _ _ w9
      rw [hs1, hs2, hs3, hs4, hs5, hs6, hs7, hs8] at hsc
      have HSR := Lib.hid hsc
      have HBW := Lib.hid hbw
      have x7 := k2.cell 7
      have x1 := k2.cell 1
      have y1 := k3.cell 1
      have x2 := k2.cell 2
      have y2 := k3.cell 2
      have x3 := k2.cell 3
      have y3 := k3.cell 3
      have x9 := k2.cell 9
      have y9 := k3.cell 9
      have x10 := k2.cell 10
      have y10 := k3.cell 10
      have x11 := k2.cell 11
      have y11 := k3.cell 11
      have x12 := k2.cell 12
      have y12 := k3.cell 12
      have x13 := k2.cell 13
      have y13 := k3.cell 13
      have x14 := k2.cell 14
      have y14 := k3.cell 14
      have x15 := k2.cell 15
      have y15 := k3.cell 15
      have x16 := k2.cell 16
      have y16 := k3.cell 16
      have x17 := k2.cell 17
      have y17 := k3.cell 17
      have x18 := k2.cell 18
      have y18 := k3.cell 18
      simp at x7 x1 y1 x2 y2 x3 y3 x9 y9 x10 y10 x11 y11 x12 y12 x13 y13 x14 y14 x15 y15 x16 y16 x17 y17 x18 y18
      clear hrr hsc hs1 hs2 hs5 hlt hbw k2 k3 HA HSC
      cases s1
      case false =>
        go_wp2_with fail
        go_ret
        rw [← HSR.out]
        exact ⟨by simp, HBW.out⟩
      cases s2
      case false =>
        go_wp2_with fail
        go_ret
        rw [← HSR.out]
        exact ⟨by simp, HBW.out⟩
      cases s3
      case false =>
        go_wp2_with fail
        go_ret
        rw [← HSR.out]
        exact ⟨by simp, HBW.out⟩
      cases s4
      case false =>
        go_wp2_with fail
        go_ret
        rw [← HSR.out]
        exact ⟨by simp, HBW.out⟩
      cases s5
      case false =>
        go_wp2_with fail
        go_ret
        rw [← HSR.out]
        exact ⟨by simp, HBW.out⟩
      cases s6
      case false =>
        go_wp2_with fail
        go_ret
        rw [← HSR.out]
        exact ⟨by simp, HBW.out⟩
      cases s7
      case false =>
        go_wp2_with fail
        go_ret
        rw [← HSR.out]
        exact ⟨by simp, HBW.out⟩
      cases s8
      case false =>
        go_wp2_with fail
        go_ret
        rw [← HSR.out]
        exact ⟨by simp, HBW.out⟩
      go_wp2_with fail
      go_ret
      rw [← HSR.out]
      exact ⟨by simp, HBW.out⟩
end Go.Proofs.YtjibkgildfjjoaaGreatDoor

/- Layer 13: world.Same. -/
namespace Go.Proofs.YtjibkgildfjjoaaGreatDoor
set_option linter.unusedVariables false
set_option linter.unusedSimpArgs false
open Go.RowKit Go.ChangeShapes Go.WideShapes Go.ChangeAt Go.Sort

set_option maxHeartbeats 1000000 in
set_option maxRecDepth 100000 in
theorem eqrf_w {A A2 : Option Addr} {l k : List V} {B B' n m : Nat} (c c2 : Nat) (w : World) (hn : l.length = n) (hm : k.length = m) (h1 : PAt w B A l) (h2 : PAt w B' A2 k) (hl : n ≤ 100000) (hk : m ≤ 100000) :
    Calls Tryz.prog 46 #[.slice A n c, .slice A2 m c2] w fun e w' => e = .returned (.bool (decide (l = k))) ∧ Below w.heap.size w w' := by
  subst hn hm
  have H1 := Lib.hid h1
  have H2 := Lib.hid h2
  clear h1 h2
  by_cases hlen : l.length = k.length
  · have hl2 : (l.length : Int) ≤ 100000 := by omega
    have ne : ((l.length : Int) != (k.length : Int)) = false := by simp [hlen]
    have HLN := Lib.hid hlen
    obtain ⟨R, hR⟩ : ∃ R : Bool, R = decide (l = k) := ⟨_, rfl⟩
    rw [← hR]
    have HR := Lib.hid hR
    clear hR hlen
    go_enter Tryz.func46, Tryz.ntmps46
    go_wp2_with fail
    go_loopw [13] (fun iv W => ∃ j : Nat, iv = .int .i64 j ∧ j ≤ l.length ∧ l.take j = k.take j ∧ Below w.heap.size w W) (fun iv _ => l.length - (intOf iv).toNat)
    case atStart => exact ⟨0, rfl, by omega, by simp, Below.refl _ _⟩
    case round =>
      obtain ⟨j, rfl, hj, htk, hw⟩ := hrel
      have HTK := Lib.hid htk
      clear htk
      by_cases hlt : j < l.length
      · have hltk : j < k.length := by have := HLN.out; omega
        obtain ⟨b1, off1, rfl, _, hc1⟩ := H1.out (by omega)
        obtain ⟨b2, off2, rfl, _, hc2⟩ := H2.out (by omega)
        obtain ⟨a0, a1⟩ := hc1 j hlt
        obtain ⟨d0, d1⟩ := hc2 j hltk
        have lb1 := block_lt_of_cell a0
        replace a0 := (hw.cell (p := ⟨b1, off1 + j * 2, none⟩) lb1).trans a0
        replace a1 := (hw.cell (p := ⟨b1, off1 + j * 2 + 1, none⟩) lb1).trans a1
        have lb2 := block_lt_of_cell d0
        replace d0 := (hw.cell (p := ⟨b2, off2 + j * 2, none⟩) lb2).trans d0
        replace d1 := (hw.cell (p := ⟨b2, off2 + j * 2 + 1, none⟩) lb2).trans d1
        clear hc1 hc2
        have T1 := Lib.hid (List.take_succ_eq_append_getElem hlt)
        have T2 := Lib.hid (List.take_succ_eq_append_getElem hltk)
        have G1 := Lib.hid (List.getElem?_eq_getElem hlt)
        have G2 := Lib.hid (List.getElem?_eq_getElem hltk)
        have hlt2 : (j : Int) < l.length := by omega
        have hltk2 : (j : Int) < k.length := by omega
        have hj0 : (0 : Int) ≤ j := Int.natCast_nonneg j
        generalize l[j] = v at *
        generalize k[j] = u at *
        by_cases hvu : v = u
        · subst hvu
          have NE : ∀ W, (binOp .neq 36 (gv v.1 v.2) (gv v.1 v.2)).run Tryz.prog W = .ok (.bool false) W := fun W => by rw [neqr_run]; simp
          go_wp2_with fail
          go_quiet (fail)
          go_wp2_with fail
          go_roundw
          case rel => exact ⟨j + 1, by go_num, by omega, by rw [T1.out, T2.out, HTK.out], below_drewN hw _⟩
          case measure => simp [intOf]; omega
        · have NE : ∀ W, (binOp .neq 36 (gv v.1 v.2) (gv u.1 u.2)).run Tryz.prog W = .ok (.bool true) W := fun W => by rw [neqr_run, decide_eq_true (show (v.1, v.2) ≠ (u.1, u.2) from hvu)]
          have hno : R = false := by
            rw [HR.out]
            refine decide_eq_false fun e => hvu ?_
            have g1 := G1.out
            rw [e, G2.out] at g1
            exact (Option.some.inj g1).symm
          subst hno
          go_wp2_with fail
          go_quiet (fail)
          go_wp2_with fail
          go_ret
          exact ⟨rfl, below_drewN hw _⟩
      · obtain rfl : j = l.length := by omega
        have hyes : R = true := by
          rw [HR.out]
          refine decide_eq_true ?_
          have h9 := HTK.out
          rwa [List.take_of_length_le (Nat.le_refl _), List.take_of_length_le (by have := HLN.out; omega)] at h9
        subst hyes
        go_wp2_with fail
        go_ret
        exact ⟨rfl, hw⟩
  · have ne : ((l.length : Int) != (k.length : Int)) = true := by simp; omega
    have hno : decide (l = k) = false := decide_eq_false fun e => hlen (by rw [e])
    rw [hno]
    clear hno hlen
    go_enter Tryz.func46, Tryz.ntmps46
    go_wp2_with fail
    go_ret
    exact ⟨rfl, Below.refl _ _⟩
set_option maxHeartbeats 1000000 in
set_option maxRecDepth 100000 in
theorem sameRing_w {B : Nat} {A A' : Option Addr} {r q : Rng} {n m : Nat} (c c' : Nat) (w : World) (hn : r.buf.length = n) (hm : q.buf.length = m) (h : PAt w B A r.buf) (h' : PAt w B A' q.buf) (hz : n ≤ 100000) (hz' : m ≤ 100000) (hB : B ≤ w.heap.size) :
    Calls Tryz.prog 45 #[rgv A n c r.head r.many r.most, rgv A' m c' q.head q.many q.most] w fun e w' => e = .returned (.bool (eqG r q)) ∧ Below w.heap.size w w' := by
  have C := fun W (hw : Below w.heap.size w W) => Lib.hid (eqrf_w c c' W hn hm (h.below hw hB) (h'.below hw hB) hz hz')
  have hdec : eqG r q = ((r.head == q.head) && (r.many == q.many) && (r.most == q.most) && decide (r.buf = q.buf)) := by
    unfold eqG
    cases (r.head == q.head) <;> cases (r.many == q.many) <;> cases (r.most == q.most) <;> simp
  rw [hdec]
  clear hdec h h' hz hz' hn hm
  have hw := below2 w (.cells (rgc A n c r.head r.many r.most) 54) (.cells (rgc A' m c' q.head q.many q.most) 54)
  have C2 := C _ hw
  clear C
  generalize r.head = fa at *
  generalize r.many = fl at *
  generalize r.most = fs at *
  generalize q.head = ga at *
  generalize q.many = gl at *
  generalize q.most = gs at *
  generalize decide (r.buf = q.buf) = x at *
  cases e0 : (fa == ga)
  · go_enter Tryz.func45, Tryz.ntmps45
    go_wp2_with fail
    go_ret
    exact ⟨rfl, hw⟩
  cases e1 : (fl == gl)
  · go_enter Tryz.func45, Tryz.ntmps45
    go_wp2_with fail
    go_ret
    exact ⟨rfl, hw⟩
  cases e2 : (fs == gs)
  · go_enter Tryz.func45, Tryz.ntmps45
    go_wp2_with fail
    go_ret
    exact ⟨rfl, hw⟩
  go_enter Tryz.func45, Tryz.ntmps45
  go_wp2_with (go_at_call 46; (with_reducible refine C2.out.mono ?_); rintro e v ⟨rfl, hb⟩)
  go_ret
  exact ⟨rfl, Below.step hw hb⟩
noncomputable def sameG (p q : List Rng) : Bool := @decide (p = q) (Classical.propDecidable _)
theorem sameG_iff (p q : List Rng) : sameG p q = true ↔ p = q := by unfold sameG; exact @decide_eq_true_iff _ (Classical.propDecidable _)
theorem sameG_no {p q : List Rng} (h : p ≠ q) : sameG p q = false := by
  rw [← Bool.not_eq_true, sameG_iff]
  exact h
set_option maxHeartbeats 2000000 in
set_option maxRecDepth 100000 in
theorem eqrg_w {B : Nat} {A A' : Option Addr} {p q : List Rng} {n m : Nat} (c c' : Nat) (w : World) (hpn : p.length = n) (hqn : q.length = m) (h : GAt w B A p) (h' : GAt w B A' q) (hl : n ≤ 100000) (hb1 : ∀ r ∈ p, r.buf.length ≤ 100000) (hb2 : ∀ r ∈ q, r.buf.length ≤ 100000) (hB : B ≤ w.heap.size) :
    Calls Tryz.prog 44 #[.slice A n c, .slice A' m c', fnv 45] w fun e w' => e = .returned (.bool (sameG p q)) ∧ Below w.heap.size w w' := by
  have HA := Lib.hid h
  have HA' := Lib.hid h'
  have HZ := Lib.hid (And.intro hb1 hb2)
  have HPN := Lib.hid (And.intro hpn hqn)
  clear h h' hb1 hb2
  obtain ⟨R, hR⟩ : ∃ R : Bool, R = sameG p q := ⟨_, rfl⟩
  rw [← hR]
  have HR := Lib.hid hR
  clear hR
  by_cases hlen : n = m
  case neg =>
    have hs : R = false := by rw [HR.out]; exact sameG_no fun e => hlen (by rw [← hpn, ← hqn, e])
    subst hs
    have hl : ((n : Int) != (m : Int)) = true := by simp; omega
    clear hlen hpn hqn
    go_enter Tryz.func44, Tryz.ntmps44
    go_wp2
    go_ret
    exact ⟨rfl, Below.refl _ _⟩
  have hln : ((n : Int) != (m : Int)) = false := by simp; omega
  have HLEN := Lib.hid hlen
  have hlI : (n : Int) ≤ 100000 := by omega
  clear hlen hpn hqn
  go_enter Tryz.func44, Tryz.ntmps44
  go_wp2
  clear hln
  go_loopw [17] (fun i W => ∃ k : Nat, k ≤ n ∧ i = .int .i64 k ∧ (∀ j (h2 : j < p.length) (h3 : j < q.length), j < k → p[j] = q[j]) ∧ Below w.heap.size w W) (fun i _ => n - (intOf i).toNat)
  case atStart => exact ⟨0, by omega, rfl, fun j _ _ hj => absurd hj (by omega), Below.refl _ _⟩
  case round =>
    obtain ⟨k, hk, rfl, hall, hw⟩ := hrel
    have HALL := Lib.hid hall
    clear hall
    have hk0 : (0 : Int) ≤ k := Int.natCast_nonneg k
    by_cases hlt : k < n
    · have hltp : k < p.length := by have := HPN.out.1; omega
      have hltq : k < q.length := by have := HPN.out.2; have := HLEN.out; omega
      have hltI : (k : Int) < (n : Int) := by omega
      have hltI2 : (k : Int) < (m : Int) := by have := HLEN.out; omega
      obtain ⟨b, off, rfl, hbl, A2, c2, hcf, f0, f1, f2, f3⟩ := (HA.out.below hw hB).rng hltp
      obtain ⟨b', off', rfl, hbl', A3, c3, hcg, g0, g1, g2, g3⟩ := (HA'.out.below hw hB).rng hltq
      have hzf := HZ.out.1 _ (List.getElem_mem hltp)
      have hzg := HZ.out.2 _ (List.getElem_mem hltq)
      have hat : p[k] ≠ q[k] → p ≠ q := fun e e2 => e (by simp only [e2])
      have hstep : p[k] = q[k] → ∀ j (h2 : j < p.length) (h3 : j < q.length), j < k + 1 → p[j] = q[j] := fun e j h2 h3 h1 => by
        rcases Nat.lt_succ_iff_lt_or_eq.1 h1 with h | rfl
        · exact HALL.out j h2 h3 h
        · exact e
      generalize p[k] = f at *
      generalize q[k] = g at *
      have HAT := Lib.hid hat
      have HST := Lib.hid hstep
      clear hat hstep
      obtain ⟨nf, hnf⟩ : ∃ n, f.buf.length = n := ⟨_, rfl⟩
      obtain ⟨ng, hng⟩ : ∃ n, g.buf.length = n := ⟨_, rfl⟩
      rw [hnf] at f0 hzf
      rw [hng] at g0 hzg
      have hwz := hw.size
      have hBr : B ≤ wr.heap.size := by omega
      have hbr := below2 wr (.cells (rgc A2 nf c2 f.head f.many f.most) 54) (.cells (rgc A3 ng c3 g.head g.many g.most) 54)
      have C := Lib.hid (sameRing_w (r := f) (q := g) c2 c3 _ hnf hng (hcf.below hbr hBr) (hcg.below hbr hBr) hzf hzg (Nat.le_trans hBr hbr.size))
      obtain ⟨t, ht⟩ : ∃ t, t = eqG f g := ⟨_, rfl⟩
      rw [← ht] at C
      have HT := Lib.hid ht
      clear ht hcf hcg hzf hzg hbr hnf hng
      have hbw : b < wr.heap.size := by omega
      have hbw' : b' < wr.heap.size := by omega
      cases t
      · have hs : R = false := by
          rw [HR.out]
          refine sameG_no (HAT.out (fun e => by
            have := HT.out
            rw [(eqG_iff f g).2 e] at this
            cases this))
        subst hs
        go_wp2_with (go_at_call 45; (with_reducible refine C.out.mono ?_); rintro e v ⟨rfl, hb⟩; replace hw := Below.step hw (Below.step (below2 _ _ _) hb); clear hb)
        go_ret
        exact ⟨rfl, hw⟩
      · have he : f = g := (eqG_iff f g).1 HT.out.symm
        have HE := Lib.hid he
        clear he
        go_wp2_with (go_at_call 45; (with_reducible refine C.out.mono ?_); rintro e v ⟨rfl, hb⟩; replace hw := Below.step hw (Below.step (below2 _ _ _) hb); clear hb)
        go_roundw
        case rel => exact ⟨k + 1, by omega, by go_num, HST.out HE.out, hw⟩
        case measure => simp [intOf]; omega
    · obtain rfl : k = n := by omega
      have hs : R = true := by
        rw [HR.out]
        exact (sameG_iff _ _).2 (List.ext_getElem (by rw [HPN.out.1, HPN.out.2]; exact HLEN.out) fun j h1 h2 => HALL.out j h1 h2 (by have := HPN.out.1; omega))
      subst hs
      go_wp2_with fail
      go_ret
      exact ⟨rfl, hw⟩

end Go.Proofs.YtjibkgildfjjoaaGreatDoor

/- Layer 13: the numbers of a world. -/
namespace Go.Proofs.YtjibkgildfjjoaaGreatDoor
set_option linter.unusedVariables false
set_option linter.unusedSimpArgs false
open Go.RowKit Go.ChangeShapes Go.WideShapes Go.ChangeAt Go.Sort

/-! The numbers of a world. -/
abbrev sclC (W : Wld) : Array Value := #[.int .i64 W.lf, .int .i64 W.lm, .int .i64 W.lr, .int .i64 W.root.1, .int .i64 W.root.2, .int .i64 W.used, .int .i64 W.st, .int .i64 W.otr, .int .i64 W.ore, .int .i64 W.oim, .int .i64 W.err, .int .i64 W.stl, .int .i64 W.mis]
abbrev scz0 : Array Value := #[.int .i64 0, .int .i64 0, .int .i64 0, .int .i64 0, .int .i64 0, .int .i64 0, .int .i64 0, .int .i64 0, .int .i64 0, .int .i64 0, .int .i64 0, .int .i64 0, .int .i64 0]
set_option maxHeartbeats 1000000 in
theorem eq13_run (x0 x1 x2 x3 x4 x5 x6 x7 x8 x9 x10 x11 x12 y0 y1 y2 y3 y4 y5 y6 y7 y8 y9 y10 y11 y12 : Int) (W : World) : (binOp .eql 90 (.agg #[.int .i64 x0, .int .i64 x1, .int .i64 x2, .int .i64 x3, .int .i64 x4, .int .i64 x5, .int .i64 x6, .int .i64 x7, .int .i64 x8, .int .i64 x9, .int .i64 x10, .int .i64 x11, .int .i64 x12]) (.agg #[.int .i64 y0, .int .i64 y1, .int .i64 y2, .int .i64 y3, .int .i64 y4, .int .i64 y5, .int .i64 y6, .int .i64 y7, .int .i64 y8, .int .i64 y9, .int .i64 y10, .int .i64 y11, .int .i64 y12])).run Tryz.prog W = .ok (.bool (decide (x0 = y0 ∧ x1 = y1 ∧ x2 = y2 ∧ x3 = y3 ∧ x4 = y4 ∧ x5 = y5 ∧ x6 = y6 ∧ x7 = y7 ∧ x8 = y8 ∧ x9 = y9 ∧ x10 = y10 ∧ x11 = y11 ∧ x12 = y12))) W := by
  by_cases h0 : x0 = y0
  case neg => simp [go_sem, h0]
  by_cases h1 : x1 = y1
  case neg => simp [go_sem, h0, h1]
  by_cases h2 : x2 = y2
  case neg => simp [go_sem, h0, h1, h2]
  by_cases h3 : x3 = y3
  case neg => simp [go_sem, h0, h1, h2, h3]
  by_cases h4 : x4 = y4
  case neg => simp [go_sem, h0, h1, h2, h3, h4]
  by_cases h5 : x5 = y5
  case neg => simp [go_sem, h0, h1, h2, h3, h4, h5]
  by_cases h6 : x6 = y6
  case neg => simp [go_sem, h0, h1, h2, h3, h4, h5, h6]
  by_cases h7 : x7 = y7
  case neg => simp [go_sem, h0, h1, h2, h3, h4, h5, h6, h7]
  by_cases h8 : x8 = y8
  case neg => simp [go_sem, h0, h1, h2, h3, h4, h5, h6, h7, h8]
  by_cases h9 : x9 = y9
  case neg => simp [go_sem, h0, h1, h2, h3, h4, h5, h6, h7, h8, h9]
  by_cases h10 : x10 = y10
  case neg => simp [go_sem, h0, h1, h2, h3, h4, h5, h6, h7, h8, h9, h10]
  by_cases h11 : x11 = y11
  case neg => simp [go_sem, h0, h1, h2, h3, h4, h5, h6, h7, h8, h9, h10, h11]
  by_cases h12 : x12 = y12
  case neg => simp [go_sem, h0, h1, h2, h3, h4, h5, h6, h7, h8, h9, h10, h11, h12]
  subst h0 h1 h2 h3 h4 h5 h6 h7 h8 h9 h10 h11 h12
  simp [go_sem]
theorem eqscl_run (U V : Wld) (W : World) : (binOp .eql 90 (.agg (sclC U)) (.agg (sclC V))).run Tryz.prog W = .ok (.bool (scalW U V)) W := by
  rw [eq13_run]
  congr 2
  rw [Bool.eq_iff_iff, scalW_iff, decide_eq_true_iff]
  constructor
  · rintro ⟨h1, h2, h3, h4, h5, h6, h7, h8, h9, h10, h11, h12, h13⟩
    exact ⟨h1, h2, h3, Prod.ext h4 h5, h6, h7, h8, h9, h10, h11, h12, h13⟩
  · rintro ⟨h1, h2, h3, h4, h6, h7, h8, h9, h10, h11, h12, h13⟩
    exact ⟨h1, h2, h3, by rw [h4], by rw [h4], h6, h7, h8, h9, h10, h11, h12, h13⟩

set_option maxHeartbeats 1000000 in
set_option maxRecDepth 100000 in
theorem scalars_w (a : WA) (W : Wld) (w : World) : Calls Tryz.prog 41 #[.agg (wcs a W)] w fun e w' => e = .returned (.agg (sclC W)) ∧ Below w.heap.size w w' := by
  have hb0 := below2 w (.cells (wcs a W) 43) (.cells scz0 90)
  have k1 := (Held.new w 43 (wcs a W)).alloc (.cells scz0 90)
  have k2 := Held.new1 w (.cells (wcs a W) 43) 90 scz0
  go_enter Tryz.func41, Tryz.ntmps41
  go_upto_region 1 with (fail)
  generalize (w.alloc (.cells (wcs a W) 43)).alloc (.cells scz0 90) = W0 at *
  have x1 := k1.cell 1
  have x2 := k1.cell 2
  have x3 := k1.cell 3
  have x9 := k1.cell 9
  have x10 := k1.cell 10
  have x11 := k1.cell 11
  have x12 := k1.cell 12
  have x13 := k1.cell 13
  have x14 := k1.cell 14
  have x15 := k1.cell 15
  have x16 := k1.cell 16
  have x17 := k1.cell 17
  have x18 := k1.cell 18
  simp at x1 x2 x3 x9 x10 x11 x12 x13 x14 x15 x16 x17 x18
  go_wp2_with (guard_target = wpList _ _ _ (Oper.mk _ (Op.store 90 (.tmp 2) _) _ _ _ none :: _) _ _; refine wpList_store_row rfl 90 _ _ rfl (w.heap.size + 1) (sclC W) rfl rfl _ _ k2 (by kernel_rfl) rfl (by simp [Value.oneCell']) ?_)
  have l1 := run_loadVar_row (P := Tryz.prog) _ (w.heap.size + 1) 90 90 _ (0, 0) _ (held_rowSelf k2 (sclC W)) Tryz.underlying90 rfl (by kernel_rfl)
  exact bodyPost_ret (results_c0 rfl _ _ rfl l1) rfl ⟨rfl, below_setRow hb0 (Nat.le_succ _) _⟩
theorem exec_eql {ev : Operand → Value} {o : Oper} {t t2 : TypeId} {x y : Operand} {a b : Array Value} {W : World} {r : Value} (hg : Tryz.prog.eqGuardType Tryz.prog.depth t = false) (ho : o.op = .binOp .eql t x y t2) (hx : ev x = .agg a) (hy : ev y = .agg b) (h : (binOp .eql t (.agg a) (.agg b)).run Tryz.prog W = .ok r W) : (execOp ev o).run Tryz.prog W = .ok (.value r) W := by
  unfold execOp
  simp only [ho, hx, hy, Sem.run_bind, run_eqGuard_agg W .eql t x y a b hg, Result.andThen_ok, h, Sem.run_pure]
theorem sameW_eq (U W : Wld) : sameW U W = (scalW U W && sameP U.prog W.prog && decide (U.pen = W.pen) && sameG U.rings W.rings && decide (U.cur = W.cur)) := by
  rw [Bool.eq_iff_iff, sameW_parts]
  simp only [Bool.and_eq_true, decide_eq_true_eq, sameP_iff, sameG_iff]
  constructor
  · rintro ⟨h1, h2, h3, h4, h5, h6⟩
    exact ⟨⟨⟨⟨h6, h3⟩, h4⟩, h5⟩, h2⟩
  · rintro ⟨⟨⟨⟨h6, h3⟩, h4⟩, h5⟩, h2⟩
    exact ⟨by rw [h5], h2, h3, h4, h5, h6⟩
end Go.Proofs.YtjibkgildfjjoaaGreatDoor

