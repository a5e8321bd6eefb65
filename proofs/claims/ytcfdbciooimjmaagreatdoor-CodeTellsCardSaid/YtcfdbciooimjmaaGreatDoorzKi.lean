/- Layer 7's code: the decoder's instr. -/
import Derived.Test.YtcfdbciooimjmaaGreatDoorzGj
namespace Go.Proofs.YtcfdbciooimjmaaGreatDoor
set_option linter.unusedVariables false
set_option linter.unusedSimpArgs false
open Go.RowKit Go.ChangeShapes Go.WideShapes Go.ChangeAt Go.Sort

theorem below_grown {w0 w w' : World} {g : Nat} (h : Below w0.heap.size w0 w) (hg : w.grownBy w' (some g)) (h0 : w0.heap.size ≤ g) : Below w0.heap.size w0 w' :=
  h.grown hg h.size (fun b e => by cases e; exact h0)
/-- A block laid behind the decoder's, that is another one. -/
theorem held_far {w w' : World} {g k : Nat} {t : TypeId} {cs : Array Value} (h : Held w k t cs) (hg : w.grownBy w' (some g)) (hk : k ≠ g) : Held w' k t cs := (hg.block k h.lt (by simpa using hk)).trans h
theorem dc_alloc {w : World} {g : Nat} {s : ByteArray} {i er : Int} (h : Dc w g s i er) (o : Obj) : Dc (w.alloc o) g s i er := h.alloc o
theorem op_f (l : List UInt8) (i er : Int) : (rz (opS l i er).1).f = 0 ∨ (rz (opS l i er).1).f = 1 ∨ (rz (opS l i er).1).f = 2 := by
  rcases okZ_cases (opS l i er).1 with ⟨k, hk, e⟩ | h
  · rw [e, rz_in hk]
    have := row_ok k hk
    omega
  · rw [rz_out h]
    exact .inl rfl

/-- What lies ready while an instruction is read: the decoder, the instruction, its result's block. -/
structure Ib (w0 w : World) (g : Nat) (s : ByteArray) (r X : Nat) (i e : Int) (o a b : Int) (u : World) : Prop where
  d : Dc u g s i e
  x : Held u X 64 #[.int .i64 o, .int .i64 a, .int .i64 b]
  rr : Held u r 64 #[.int .i64 0, .int .i64 0, .int .i64 0]
  lo : Below w0.heap.size w0 u
  gr : w.grownBy u (some g)
  ng : w0.heap.size ≤ g
  gw : g < w.heap.size
  wr : w.heap.size ≤ r
  rx : r < X
theorem Ib.below {w0 w : World} {g : Nat} {s : ByteArray} {r X : Nat} {i e o a b : Int} {u u' : World} (h : Ib w0 w g s r X i e o a b u) (hb : Below u.heap.size u u') : Ib w0 w g s r X i e o a b u' :=
  ⟨h.d.below hb, h.x.below hb, h.rr.below hb, h.lo.trans (hb.mono h.lo.size), grown_trans h.gr (grown_of_below hb _), h.ng, h.gw, h.wr, h.rx⟩
theorem Ib.dec {w0 w : World} {g : Nat} {s : ByteArray} {r X : Nat} {i e o a b : Int} {u u' : World} (h : Ib w0 w g s r X i e o a b u) {i' e' : Int} (hd : Dc u' g s i' e') (hg : u.grownBy u' (some g)) : Ib w0 w g s r X i' e' o a b u' := by
  have h1 := h.gw
  have h2 := h.wr
  have h3 := h.rx
  exact ⟨hd, held_far h.x hg (by omega), held_far h.rr hg (by omega), below_grown h.lo hg h.ng, grown_trans h.gr hg, h.ng, h.gw, h.wr, h.rx⟩
theorem grown_far {w u : World} {g : Option Nat} (h : w.grownBy u g) {r : Nat} (hr : w.heap.size ≤ r) (i : Nat) (x : Value) : w.grownBy (u.setCell ⟨r, i, none⟩ x) g :=
  ⟨h.os, h.tape, h.output, by simpa [World.setCell] using h.size, fun k hk hn => (Below.heap_setCell u ⟨r, i, none⟩ x k (by show k ≠ r; omega)).trans (h.block k hk hn)⟩
theorem Ib.setX {w0 w : World} {g : Nat} {s : ByteArray} {r X : Nat} {i e o a b : Int} {u : World} (h : Ib w0 w g s r X i e o a b u) {o' a' b' : Int} (j : Nat) (v : Value) (hc : (#[Value.int .i64 o, .int .i64 a, .int .i64 b] : Array Value).setIfInBounds j v = #[.int .i64 o', .int .i64 a', .int .i64 b']) :
    Ib w0 w g s r X i e o' a' b' (u.setCell ⟨X, j, none⟩ v) := by
  have h1 := h.gw
  have h2 := h.wr
  have h3 := h.rx
  have h4 := h.ng
  refine ⟨h.d.far (by omega) _ _, by have := h.x.set_at j v; rwa [hc] at this, h.rr.far (by omega) _ _, h.lo.setCell (by show w0.heap.size ≤ X; omega) _, grown_far h.gr (by omega) _ _, h.ng, h.gw, h.wr, h.rx⟩
theorem Ib.cells {w0 w : World} {g : Nat} {s : ByteArray} {r X : Nat} {i e o a b : Int} {u : World} (h : Ib w0 w g s r X i e o a b u) :
    u.cell? ⟨X, 0, none⟩ = some (.int .i64 o) ∧ u.cell? ⟨X, 1, none⟩ = some (.int .i64 a) ∧ u.cell? ⟨X, 2, none⟩ = some (.int .i64 b) ∧ u.frozen? ⟨X, 1, none⟩ = false ∧ u.frozen? ⟨X, 2, none⟩ = false ∧ X < u.heap.size ∧
    u.cell? ⟨r, 0, none⟩ = some (.int .i64 0) ∧ u.cell? ⟨r, 1, none⟩ = some (.int .i64 0) ∧ u.cell? ⟨r, 2, none⟩ = some (.int .i64 0) ∧ u.frozen? ⟨r, 0, none⟩ = false ∧ u.frozen? ⟨r, 1, none⟩ = false ∧ u.frozen? ⟨r, 2, none⟩ = false ∧ r < u.heap.size :=
  ⟨h.x.cell 0, h.x.cell 1, h.x.cell 2, h.x.fz 1, h.x.fz 2, h.x.lt, h.rr.cell 0, h.rr.cell 1, h.rr.cell 2, h.rr.fz 0, h.rr.fz 1, h.rr.fz 2, h.rr.lt⟩
/-- The result is laid. -/
theorem Ib.fin {w0 w : World} {g : Nat} {s : ByteArray} {r X : Nat} {i e o a b : Int} {u : World} (h : Ib w0 w g s r X i e o a b u) (x y z : Value) :
    Held (((u.setCell ⟨r, 0, none⟩ x).setCell ⟨r, 1, none⟩ y).setCell ⟨r, 2, none⟩ z) r 64 #[x, y, z] ∧ Dc (((u.setCell ⟨r, 0, none⟩ x).setCell ⟨r, 1, none⟩ y).setCell ⟨r, 2, none⟩ z) g s i e ∧ w.grownBy (((u.setCell ⟨r, 0, none⟩ x).setCell ⟨r, 1, none⟩ y).setCell ⟨r, 2, none⟩ z) (some g) := by
  have h1 := h.gw
  have h2 := h.wr
  exact ⟨((h.rr.set_at 0 x).set_at 1 y).set_at 2 z, ((h.d.far (by omega) _ _).far (by omega) _ _).far (by omega) _ _, grown_far (grown_far (grown_far h.gr h2 _ _) h2 _ _) h2 _ _⟩

set_option maxHeartbeats 4000000 in
set_option maxRecDepth 100000 in
theorem dins_any {g : Nat} {s : ByteArray} {i er : Int} (w0 : World) (hT : TT w0) (h0 : w0.heap.size ≤ g) (w : World) (hw : Below w0.heap.size w0 w) (h : Dc w g s i er) (hs : s.size ≤ 1000000) (hv : Vl s.data.toList i er) :
    Calls Tryz.prog 85 #[.pointer (some ⟨g, 0, none⟩)] w fun x w' => x = .returned (iv (insS s.data.toList i er).1.1 (insS s.data.toList i er).1.2.1 (insS s.data.toList i er).1.2.2) ∧ Dc w' g s (insS s.data.toList i er).2.1 (insS s.data.toList i er).2.2 ∧ w.grownBy w' (some g) := by
  have O := fun W h => Lib.hid (dop_any (g := g) (s := s) (i := i) (er := er) W h hs hv)
  have hf := op_f s.data.toList i er
  have v1 := hv.op
  unfold insS
  generalize opS s.data.toList i er = x at *
  obtain ⟨o, i1, e1⟩ := x
  simp only at *
  have CF := fun W h => Lib.hid (fields_any o W h)
  have R1 := fun W h => Lib.hid (dread_any (g := g) (s := s) (i := i1) (er := e1) W h hs v1)
  have v2 := v1.rd
  generalize rdS s.data.toList i1 e1 = y at *
  obtain ⟨a, i2, e2⟩ := y
  simp only at *
  have CM1 := fun W h => Lib.hid (may_any o a 0 W h)
  generalize mayZ o a 0 = m1 at *
  have v2' : Vl s.data.toList i2 (wE m1 71 e2) := Vl.want (by decide) v2
  have R2 := fun W h => Lib.hid (dread_any (g := g) (s := s) (i := i2) (er := wE m1 71 e2) W h hs v2')
  generalize rdS s.data.toList i2 (wE m1 71 e2) = z at *
  obtain ⟨b, i3, e3⟩ := z
  simp only at *
  have CM2 := fun W h => Lib.hid (may_any o a b W h)
  generalize mayZ o a b = m2 at *
  have WA := fun W (h : Dc W g s i2 e2) => Lib.hid (want_any m1 71 W h)
  have WB := fun W (h : Dc W g s i3 e3) => Lib.hid (want_any m2 71 W h)
  have HH := Lib.hid (dc_alloc h (.cells #[.int .i64 0, .int .i64 0, .int .i64 0] 64))
  have HT := Lib.hid hT
  have hgl := h.lt
  have hw1 := hw.alloc hw.size (.cells #[.int .i64 0, .int .i64 0, .int .i64 0] 64)
  have hI0 : ∀ u1, Dc u1 g s i1 e1 → (w.alloc (.cells #[.int .i64 0, .int .i64 0, .int .i64 0] 64)).grownBy u1 (some g) → Ib w0 w g s w.heap.size u1.heap.size i1 e1 o 0 0 (u1.alloc (.cells #[.int .i64 o, .int .i64 0, .int .i64 0] 64)) := fun u1 hd hg => by
    have hz := hg.size
    simp at hz
    exact ⟨hd.alloc _, Held.new _ _ _, (held_far (Held.new w 64 #[.int .i64 0, .int .i64 0, .int .i64 0]) hg (by have := h.lt; omega)).alloc _, (below_grown hw1 hg h0).alloc (Nat.le_trans hw1.size hg.size) _,
      grown_trans (grown_trans (grown_of_below ((Below.refl w.heap.size w).alloc (Nat.le_refl _) _) _) hg) (grown_of_below ((Below.refl u1.heap.size u1).alloc (Nat.le_refl _) _) _), h0, h.lt, Nat.le_refl _, by omega⟩
  have HI0 := Lib.hid hI0
  clear h hT v1 v2 v2' hv hI0 hw1 hw
  generalize (rz o).f = f at *
  rcases hf with rfl | rfl | rfl
  · go_enter Tryz.func85, Tryz.ntmps85
    go_wp2_with (first
      | (go_at_call 102; (with_reducible refine (O _ HH.out).out.mono ?_); rintro x u1 ⟨rfl, hd1, hg1⟩; have I := Lib.hid (HI0.out u1 hd1 hg1); clear hd1 hg1)
      | (go_at_call 73; (with_reducible refine (CF _ (HT.out.below I.out.lo).op).out.mono ?_); rintro x u2 ⟨rfl, hb2⟩; replace I := Lib.hid (I.out.below hb2); obtain ⟨x0, x1, x2, y1, y2, xl, r0, r1, r2, q0, q1, q2, rl⟩ := I.out.cells; clear hb2))
    obtain ⟨hR, hD, hG⟩ := I.out.fin (.int .i64 o) (.int .i64 0) (.int .i64 0)
    generalize ((u2.setCell _ _).setCell _ _).setCell _ _ = W at hR hD hG ⊢
    have z0 := hR.cell 0
    have z1 := hR.cell 1
    have z2 := hR.cell 2
    simp at z0 z1 z2
    exact bodyPost_ret (v := iv o 0 0) (by simp [results, Tryz.results85, go_sem, z0, z1, z2]) rfl ⟨rfl, hD, hG⟩
  · go_enter Tryz.func85, Tryz.ntmps85
    go_wp2_with (first
      | (go_at_call 102; (with_reducible refine (O _ HH.out).out.mono ?_); rintro x u1 ⟨rfl, hd1, hg1⟩; have I := Lib.hid (HI0.out u1 hd1 hg1); clear hd1 hg1)
      | (go_at_call 73; (with_reducible refine (CF _ (HT.out.below I.out.lo).op).out.mono ?_); rintro x u2 ⟨rfl, hb2⟩; replace I := Lib.hid (I.out.below hb2); obtain ⟨x0, x1, x2, y1, y2, xl, r0, r1, r2, q0, q1, q2, rl⟩ := I.out.cells; clear hb2)
      | (go_at_call 84; (with_reducible refine (R1 _ I.out.d).out.mono ?_); rintro x u3 ⟨rfl, hd3, hg3⟩; replace I := Lib.hid (I.out.dec hd3 hg3); obtain ⟨x0, x1, x2, y1, y2, xl, _⟩ := I.out.cells; replace I := Lib.hid (I.out.setX (o' := o) (a' := a) (b' := 0) 1 (.int .i64 a) rfl); clear hd3 hg3)
      | (go_at_call 67; (with_reducible refine (CM1 _ (HT.out.below I.out.lo).op).out.mono ?_); rintro x u4 ⟨rfl, hb4⟩; replace I := Lib.hid (I.out.below hb4); clear hb4)
      | (go_at_call 30; (with_reducible refine (WA _ I.out.d).out.mono ?_); rintro x u5 ⟨rfl, hd5, hg5⟩; replace I := Lib.hid (I.out.dec hd5 hg5); obtain ⟨x0, x1, x2, y1, y2, xl, r0, r1, r2, q0, q1, q2, rl⟩ := I.out.cells; clear hd5 hg5))
    obtain ⟨hR, hD, hG⟩ := I.out.fin (.int .i64 o) (.int .i64 a) (.int .i64 0)
    generalize ((World.setCell _ _ _).setCell _ _).setCell _ _ = W at hR hD hG ⊢
    have z0 := hR.cell 0
    have z1 := hR.cell 1
    have z2 := hR.cell 2
    simp at z0 z1 z2
    exact bodyPost_ret (v := iv o a 0) (by simp [results, Tryz.results85, go_sem, z0, z1, z2]) rfl ⟨rfl, hD, hG⟩
  · go_enter Tryz.func85, Tryz.ntmps85
    go_wp2_with (first
      | (go_at_call 102; (with_reducible refine (O _ HH.out).out.mono ?_); rintro x u1 ⟨rfl, hd1, hg1⟩; have I := Lib.hid (HI0.out u1 hd1 hg1); clear hd1 hg1)
      | (go_at_call 73; (with_reducible refine (CF _ (HT.out.below I.out.lo).op).out.mono ?_); rintro x u2 ⟨rfl, hb2⟩; replace I := Lib.hid (I.out.below hb2); obtain ⟨x0, x1, x2, y1, y2, xl, r0, r1, r2, q0, q1, q2, rl⟩ := I.out.cells; clear hb2)
      | (go_at_call 84; (with_reducible refine (R1 _ I.out.d).out.mono ?_); rintro x u3 ⟨rfl, hd3, hg3⟩; replace I := Lib.hid (I.out.dec hd3 hg3); obtain ⟨x0, x1, x2, y1, y2, xl, _⟩ := I.out.cells; replace I := Lib.hid (I.out.setX (o' := o) (a' := a) (b' := 0) 1 (.int .i64 a) rfl); clear hd3 hg3)
      | (go_at_call 67; (with_reducible refine (CM1 _ (HT.out.below I.out.lo).op).out.mono ?_); rintro x u4 ⟨rfl, hb4⟩; replace I := Lib.hid (I.out.below hb4); clear hb4)
      | (go_at_call 30; (with_reducible refine (WA _ I.out.d).out.mono ?_); rintro x u5 ⟨rfl, hd5, hg5⟩; replace I := Lib.hid (I.out.dec hd5 hg5); obtain ⟨x0, x1, x2, y1, y2, xl, r0, r1, r2, q0, q1, q2, rl⟩ := I.out.cells; clear hd5 hg5)
      | (go_at_call 84; (with_reducible refine (R2 _ I.out.d).out.mono ?_); rintro x u6 ⟨rfl, hd6, hg6⟩; replace I := Lib.hid (I.out.dec hd6 hg6); obtain ⟨x0, x1, x2, y1, y2, xl, _⟩ := I.out.cells; replace I := Lib.hid (I.out.setX (o' := o) (a' := a) (b' := b) 2 (.int .i64 b) rfl); clear hd6 hg6)
      | (go_at_call 67; (with_reducible refine (CM2 _ (HT.out.below I.out.lo).op).out.mono ?_); rintro x u7 ⟨rfl, hb7⟩; replace I := Lib.hid (I.out.below hb7); clear hb7)
      | (go_at_call 30; (with_reducible refine (WB _ I.out.d).out.mono ?_); rintro x u8 ⟨rfl, hd8, hg8⟩; replace I := Lib.hid (I.out.dec hd8 hg8); obtain ⟨x0, x1, x2, y1, y2, xl, r0, r1, r2, q0, q1, q2, rl⟩ := I.out.cells; clear hd8 hg8))
    obtain ⟨hR, hD, hG⟩ := I.out.fin (.int .i64 o) (.int .i64 a) (.int .i64 b)
    generalize ((World.setCell _ _ _).setCell _ _).setCell _ _ = W at hR hD hG ⊢
    have z0 := hR.cell 0
    have z1 := hR.cell 1
    have z2 := hR.cell 2
    simp at z0 z1 z2
    exact bodyPost_ret (v := iv o a b) (by simp [results, Tryz.results85, go_sem, z0, z1, z2]) rfl ⟨rfl, hD, hG⟩
end Go.Proofs.YtcfdbciooimjmaaGreatDoor

