/- Layer 11: the document's Same, New, Pop, Steal. -/
import Derived.Test.YthmnaclmbglkdaaNi
namespace Go.Proofs.Ythmnaclmbglkdaa
set_option linter.unusedVariables false
set_option linter.unusedSimpArgs false
open Go.RowKit Go.ChangeShapes Go.WideShapes Go.ChangeAt Go.Sort

abbrev rgc (A : Option Addr) (n c : Nat) (h m t : Int) : Array Value := #[.slice A n c, .int .i64 h, .int .i64 m, .int .i64 t]
set_option maxHeartbeats 2000000 in
set_option maxRecDepth 100000 in
theorem rsamer_any {A A2 : Option Addr} {r q : Rng} {B : Nat} (c c2 : Nat) (w : World) (h1 : PAt w B A r.buf) (h2 : PAt w B A2 q.buf) (hB : B ≤ w.heap.size) (l1 : r.buf.length ≤ 100000) (l2 : q.buf.length ≤ 100000) :
    Calls Try.prog 21 #[rgv A r.buf.length c r.head r.many r.most, rgv A2 q.buf.length c2 q.head q.many q.most] w
      fun e w' => e = .returned (.bool (decide (r.buf = q.buf) && (r.head == q.head) && (r.many == q.many) && (r.most == q.most))) ∧ Below w.heap.size w w' := by
  have hb0 := below2 w (.cells (rgc A r.buf.length c r.head r.many r.most) 24) (.cells (rgc A2 q.buf.length c2 q.head q.many q.most) 24)
  have g2 := (Held.new w 24 (rgc A r.buf.length c r.head r.many r.most)).alloc (.cells (rgc A2 q.buf.length c2 q.head q.many q.most) 24)
  have g3 := Held.new1 w (.cells (rgc A r.buf.length c r.head r.many r.most) 24) 24 (rgc A2 q.buf.length c2 q.head q.many q.most)
  have CR := rrefs_any c c2 _ (h1.below hb0 hB) (h2.below hb0 hB) l1 l2
  obtain ⟨b1, h1', m1, t1⟩ := r
  obtain ⟨b2, h2', m2, t2⟩ := q
  simp only at *
  generalize decide (b1 = b2) = X at *
  generalize b1.length = n1 at *
  generalize b2.length = n2 at *
  clear h1 h2 hB l1 l2
  go_enter Try.func21, Try.ntmps21
  go_upto_region 1 with (fail)
  generalize (w.alloc (.cells (rgc A n1 c h1' m1 t1) 24)).alloc (.cells (rgc A2 n2 c2 h2' m2 t2) 24) = W0 at *
  have x0 := g2.cell 0
  have y0 := g3.cell 0
  simp at x0 y0
  cases X
  · go_wp2_with (go_at_call 22; (with_reducible refine CR.mono ?_); rintro _ u ⟨rfl, hb⟩)
    go_ret
    exact ⟨rfl, Below.step hb0 hb⟩
  · cases e1 : (h1' == h2')
    · go_wp2_with (go_at_call 22; (with_reducible refine CR.mono ?_); rintro _ u ⟨rfl, hb⟩; have k2 := g2.below hb; have k3 := g3.below hb; have x1 := k2.cell 1; have y1 := k3.cell 1; simp at x1 y1)
      go_ret
      exact ⟨ret_bool (by rw [e1]; simp), Below.step hb0 hb⟩
    · cases e2 : (m1 == m2)
      · go_wp2_with (go_at_call 22; (with_reducible refine CR.mono ?_); rintro _ u ⟨rfl, hb⟩; have k2 := g2.below hb; have k3 := g3.below hb; have x1 := k2.cell 1; have y1 := k3.cell 1; have x2 := k2.cell 2; have y2 := k3.cell 2; simp at x1 y1 x2 y2)
        go_ret
        exact ⟨ret_bool (by rw [e1, e2]; simp), Below.step hb0 hb⟩
      · go_wp2_with (go_at_call 22; (with_reducible refine CR.mono ?_); rintro _ u ⟨rfl, hb⟩; have k2 := g2.below hb; have k3 := g3.below hb; have x1 := k2.cell 1; have y1 := k3.cell 1; have x2 := k2.cell 2; have y2 := k3.cell 2; have x3 := k2.cell 3; have y3 := k3.cell 3; simp at x1 y1 x2 y2 x3 y3)
        go_ret
        exact ⟨ret_bool (by rw [e1, e2]; simp), Below.step hb0 hb⟩
end Go.Proofs.Ythmnaclmbglkdaa
