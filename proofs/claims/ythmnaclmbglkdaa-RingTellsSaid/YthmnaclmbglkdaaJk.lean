/- Layer 11: lists that are built; ways that meet again. -/
import Derived.Test.YthmnaclmbglkdaaJi
import Derived.OrdersHeld
import Derived.Deep.RegionHeld
import Derived.Great.BuildSlice
namespace Go.Proofs.Ythmnaclmbglkdaa
set_option linter.unusedVariables false
set_option linter.unusedSimpArgs false
open Go.RowKit Go.ChangeShapes Go.WideShapes Go.ChangeAt Go.Sort

theorem wp_build1R {o : Oper} {a : Act} {w : World} {K : Act → World → Prop} {Q : Exit → Act → World → Prop} {x : Operand} {p q : Int} (ho : o.op = .buildSlice 22 1 #[(0, x)]) (hx : a.eval x = .agg #[.int .i64 p, .int .i64 q])
    (h : K (a.put o.dst (.slice (some ⟨w.heap.size, 0, none⟩) 1 1)) (w.alloc (.cells #[.int .i64 p, .int .i64 q] 33))) : o.wp Try.prog a w K Q := by
  obtain ⟨i, hi, hz0, hz1, hz2⟩ := info_parts infoR
  exact wp_buildSlice 22 33 1 _ ho _ i _ Try.underlying22 hi hz0 (by rw [hz1]; decide) (by rw [hz1]; decide) (by simp only [List.map_toArray, List.map_cons, List.map_nil, hx, hz1]; kernel_rfl) h
theorem wp_build2R {o : Oper} {a : Act} {w : World} {K : Act → World → Prop} {Q : Exit → Act → World → Prop} {x y : Operand} {p q r s : Int} (ho : o.op = .buildSlice 22 2 #[(0, x), (1, y)]) (hx : a.eval x = .agg #[.int .i64 p, .int .i64 q]) (hy : a.eval y = .agg #[.int .i64 r, .int .i64 s])
    (h : K (a.put o.dst (.slice (some ⟨w.heap.size, 0, none⟩) 2 2)) (w.alloc (.cells #[.int .i64 p, .int .i64 q, .int .i64 r, .int .i64 s] 33))) : o.wp Try.prog a w K Q := by
  obtain ⟨i, hi, hz0, hz1, hz2⟩ := info_parts infoR
  exact wp_buildSlice 22 33 2 _ ho _ i _ Try.underlying22 hi hz0 (by rw [hz1]; decide) (by rw [hz1]; decide) (by simp only [List.map_toArray, List.map_cons, List.map_nil, hx, hy, hz1]; kernel_rfl) h
theorem wp_build5R {o : Oper} {a : Act} {w : World} {K : Act → World → Prop} {Q : Exit → Act → World → Prop} {x1 x2 x3 x4 x5 : Operand} {p1 p2 p3 p4 p5 q1 q2 q3 q4 q5 : Int} (ho : o.op = .buildSlice 22 5 #[(0, x1), (1, x2), (2, x3), (3, x4), (4, x5)])
    (h1 : a.eval x1 = .agg #[.int .i64 p1, .int .i64 q1]) (h2 : a.eval x2 = .agg #[.int .i64 p2, .int .i64 q2]) (h3 : a.eval x3 = .agg #[.int .i64 p3, .int .i64 q3]) (h4 : a.eval x4 = .agg #[.int .i64 p4, .int .i64 q4]) (h5 : a.eval x5 = .agg #[.int .i64 p5, .int .i64 q5])
    (h : K (a.put o.dst (.slice (some ⟨w.heap.size, 0, none⟩) 5 5)) (w.alloc (.cells #[.int .i64 p1, .int .i64 q1, .int .i64 p2, .int .i64 q2, .int .i64 p3, .int .i64 q3, .int .i64 p4, .int .i64 q4, .int .i64 p5, .int .i64 q5] 33))) : o.wp Try.prog a w K Q := by
  obtain ⟨i, hi, hz0, hz1, hz2⟩ := info_parts infoR
  exact wp_buildSlice 22 33 5 _ ho _ i _ Try.underlying22 hi hz0 (by rw [hz1]; decide) (by rw [hz1]; decide) (by simp only [List.map_toArray, List.map_cons, List.map_nil, h1, h2, h3, h4, h5, hz1]; kernel_rfl) h
/-- That no operation is a select is said once for a region. -/
theorem wpAnyH_begin {P : Program} {ops : Array Oper} {Q : Exit → Act → World → Prop} {md : Region.Mode} {S : World → Prop} {fuel : Nat} {listed : Array Bool} {a : Act} {w : World} (hs : Region.noSelect ops = true) (h : Hid (Region.noSelect ops = true) → wpAnyH P md ops Q S fuel listed a w) : wpAnyH P md ops Q S fuel listed a w := h hs
theorem wpAnyH_takeS {P : Program} {ops : Array Oper} {Q : Exit → Act → World → Prop} {md : Region.Mode} {S : World → Prop} {i : Nat} {oi : Oper} {v : Value} {fuel : Nat} {listed : Array Bool} {a : Act} {w : World} (HS : Hid (Region.noSelect ops = true)) (hi : ops[i]? = some oi)
    (hf : Region.free md ops listed i = true) (hr : (Region.ready md ops listed).contains i = true) (hQ : ∀ c a w, Q (.panic c) (a.put oi.dst v) w → Q (.panic c) a w) (hy : YieldsIf P ops S oi v a) (hS : S w)
    (h : wpAnyH P md ops Q S fuel (listed.setIfInBounds i true) (a.put oi.dst v) w) : wpAnyH P md ops Q S (fuel + 1) listed a w :=
  wpAnyH_take hi HS.out hf hr hQ hy hS h
/-- Ways that meet again: what is reached on both is shown once. -/
theorem join1 {S : World → Value → Prop} {G : Prop} {H : World → Value → Prop} (both : (∀ W x, H W x → S W x) → G) (key : ∀ W x, H W x → S W x) : G := both key
theorem join2 {S : World → Value → Value → Prop} {G : Prop} {H : World → Value → Value → Prop} (both : (∀ W x y, H W x y → S W x y) → G) (key : ∀ W x y, H W x y → S W x y) : G := both key
theorem join3 {S : World → Value → Value → Value → Prop} {G : Prop} {H : World → Value → Value → Value → Prop} (both : (∀ W x y z, H W x y z → S W x y z) → G) (key : ∀ W x y z, H W x y z → S W x y z) : G := both key
theorem join4 {S : World → Value → Value → Value → Value → Prop} {G : Prop} {H : World → Value → Value → Value → Value → Prop} (both : (∀ W x y z t, H W x y z t → S W x y z t) → G) (key : ∀ W x y z t, H W x y z t → S W x y z t) : G := both key
theorem join5 {S : World → Value → Value → Value → Value → Value → Prop} {G : Prop} {H : World → Value → Value → Value → Value → Value → Prop} (both : (∀ W x y z t u, H W x y z t u → S W x y z t u) → G) (key : ∀ W x y z t u, H W x y z t u → S W x y z t u) : G := both key
end Go.Proofs.Ythmnaclmbglkdaa
