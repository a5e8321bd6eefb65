/- Layer 7's code: a draft: a program of the call's own, that grows. -/
import Derived.Test.YtcfdbciooimjmaaGreatDoorzKw
import Derived.Test.YtcfdbciooimjmaaGreatDoorzKg
import Derived.Deep.RegionLaw
import Derived.Deep.RegionHeld3
import Derived.Deep.AppendLies
import Derived.Test.YtcfdbciooimjmaaGreatDoorzGd
namespace Go.Proofs.YtcfdbciooimjmaaGreatDoor
set_option linter.unusedVariables false
set_option linter.unusedSimpArgs false
open Go.RowKit Go.ChangeShapes Go.WideShapes Go.ChangeAt Go.Sort

/-- A draft in block D: its functions are the call's own, behind D. -/
structure Dr (D : Nat) (v : Value) (L : List (Fun × Value)) (u : World) : Prop where
  d : Held u D 41 #[v]
  own : OwnL u (D + 1) v L
theorem Dr.below {D : Nat} {v : Value} {L : List (Fun × Value)} {u u' : World} (h : Dr D v L u) (hb : Below u.heap.size u u') : Dr D v L u' := ⟨h.d.below hb, h.own.below hb⟩
/-- The last function's cells. -/
theorem OwnL.last {w : World} {B : Nat} {v : Value} {L : List (Fun × Value)} {f : Fun} {cv : Value} (h : OwnL w B v (L ++ [(f, cv)])) :
    ∃ g cap, v = .slice (some ⟨g, 0, none⟩) (L.length + 1) cap ∧ B ≤ g ∧ g < w.heap.size ∧ w.cell? ⟨g, L.length * 4, none⟩ = some (.int .i64 f.ar) ∧ w.cell? ⟨g, L.length * 4 + 1, none⟩ = some (.int .i64 f.lo) ∧ w.cell? ⟨g, L.length * 4 + 2, none⟩ = some (.int .i64 f.sl) ∧
      w.cell? ⟨g, L.length * 4 + 3, none⟩ = some cv ∧ ∀ i, w.frozen? ⟨g, i, none⟩ = false := by
  have hcells := fun g hg => h.1.cells (g := g) hg
  have hlt := fun g hg => h.1.lt g hg
  obtain ⟨_, h2⟩ := h.1
  rw [List.length_append, List.length_singleton] at h2
  rcases h2 with ⟨_, h0⟩ | ⟨g, cap, cur, rfl, hg, hb, _⟩
  · omega
  · have hc := hcells g rfl
    have hj : L.length < (L ++ [(f, cv)]).length := by simp
    obtain ⟨e0, e1, e2, e3⟩ := flatF_at (L ++ [(f, cv)]) L.length hj
    have k0 := hc _ _ e0
    have k1 := hc _ _ e1
    have k2 := hc _ _ e2
    have k3 := hc _ _ e3
    rw [addr_add] at k0 k1 k2 k3
    simp at k0 k1 k2 k3
    exact ⟨g, cap, rfl, hg, (hlt g rfl).2, k0, k1, k2, k3, fun i => fz_at hb i⟩
theorem set_last4 (xs : List Value) (a b c d d' : Value) : (xs ++ [a, b, c, d]).set (xs.length + 3) d' = xs ++ [a, b, c, d'] := by
  induction xs with
  | nil => rfl
  | cons x xs ih =>
    simp only [List.cons_append, List.length_cons, show xs.length + 1 + 3 = (xs.length + 3) + 1 from rfl, List.set_cons_succ]
    rw [ih]
/-- The last function has a code more. -/
theorem OwnL.more {w : World} {B g cap : Nat} {L : List (Fun × Value)} {f f' : Fun} {cv cv' : Value}
    (h : w.ownsRow B 39 4 (.slice (some ⟨g, 0, none⟩) (L.length + 1) cap) (L.length + 1) (flatF (L ++ [(f, cv)]))) (hl : Codes w B L) (hc : OwnC w B cv' f'.code) (hd : ∀ x ∈ L, ∀ b, x.2.ownBlock = some b → cv'.ownBlock ≠ some b)
    (e1 : f'.ar = f.ar) (e2 : f'.lo = f.lo) (e3 : f'.sl = f.sl) :
    OwnL (w.setCell ⟨g, L.length * 4 + 3, none⟩ cv') B (.slice (some ⟨g, 0, none⟩) (L.length + 1) cap) (L ++ [(f', cv')]) := by
  have hcd := hl.snoc hc hd
  have h4 := h.stored (L.length * 4 + 3) cv'
  refine ⟨?_, ?_⟩
  · have e := h4.1
    rw [flatF_snoc, ← flatF_len L, set_last4] at e
    rw [flatF_snoc, List.length_append, ← flatF_len L, e1, e2, e3]
    exact e
  · exact hcd.grown h4.2 fun x hx b hb => own_ne (hcd.1 x hx) h b hb
end Go.Proofs.YtcfdbciooimjmaaGreatDoor

/- Layer 7's code: the draft's open. -/
namespace Go.Proofs.YtcfdbciooimjmaaGreatDoor
set_option linter.unusedVariables false
set_option linter.unusedSimpArgs false
open Go.RowKit Go.ChangeShapes Go.WideShapes Go.ChangeAt Go.Sort

set_option maxHeartbeats 2000000 in
set_option maxRecDepth 100000 in
theorem copen_len {D : Nat} {v : Value} {L : List (Fun × Value)} {A : Option Addr} {n c : Nat} (w : World) (h : Dr D v L w) (hn : n ≠ 3) :
    Calls Tryz.prog 57 #[.pointer (some ⟨D, 0, none⟩), .slice A n c] w fun e w' => e = .returned (.bool false) ∧ w = w' := by
  obtain ⟨Av, cv, rfl, _⟩ := h.own.prog
  have d0 := h.d.cell 0
  have dl := h.d.lt
  simp at d0
  have h1 : ((n : Int) != 3) = true := by simp; omega
  clear h hn
  go_enter Tryz.func57, Tryz.ntmps57
  go_wp2_with fail
  go_ret
  exact ⟨rfl, rfl⟩
set_option maxHeartbeats 2000000 in
set_option maxRecDepth 100000 in
theorem copen_full {D : Nat} {v : Value} {L : List (Fun × Value)} {A : Option Addr} {c : Nat} (w : World) (h : Dr D v L w) (hn : L.length = 16) :
    Calls Tryz.prog 57 #[.pointer (some ⟨D, 0, none⟩), .slice A 3 c] w fun e w' => e = .returned (.bool false) ∧ w = w' := by
  obtain ⟨Av, cv, rfl, _⟩ := h.own.prog
  have d0 := h.d.cell 0
  have dl := h.d.lt
  simp at d0
  rw [hn] at d0
  clear h hn
  go_enter Tryz.func57, Tryz.ntmps57
  go_wp2_with fail
  go_ret
  exact ⟨rfl, rfl⟩
set_option maxHeartbeats 2000000 in
set_option maxRecDepth 100000 in
theorem copen_bare {D : Nat} {v : Value} {L : List (Fun × Value)} {f : Fun} {cf : Value} {A : Option Addr} {c : Nat} (w : World) (h : Dr D v (L ++ [(f, cf)]) w) (hl : L.length ≤ 1000) (hf : f.code = []) :
    Calls Tryz.prog 57 #[.pointer (some ⟨D, 0, none⟩), .slice A 3 c] w fun e w' => e = .returned (.bool false) ∧ w = w' := by
  have hoc : OwnC w (D + 1) cf f.code := h.own.2.1 (f, cf) (by simp)
  obtain ⟨Ac, cc, rfl, _⟩ := hoc.code
  obtain ⟨g, cap, rfl, hg, hgl, _, _, _, k3, _⟩ := h.own.last
  have d0 := h.d.cell 0
  have dl := h.d.lt
  simp at d0
  rw [hf] at k3
  clear h hf hoc
  generalize L.length = m at *
  by_cases h16 : m = 15
  · subst h16
    go_enter Tryz.func57, Tryz.ntmps57
    go_wp2_with fail
    go_ret
    exact ⟨rfl, rfl⟩
  · have h1 : (((m + 1 : Nat) : Int) == 16) = false := by simp; omega
    go_enter Tryz.func57, Tryz.ntmps57
    go_wp2_with fail
    go_ret
    exact ⟨rfl, rfl⟩
/-- One function more, at a step of a region that draws its order. -/
theorem step_append_fun {w : World} {ops : Array Oper} {o : Oper} {a : Act} {K : Act → World → Prop} {Q : Exit → Act → World → Prop} {E : Prop} (hg : o.guard = none) (s x : Operand)
    (hop : o.op = Op.call { callee := Callee.builtin Builtin.append, args := #[s, x], argTypes := #[23, 23] })
    (B : Nat) (w0 : World) (v : Value) (l : List (Fun × Value)) (f : Fun) (c : Value) (hw : w = w0.alloc (.cells #[.int .i64 f.ar, .int .i64 f.lo, .int .i64 f.sl, c] 39)) (hs : a.eval s = v) (own : OwnL w0 B v l)
    (hc : OwnC w0 B c f.code) (hd : ∀ x ∈ l, ∀ b, x.2.ownBlock = some b → c.ownBlock ≠ some b)
    (hx : a.eval x = .slice (some ⟨w0.heap.size, 0, none⟩) 1 1) (hlen : l.length ≤ 1000000) (hB : B ≤ w0.heap.size)
    (h : ∀ g cap w', OwnL w' B (.slice (some ⟨g, 0, none⟩) (l.length + 1) cap) (l ++ [(f, c)]) → w0.grownBy w' v.ownBlock → K (a.put o.dst (.slice (some ⟨g, 0, none⟩) (l.length + 1) cap)) w') :
    if Region.wanted o (yielded ops a.tmps) = true then Oper.wp Tryz.prog o a w K Q else E := by
  subst hw
  obtain ⟨q, hi, hz0, hz1, hz2⟩ := info_parts infoFn
  have own' : (w0.alloc (.cells #[.int .i64 f.ar, .int .i64 f.lo, .int .i64 f.sl, c] 39)).ownsRow B 39 4 v l.length (flatF l) := own.1.alloc _
  obtain ⟨A, cc, hce, _⟩ := hc.code
  refine step_append_lies (P := Tryz.prog) (Q := Q) _ hg s x 23 hop B 39 q (.agg #[.int .i64 0, .int .i64 0, .int .i64 0, .slice none 0 0]) 4 48 Tryz.underlying23 hi hz0 hz1 hz2 rfl (by decide) v l.length (flatF l) hs own' ⟨w0.heap.size, 0, none⟩ 1 1
    [.int .i64 f.ar, .int .i64 f.lo, .int .i64 f.sl, c] hx rfl (World.news_of_block (heap_alloc_last w0 _)) ?_ (by decide) (by unfold maxLen; omega) (by omega) (by simp; omega) _ rfl ?_
  · intro u hu
    simp at hu
    rcases hu with rfl | rfl | rfl | rfl
    · rfl
    · rfl
    · rfl
    · rw [hce]; rfl
  · intro g cap w' h1 h2 h3 h4
    have hg2 : w0.grownBy w' v.ownBlock := ⟨h2.os, h2.tape, h2.output, Nat.le_trans (by simp) h2.size, fun k hk hne => (h2.block k (by simp; omega) hne).trans (Below.heap_alloc w0 _ k hk)⟩
    have hcd := (own.2.snoc hc hd).grown hg2 (fun y hy => own_ne ((own.2.snoc hc hd).1 y hy) own.1)
    refine h g cap w' ⟨?_, hcd⟩ hg2
    rw [flatF_snoc, List.length_append]
    exact h1
theorem own_none {w : World} {B : Nat} {v : Value} {L : List (Fun × Value)} (h : OwnL w B v L) {k : Nat} (hk : k < B) : v.ownBlock ≠ some k := fun e => by
  have := (h.1.lt k e).1
  omega
/-- A function is laid. -/
theorem Dr.push {D : Nat} {v v' : Value} {L L' : List (Fun × Value)} {u u' : World} (h : Dr D v L u) (ho : OwnL u' (D + 1) v' L') (hg : u.grownBy u' v.ownBlock) :
    u'.cell? ⟨D, 0, none⟩ = some v ∧ u'.frozen? ⟨D, 0, none⟩ = false ∧ D < u'.heap.size ∧ Dr D v' L' (u'.setCell ⟨D, 0, none⟩ v') ∧ Below D u (u'.setCell ⟨D, 0, none⟩ v') := by
  have hd := held_row h.d hg (own_none h.own (by omega))
  refine ⟨hd.cell 0, hd.fz 0, hd.lt, ⟨hd.set_at 0 v', ho.grown (grown_set1 u' D 0 v') fun b hb => by cases hb; omega⟩, ?_⟩
  exact ((Below.refl D u).grown hg (by have := h.d.lt; omega) (fun b hb => by have := (h.own.1.lt b hb).1; omega)).setCell (by show D ≤ D; omega) _

set_option maxHeartbeats 4000000 in
set_option maxRecDepth 100000 in
theorem copen_none {D : Nat} {v : Value}  {A : Option Addr} {c : Nat} {a l m : Int} (w : World) (h : Dr D v (([] : List (Fun × Value))) w) (hn : (([] : List (Fun × Value))).length < 16) (hA : IntsAt w A [a, l, m]) :
    Calls Tryz.prog 57 #[.pointer (some ⟨D, 0, none⟩), .slice A 3 c] w fun e w' => e = .returned (.bool (headB a l m)) ∧ Below D w w' ∧ ∃ v' L', Dr D v' L' w' ∧ L'.map (·.1) = (([] : List (Fun × Value))).map (·.1) ++ [⟨a, l, m, []⟩] := by
  obtain ⟨Av, cv, rfl, _⟩ := h.own.prog
  have d0 := h.d.cell 0
  have dl := h.d.lt
  simp at d0
  have HH := Lib.hid h
  have hDl := h.d.lt
  have hvf := (fun e => Nat.lt_irrefl _ (h.own.1.lt w.heap.size e).2 : Value.ownBlock _ ≠ some w.heap.size)
  obtain ⟨s, cs, rfl, hs, hcs⟩ := hA (by simp)
  have i0 : w.cell? ⟨s, 0, none⟩ = some (.int .i64 a) := (hs.cell 0).trans (hcs 0 (by simp))
  have i1 : w.cell? ⟨s, 1, none⟩ = some (.int .i64 l) := (hs.cell 1).trans (hcs 1 (by simp))
  have i2 : w.cell? ⟨s, 2, none⟩ = some (.int .i64 m) := (hs.cell 2).trans (hcs 2 (by simp))
  have n0 := World.new_ne w _ i0
  have n1 := World.new_ne w _ i1
  have n2 := World.new_ne w _ i2
  have CH := chead_any a l m (.slice none 0 0)
  generalize headB a l m = hb at *
  clear h hs hcs hA
  go_enter Tryz.func57, Tryz.ntmps57
  go_upto_region 4 with (fail)
  go_region_held3 (fun W => W.cell? ⟨s, 0, none⟩ = some (.int .i64 a) ∧ W.cell? ⟨s, 1, none⟩ = some (.int .i64 l) ∧ W.cell? ⟨s, 2, none⟩ = some (.int .i64 m)) (go_keep) (fail)
  have H3 : Dr D (.slice Av 0 cv) (([] : List (Fun × Value))) (w.alloc (.cells #[.int .i64 a, .int .i64 l, .int .i64 m, .slice none 0 0] 39)).drew := HH.out.below (((Below.refl w.heap.size w).alloc (Nat.le_refl _) _).drew)
  have hF : Held (w.alloc (.cells #[.int .i64 a, .int .i64 l, .int .i64 m, .slice none 0 0] 39)).drew w.heap.size 39 #[.int .i64 a, .int .i64 l, .int .i64 m, .slice none 0 0] := Held.new w _ _
  have hbw : Below w.heap.size w (w.alloc (.cells #[.int .i64 a, .int .i64 l, .int .i64 m, .slice none 0 0] 39)).drew := ((Below.refl w.heap.size w).alloc (Nat.le_refl _) _).drew
  generalize (w.alloc (.cells #[.int .i64 a, .int .i64 l, .int .i64 m, .slice none 0 0] 39)).drew = u at *
  have e0 := H3.d.cell 0
  have el := H3.d.lt
  have f0 := hF.cell 0
  have f1 := hF.cell 1
  have f2 := hF.cell 2
  have f3 := hF.cell 3
  have fl := hF.lt
  simp at e0 f0 f1 f2 f3
  have hnf : w.heap.size ≠ D := by omega
  have H3 := Lib.hid H3
  have hF := Lib.hid hF
  have hlt : D + 1 ≤ w.heap.size := by omega
  clear d0 i0 i1 i2 n0 n1 n2
  go_upto_region 5 with (fail)
  go_region_law (refine step_append_fun (by rfl) _ _ (by rfl) (D + 1) u.drew _ (([] : List (Fun × Value))) ⟨a, l, m, []⟩ (.slice none 0 0) rfl (by rfl) (H3.out.below (Below.refl _ _).drew).own (OwnC.nil _ _) (fun _ _ _ _ => by simp [Value.ownBlock]) (by rfl) (by omega) (show D + 1 ≤ u.heap.size by omega) ?_; intro g9 cap9 w2 ho hg; obtain ⟨z0, z1, z2, H4, hb4⟩ := (H3.out.below (Below.refl _ _).drew).push ho hg; have hF4 := held_row (show Held u.drew w.heap.size 39 _ from hF.out) hg hvf; clear ho hg)
  all_goals
    have g0 := hF4.cell 0
    have g1 := hF4.cell 1
    have g2 := hF4.cell 2
    have g3 := hF4.cell 3
    have gl := hF4.lt
    have H4 := Lib.hid H4
    have hb5 := Lib.hid hb4
    simp at g0 g1 g2 g3
    clear hb4
    go_wp2_with (go_at_call 65; (with_reducible refine (CH.go _).mono ?_); rintro e w5 ⟨rfl, hb6⟩)
    go_ret
    refine ⟨rfl, (((hbw.mono (by omega)).trans (Below.refl D u).drew).trans hb5.out).trans (hb6.mono ?_), _, _, H4.out.below hb6, by simp⟩
    refine Nat.le_trans ?_ hb5.out.size
    show D ≤ u.heap.size
    omega
set_option maxHeartbeats 4000000 in
set_option maxRecDepth 100000 in
theorem copen_some {D : Nat} {v : Value} {L0 : List (Fun × Value)} {f : Fun} {cf : Value} {A : Option Addr} {c : Nat} {a l m : Int} (w : World) (h : Dr D v (L0 ++ [(f, cf)]) w) (hn : (L0 ++ [(f, cf)]).length < 16) (hfc : f.code ≠ []) (hA : IntsAt w A [a, l, m]) :
    Calls Tryz.prog 57 #[.pointer (some ⟨D, 0, none⟩), .slice A 3 c] w fun e w' => e = .returned (.bool (headB a l m)) ∧ Below D w w' ∧ ∃ v' L', Dr D v' L' w' ∧ L'.map (·.1) = (L0 ++ [(f, cf)]).map (·.1) ++ [⟨a, l, m, []⟩] := by
  have hoc : OwnC w (D + 1) cf f.code := h.own.2.1 (f, cf) (by simp)
  obtain ⟨Ac, cc, rfl, _⟩ := hoc.code
  obtain ⟨gp, capp, rfl, hg, hgl, _, _, _, k3, _⟩ := h.own.last
  have d0 := h.d.cell 0
  have dl := h.d.lt
  simp at d0
  have hL0 : L0.length < 15 := by rw [List.length_append, List.length_singleton] at hn; omega
  have hfl : 0 < f.code.length := by
    rcases Nat.eq_zero_or_pos f.code.length with h | h
    · exact absurd (List.eq_nil_of_length_eq_zero h) hfc
    · exact h
  have hne0 : ((f.code.length : Int) == 0) = false := by simp; omega
  clear hoc hfc
  have hll : (L0 ++ [(f, Value.slice Ac f.code.length cc)]).length = L0.length + 1 := by simp
  have HH := Lib.hid h
  have hDl := h.d.lt
  have hvf := (fun e => Nat.lt_irrefl _ (h.own.1.lt w.heap.size e).2 : Value.ownBlock _ ≠ some w.heap.size)
  obtain ⟨s, cs, rfl, hs, hcs⟩ := hA (by simp)
  have i0 : w.cell? ⟨s, 0, none⟩ = some (.int .i64 a) := (hs.cell 0).trans (hcs 0 (by simp))
  have i1 : w.cell? ⟨s, 1, none⟩ = some (.int .i64 l) := (hs.cell 1).trans (hcs 1 (by simp))
  have i2 : w.cell? ⟨s, 2, none⟩ = some (.int .i64 m) := (hs.cell 2).trans (hcs 2 (by simp))
  have n0 := World.new_ne w _ i0
  have n1 := World.new_ne w _ i1
  have n2 := World.new_ne w _ i2
  have CH := chead_any a l m (.slice none 0 0)
  generalize headB a l m = hb at *
  clear h hs hcs hA
  go_enter Tryz.func57, Tryz.ntmps57
  go_upto_region 4 with (fail)
  go_region_held3 (fun W => W.cell? ⟨s, 0, none⟩ = some (.int .i64 a) ∧ W.cell? ⟨s, 1, none⟩ = some (.int .i64 l) ∧ W.cell? ⟨s, 2, none⟩ = some (.int .i64 m)) (go_keep) (fail)
  have H3 : Dr D (.slice (some ⟨gp, 0, none⟩) (L0.length + 1) capp) (L0 ++ [(f, .slice Ac f.code.length cc)]) (w.alloc (.cells #[.int .i64 a, .int .i64 l, .int .i64 m, .slice none 0 0] 39)).drew := HH.out.below (((Below.refl w.heap.size w).alloc (Nat.le_refl _) _).drew)
  have hF : Held (w.alloc (.cells #[.int .i64 a, .int .i64 l, .int .i64 m, .slice none 0 0] 39)).drew w.heap.size 39 #[.int .i64 a, .int .i64 l, .int .i64 m, .slice none 0 0] := Held.new w _ _
  have hbw : Below w.heap.size w (w.alloc (.cells #[.int .i64 a, .int .i64 l, .int .i64 m, .slice none 0 0] 39)).drew := ((Below.refl w.heap.size w).alloc (Nat.le_refl _) _).drew
  generalize (w.alloc (.cells #[.int .i64 a, .int .i64 l, .int .i64 m, .slice none 0 0] 39)).drew = u at *
  have e0 := H3.d.cell 0
  have el := H3.d.lt
  have f0 := hF.cell 0
  have f1 := hF.cell 1
  have f2 := hF.cell 2
  have f3 := hF.cell 3
  have fl := hF.lt
  simp at e0 f0 f1 f2 f3
  have hnf : w.heap.size ≠ D := by omega
  have H3 := Lib.hid H3
  have hF := Lib.hid hF
  have hlt : D + 1 ≤ w.heap.size := by omega
  clear d0 i0 i1 i2 n0 n1 n2
  go_upto_region 5 with (fail)
  go_region_law (refine step_append_fun (by rfl) _ _ (by rfl) (D + 1) u.drew _ (L0 ++ [(f, .slice Ac f.code.length cc)]) ⟨a, l, m, []⟩ (.slice none 0 0) rfl (by rfl) (H3.out.below (Below.refl _ _).drew).own (OwnC.nil _ _) (fun _ _ _ _ => by simp [Value.ownBlock]) (by rfl) (by omega) (show D + 1 ≤ u.heap.size by omega) ?_; intro g9 cap9 w2 ho hg; obtain ⟨z0, z1, z2, H4, hb4⟩ := (H3.out.below (Below.refl _ _).drew).push ho hg; rw [hll] at H4 hb4; have hF4 := held_row (show Held u.drew w.heap.size 39 _ from hF.out) hg hvf; clear ho hg)
  all_goals
    have g0 := hF4.cell 0
    have g1 := hF4.cell 1
    have g2 := hF4.cell 2
    have g3 := hF4.cell 3
    have gl := hF4.lt
    have H4 := Lib.hid H4
    have hb5 := Lib.hid hb4
    simp at g0 g1 g2 g3
    clear hb4
    go_wp2_with (go_at_call 65; (with_reducible refine (CH.go _).mono ?_); rintro e w5 ⟨rfl, hb6⟩)
    go_ret
    refine ⟨rfl, (((hbw.mono (by omega)).trans (Below.refl D u).drew).trans hb5.out).trans (hb6.mono ?_), _, _, H4.out.below hb6, by simp⟩
    refine Nat.le_trans ?_ hb5.out.size
    show D ≤ u.heap.size
    omega
end Go.Proofs.YtcfdbciooimjmaaGreatDoor

/- Layer 7's code: the draft's follow. -/
namespace Go.Proofs.YtcfdbciooimjmaaGreatDoor
set_option linter.unusedVariables false
set_option linter.unusedSimpArgs false
open Go.RowKit Go.ChangeShapes Go.WideShapes Go.ChangeAt Go.Sort

/-- One instruction more, at a step of a region that draws its order: where the row lies. -/
theorem step_append_ins2 {w : World} {ops : Array Oper} {o : Oper} {a : Act} {K : Act → World → Prop} {Q : Exit → Act → World → Prop} {E : Prop} (hg : o.guard = none) (s x : Operand)
    (hop : o.op = Op.call { callee := Callee.builtin Builtin.append, args := #[s, x], argTypes := #[37, 37] })
    (B : Nat) (w0 : World) (v : Value) (l : List Ins) (i : Ins) (hw : w = w0.alloc (.cells #[.int .i64 i.1, .int .i64 i.2.1, .int .i64 i.2.2] 64)) (hs : a.eval s = v) (own : OwnC w0 B v l)
    (hx : a.eval x = .slice (some ⟨w0.heap.size, 0, none⟩) 1 1) (hlen : l.length ≤ 1000000) (hB : B ≤ w0.heap.size)
    (h : ∀ A c w', OwnC w' B (.slice A (l.length + 1) c) (l ++ [i]) → w0.grownBy w' v.ownBlock → (∀ b, (Value.slice A (l.length + 1) c).ownBlock = some b → v.ownBlock = some b ∨ w0.heap.size ≤ b) → K (a.put o.dst (.slice A (l.length + 1) c)) w') :
    if Region.wanted o (yielded ops a.tmps) = true then Oper.wp Tryz.prog o a w K Q else E := by
  subst hw
  obtain ⟨q, hi, hz0, hz1, hz2⟩ := info_parts infoIn
  have own' : (w0.alloc (.cells #[.int .i64 i.1, .int .i64 i.2.1, .int .i64 i.2.2] 64)).ownsRow B 64 3 v l.length (flatI l) := own.alloc _
  refine step_append_lies (P := Tryz.prog) (Q := Q) _ hg s x 37 hop B 64 q (.agg #[.int .i64 0, .int .i64 0, .int .i64 0]) 3 24 Tryz.underlying37 hi hz0 hz1 hz2 rfl (by decide) v l.length (flatI l) hs own' ⟨w0.heap.size, 0, none⟩ 1 1
    [.int .i64 i.1, .int .i64 i.2.1, .int .i64 i.2.2] hx rfl (World.news_of_block (heap_alloc_last w0 _)) ?_ (by decide) (by unfold maxLen; omega) (by omega) (by simp; omega) _ rfl ?_
  · intro u hu
    simp at hu
    rcases hu with rfl | rfl | rfl <;> rfl
  · intro g cap w' h1 h2 h3 h4
    refine h _ _ w' ?_ ⟨h2.os, h2.tape, h2.output, Nat.le_trans (by simp) h2.size, fun k hk hne => (h2.block k (by simp; omega) hne).trans (Below.heap_alloc w0 _ k hk)⟩ ?_
    · unfold OwnC
      rw [flatI_snoc, List.length_append]
      exact h1
    · intro b hb
      simp only [Value.ownBlock, Option.some.injEq] at hb
      subst hb
      rcases h3 with h3 | h3
      · exact .inl h3
      · exact .inr (by rw [h3]; simp)
/-- An instruction is laid behind the last function's. -/
theorem Dr.more {D gp capp : Nat} {L0 : List (Fun × Value)} {f : Fun} {cf cv' : Value} {x : Ins} {u w2 : World} (h : Dr D (.slice (some ⟨gp, 0, none⟩) (L0.length + 1) capp) (L0 ++ [(f, cf)]) u)
    (ho : OwnC w2 (D + 1) cv' (f.code ++ [x])) (hg : u.grownBy w2 cf.ownBlock) (hl : ∀ b, cv'.ownBlock = some b → cf.ownBlock = some b ∨ u.heap.size ≤ b) :
    w2.cell? ⟨gp, L0.length * 4 + 3, none⟩ = some cf ∧ w2.frozen? ⟨gp, L0.length * 4 + 3, none⟩ = false ∧ gp < w2.heap.size ∧
      Dr D (.slice (some ⟨gp, 0, none⟩) (L0.length + 1) capp) (L0 ++ [(⟨f.ar, f.lo, f.sl, f.code ++ [x]⟩, cv')]) (w2.setCell ⟨gp, L0.length * 4 + 3, none⟩ cv') ∧ Below D u (w2.setCell ⟨gp, L0.length * 4 + 3, none⟩ cv') := by
  obtain ⟨hCo, hcf, hdis⟩ := h.own.2.init
  have hrow := h.own.1
  rw [List.length_append, List.length_singleton] at hrow
  obtain ⟨gp', capp', e, hgB, hgl, _, _, _, k3, kf⟩ := h.own.last
  simp only [Value.slice.injEq, Option.some.injEq, Addr.mk.injEq, and_true, true_and] at e
  obtain ⟨rfl, rfl⟩ := e
  have hne : cf.ownBlock ≠ some gp := fun e => own_ne hcf hrow gp e rfl
  have hrow2 := hrow.kept hg (.inr (fun e => hne e.symm))
  have hc2 : Codes w2 (D + 1) L0 := hCo.grown hg fun y hy b hb e => hdis y hy b hb e
  have hd2 : ∀ y ∈ L0, ∀ b, y.2.ownBlock = some b → cv'.ownBlock ≠ some b := fun y hy b hb e => by
    rcases hl b e with h1 | h1
    · exact hdis y hy b hb h1
    · have := ((hCo.1 y hy).lt b hb).2
      omega
  have hm := OwnL.more (f' := ⟨f.ar, f.lo, f.sl, f.code ++ [x]⟩) hrow2 hc2 ho hd2 rfl rfl rfl
  have hfar : some gp ≠ cf.ownBlock := fun e => hne e.symm
  refine ⟨(hg.cell k3 hfar), ?_, Nat.lt_of_lt_of_le hgl hg.size, ⟨(held_row h.d hg fun e => by have := (hcf.lt D e).1; omega).far (by omega) _ _, hm⟩, ?_⟩
  · have := kf (L0.length * 4 + 3)
    rw [World.frozen?_of_block (a := ⟨gp, L0.length * 4 + 3, none⟩) (hg.block gp hgl hfar)]
    exact this
  · exact ((Below.refl D u).grown hg (by have := h.d.lt; omega) (fun b hb => by have := (hcf.lt b hb).1; omega)).setCell (by show D ≤ gp; omega) _

set_option maxHeartbeats 2000000 in
set_option maxRecDepth 100000 in
theorem cfol_miss {D : Nat} {A : Option Addr} {n c : Nat} (nm : ByteArray) (w : World) (hT : TT w) (hf : isF nm = false) :
    Calls Tryz.prog 58 #[.pointer (some ⟨D, 0, none⟩), .string nm, .slice A n c] w fun e w' => e = .returned (.bool false) ∧ Below w.heap.size w w' := by
  have C := Lib.hid (find_any nm w hT.op)
  rw [hf] at C
  clear hf
  go_enter Tryz.func58, Tryz.ntmps58
  go_wp2_with (go_at_call 82; (with_reducible refine C.out.mono ?_); rintro e v ⟨rfl, hb⟩)
  go_ret
  exact ⟨rfl, hb⟩
set_option maxHeartbeats 2000000 in
set_option maxRecDepth 100000 in
theorem cfol_len {D : Nat} {A : Option Addr} {n c : Nat} (nm : ByteArray) (w : World) (hT : TT w) (hf : isF nm = true) (hn : (n : Int) ≠ (rz (numF nm)).f) :
    Calls Tryz.prog 58 #[.pointer (some ⟨D, 0, none⟩), .string nm, .slice A n c] w fun e w' => e = .returned (.bool false) ∧ Below w.heap.size w w' := by
  have C := Lib.hid (find_any nm w hT.op)
  rw [hf] at C
  have CF := fun W h => Lib.hid (fields_any (numF nm) W h)
  have h1 : ((n : Int) != (rz (numF nm)).f) = true := by simpa using hn
  generalize numF nm = o at *
  generalize (rz o).f = ff at *
  clear hf hn
  go_enter Tryz.func58, Tryz.ntmps58
  go_wp2_with (first
    | (go_at_call 82; (with_reducible refine C.out.mono ?_); rintro e v ⟨rfl, hb⟩)
    | (go_at_call 73; (with_reducible refine (CF _ (hT.below hb).op).out.mono ?_); rintro e v2 ⟨rfl, hb2⟩))
  go_ret
  exact ⟨rfl, Below.step hb hb2⟩
set_option maxHeartbeats 2000000 in
set_option maxRecDepth 100000 in
theorem cfol_none {D : Nat} {v : Value} {A : Option Addr} {n c : Nat} (nm : ByteArray) (w : World) (hT : TT w) (h : Dr D v [] w) (hf : isF nm = true) (hn : (n : Int) = (rz (numF nm)).f) :
    Calls Tryz.prog 58 #[.pointer (some ⟨D, 0, none⟩), .string nm, .slice A n c] w fun e w' => e = .returned (.bool false) ∧ Below w.heap.size w w' := by
  have C := Lib.hid (find_any nm w hT.op)
  rw [hf] at C
  have CF := fun W h => Lib.hid (fields_any (numF nm) W h)
  obtain ⟨Av, cv, rfl, _⟩ := h.own.prog
  have HH := Lib.hid h
  generalize numF nm = o at *
  rw [← hn] at CF
  clear hf hn h
  go_enter Tryz.func58, Tryz.ntmps58
  go_wp2_with (first
    | (go_at_call 82; (with_reducible refine C.out.mono ?_); rintro e v ⟨rfl, hb⟩)
    | (go_at_call 73; (with_reducible refine (CF _ (hT.below hb).op).out.mono ?_); rintro e v2 ⟨rfl, hb2⟩; have hb3 := Below.step hb hb2; have d0 := (HH.out.below hb3).d.cell 0; have dl := (HH.out.below hb3).d.lt; simp at d0))
  go_ret
  exact ⟨rfl, hb3⟩
end Go.Proofs.YtcfdbciooimjmaaGreatDoor

