/- Layer 9: the document's Copy: a frame in memory of its own. -/
import Derived.Test.YtoeinpiekfmbgaaGreatDoorzHg
import Derived.Test.YtoeinpiekfmbgaaGreatDoorzHf
import Derived.Test.YtoeinpiekfmbgaaGreatDoorzHb
import Derived.Test.YtoeinpiekfmbgaaGreatDoorzRtz
import Derived.Test.YtoeinpiekfmbgaaGreatDoorzSr
namespace Go.Proofs.YtoeinpiekfmbgaaGreatDoor
set_option linter.unusedVariables false
set_option linter.unusedSimpArgs false
open Gm Go.RowKit Go.ChangeShapes Go.WideShapes Go.ChangeAt Go.Sort

theorem row_cell {u : World} {B n size g0 i : Nat} {e : TypeId} {v x : Value} {xs : List Value} (h : u.ownsRow B e size v n xs) (hg : g0 < B) : (u.setCell ⟨g0, i, none⟩ x).ownsRow B e size v n xs :=
  row_same h fun g hgv => Below.heap_setCell u ⟨g0, i, none⟩ x g (by have := (h.lt g hgv).1; show g ≠ g0; omega)
theorem row_later {u u' : World} {B n size : Nat} {e : TypeId} {v : Value} {xs : List Value} (h : u.ownsRow B e size v n xs) (hb : Below u.heap.size u u') : u'.ownsRow B e size v n xs :=
  row_same h fun g hgv => hb.block g (h.lt g hgv).2
theorem later_cell {u w : World} {g i : Nat} {x : Value} : (u.setCell ⟨g, i, none⟩ x).heap.size = u.heap.size := by simp [World.setCell]
set_option maxHeartbeats 8000000 in
set_option maxRecDepth 100000 in
theorem rcopy_any {B : Nat} {v : Value} {f : Frm} (w : World) (h : FrmAt w B v f) (hl : FrmLen f) (hB : B ≤ w.heap.size) :
    Calls Tryz.prog 48 #[v] w fun e w' => ∃ s l o, e = .returned (fv f s l o) ∧ OwnVs w' w.heap.size s f.stk ∧ OwnVs w' w.heap.size l f.loc ∧ OwnSs w' w.heap.size o f.slt ∧
      (∀ b, s.ownBlock = some b → l.ownBlock ≠ some b) ∧ (∀ b, s.ownBlock = some b → o.ownBlock ≠ some b) ∧ (∀ b, l.ownBlock = some b → o.ownBlock ≠ some b) ∧ Below w.heap.size w w' := by
  obtain ⟨A1, c1, A2, c2, A3, c3, rfl, h1, h2, h3⟩ := h
  have H1 := Lib.hid (h1.more hB)
  have H2 := Lib.hid (h2.more hB)
  have H3 := Lib.hid (h3.more hB)
  have HL1 := Lib.hid (Nat.le_trans hl.stk (show 1000 ≤ 1000000 by decide))
  have HL2 := Lib.hid (Nat.le_trans hl.loc (show 1000 ≤ 1000000 by decide))
  have HL3 := Lib.hid (Nat.le_trans hl.slt (show 1000 ≤ 1000000 by decide))
  clear h1 h2 h3 hl hB
  go_enter Tryz.func48, Tryz.ntmps48
  go_upto_region 1 with (fail)
  have hx := (Held.new w 45 (fcA f (.slice A1 f.stk.length c1) (.slice A2 f.loc.length c2) (.slice A3 f.slt.length c3))).alloc (.cells fz0 45)
  have hr := Held.new1 w (.cells (fcA f (.slice A1 f.stk.length c1) (.slice A2 f.loc.length c2) (.slice A3 f.slt.length c3)) 45) 45 fz0
  have hbw : Below w.heap.size w ((w.alloc (.cells (fcA f (.slice A1 f.stk.length c1) (.slice A2 f.loc.length c2) (.slice A3 f.slt.length c3)) 45)).alloc (.cells fz0 45)) := below2 w _ _
  have hsz : ((w.alloc (.cells (fcA f (.slice A1 f.stk.length c1) (.slice A2 f.loc.length c2) (.slice A3 f.slt.length c3)) 45)).alloc (.cells fz0 45)).heap.size = w.heap.size + 2 := by simp
  generalize (w.alloc (.cells (fcA f (.slice A1 f.stk.length c1) (.slice A2 f.loc.length c2) (.slice A3 f.slt.length c3)) 45)).alloc (.cells fz0 45) = W0 at *
  have HSZ := Lib.hid hsz
  clear hsz
  have k2 := hx.cell 2
  simp at k2
  have xl := hx.lt
  have HA1 := Lib.hid ((H1.out.below hbw (Nat.le_refl _)).below ((Below.refl w.heap.size W0).alloc hbw.size (.cells #[] 30)) (Nat.le_refl _))
  go_upto_region 2 with (at_builtin; refine wpList_append_vs0 rfl _ _ rfl W0 rfl rfl rfl HA1.out HL1.out ?_; intro s u1 hs hb1; obtain ⟨As, cs, rfl, _⟩ := hs.lies; have hx1 := hx.below hb1; have q2 := hx1.cell 2; have z2 := hx1.fz 2; have ql := hx1.lt; simp at q2)
  have hsW : W0.heap.size = w.heap.size + 2 := HSZ.out
  have hX1 : Held (u1.setCell ⟨w.heap.size, 2, none⟩ (.slice As f.stk.length cs)) w.heap.size 45 (fcA f (.slice As f.stk.length cs) (.slice A2 f.loc.length c2) (.slice A3 f.slt.length c3)) := hx1.set_at 2 _
  have hR1 : Held (u1.setCell ⟨w.heap.size, 2, none⟩ (.slice As f.stk.length cs)) (w.heap.size + 1) 45 fz0 := (Below.heap_setCell u1 ⟨w.heap.size, 2, none⟩ _ (w.heap.size + 1) (by show w.heap.size + 1 ≠ w.heap.size; omega)).trans (hr.below hb1)
  have hO1 : OwnVs (u1.setCell ⟨w.heap.size, 2, none⟩ (.slice As f.stk.length cs)) (w.heap.size + 2) (.slice As f.stk.length cs) f.stk := row_mono (row_cell hs (by omega)) (by omega)
  have hB1 : Below w.heap.size w (u1.setCell ⟨w.heap.size, 2, none⟩ (.slice As f.stk.length cs)) := (Below.step hbw hb1).setCell (p := ⟨w.heap.size, 2, none⟩) (Nat.le_refl _) _
  have hS1 : w.heap.size + 2 ≤ (u1.setCell ⟨w.heap.size, 2, none⟩ (.slice As f.stk.length cs)).heap.size := by rw [later_cell (w := w)]; have := hb1.size; omega
  generalize u1.setCell ⟨w.heap.size, 2, none⟩ (.slice As f.stk.length cs) = W1 at *
  clear hx hr hbw k2 xl hs hb1 hx1 q2 z2 ql HA1 hsW HSZ HL1
  have k3 := hX1.cell 3
  simp at k3
  have xl := hX1.lt
  have HA2 := Lib.hid ((H2.out.below hB1 (Nat.le_refl _)).below ((Below.refl w.heap.size W1).alloc hB1.size (.cells #[] 30)) (Nat.le_refl _))
  go_upto_region 3 with (at_builtin; refine wpList_append_vs0 rfl _ _ rfl W1 rfl rfl rfl HA2.out HL2.out ?_; intro s u2 hs hb2; obtain ⟨Al, cl, rfl, _⟩ := hs.lies; have hx2 := hX1.below hb2; have q3 := hx2.cell 3; have z3 := hx2.fz 3; have ql := hx2.lt; simp at q3)
  have hX2 : Held (u2.setCell ⟨w.heap.size, 3, none⟩ (.slice Al f.loc.length cl)) w.heap.size 45 (fcA f (.slice As f.stk.length cs) (.slice Al f.loc.length cl) (.slice A3 f.slt.length c3)) := hx2.set_at 3 _
  have hR2 : Held (u2.setCell ⟨w.heap.size, 3, none⟩ (.slice Al f.loc.length cl)) (w.heap.size + 1) 45 fz0 := (Below.heap_setCell u2 ⟨w.heap.size, 3, none⟩ _ (w.heap.size + 1) (by show w.heap.size + 1 ≠ w.heap.size; omega)).trans (hR1.below hb2)
  have hO2 : OwnVs (u2.setCell ⟨w.heap.size, 3, none⟩ (.slice Al f.loc.length cl)) (w.heap.size + 2) (.slice As f.stk.length cs) f.stk := row_cell (row_later hO1 hb2) (by omega)
  have hP2 : OwnVs (u2.setCell ⟨w.heap.size, 3, none⟩ (.slice Al f.loc.length cl)) (w.heap.size + 2) (.slice Al f.loc.length cl) f.loc := row_mono (row_cell hs (by omega)) (by omega)
  have hD12 : ∀ b, (Value.slice As f.stk.length cs).ownBlock = some b → (Value.slice Al f.loc.length cl).ownBlock ≠ some b := fun b e1 e2 => by
    have h1 := (hO1.lt b e1).2
    have h2 := (hs.lt b e2).1
    omega
  have hB2 : Below w.heap.size w (u2.setCell ⟨w.heap.size, 3, none⟩ (.slice Al f.loc.length cl)) := (Below.step hB1 hb2).setCell (p := ⟨w.heap.size, 3, none⟩) (Nat.le_refl _) _
  have hS2 : w.heap.size + 2 ≤ (u2.setCell ⟨w.heap.size, 3, none⟩ (.slice Al f.loc.length cl)).heap.size := by rw [later_cell (w := w)]; have := hb2.size; omega
  generalize u2.setCell ⟨w.heap.size, 3, none⟩ (.slice Al f.loc.length cl) = W2 at *
  clear hX1 hR1 hO1 hB1 hS1 k3 xl hs hb2 hx2 q3 z3 ql HA2 HL2
  have k4 := hX2.cell 4
  simp at k4
  have xl := hX2.lt
  have HA3 := Lib.hid ((H3.out.below hB2 (Nat.le_refl _)).below ((Below.refl w.heap.size W2).alloc hB2.size (.cells #[] 75)) (Nat.le_refl _))
  go_upto_region 4 with (at_builtin; refine wpList_append_ss0 rfl _ _ rfl W2 rfl rfl rfl HA3.out HL3.out ?_; intro s u3 hs hb3; obtain ⟨Ao, co, rfl, _⟩ := hs.lies; have hx3 := hX2.below hb3; have q4 := hx3.cell 4; have z4 := hx3.fz 4; have ql := hx3.lt; simp at q4)
  have hX3 : Held (u3.setCell ⟨w.heap.size, 4, none⟩ (.slice Ao f.slt.length co)) w.heap.size 45 (fcA f (.slice As f.stk.length cs) (.slice Al f.loc.length cl) (.slice Ao f.slt.length co)) := hx3.set_at 4 _
  have hR3 : Held (u3.setCell ⟨w.heap.size, 4, none⟩ (.slice Ao f.slt.length co)) (w.heap.size + 1) 45 fz0 := (Below.heap_setCell u3 ⟨w.heap.size, 4, none⟩ _ (w.heap.size + 1) (by show w.heap.size + 1 ≠ w.heap.size; omega)).trans (hR2.below hb3)
  have hO3 : OwnVs (u3.setCell ⟨w.heap.size, 4, none⟩ (.slice Ao f.slt.length co)) (w.heap.size + 2) (.slice As f.stk.length cs) f.stk := row_cell (row_later hO2 hb3) (by omega)
  have hP3 : OwnVs (u3.setCell ⟨w.heap.size, 4, none⟩ (.slice Ao f.slt.length co)) (w.heap.size + 2) (.slice Al f.loc.length cl) f.loc := row_cell (row_later hP2 hb3) (by omega)
  have hQ3 : OwnSs (u3.setCell ⟨w.heap.size, 4, none⟩ (.slice Ao f.slt.length co)) (w.heap.size + 2) (.slice Ao f.slt.length co) f.slt := row_mono (row_cell hs (by omega)) (by omega)
  have hD13 : ∀ b, (Value.slice As f.stk.length cs).ownBlock = some b → (Value.slice Ao f.slt.length co).ownBlock ≠ some b := fun b e1 e2 => by
    have h1 := (hO2.lt b e1).2
    have h2 := (hs.lt b e2).1
    omega
  have hD23 : ∀ b, (Value.slice Al f.loc.length cl).ownBlock = some b → (Value.slice Ao f.slt.length co).ownBlock ≠ some b := fun b e1 e2 => by
    have h1 := (hP2.lt b e1).2
    have h2 := (hs.lt b e2).1
    omega
  have hB3 : Below w.heap.size w (u3.setCell ⟨w.heap.size, 4, none⟩ (.slice Ao f.slt.length co)) := (Below.step hB2 hb3).setCell (p := ⟨w.heap.size, 4, none⟩) (Nat.le_refl _) _
  generalize u3.setCell ⟨w.heap.size, 4, none⟩ (.slice Ao f.slt.length co) = W3 at *
  have H1 := Lib.hid hO3
  have H2 := Lib.hid hP3
  have H3 := Lib.hid hQ3
  have D1 := Lib.hid hD12
  have D2 := Lib.hid hD13
  have D3 := Lib.hid hD23
  have HB := Lib.hid hB3
  clear hX2 hR2 hO2 hP2 hB2 hS2 k4 xl hs hb3 hx3 q4 z4 ql HA3 HL3 hO3 hP3 hQ3 hD12 hD13 hD23 hB3
  go_wp2_with (first
    | (guard_target = wpList _ _ _ (Oper.mk _ (Op.load 45 (.tmp 1)) _ _ _ none :: _) _ _; refine wpList_load_row rfl 45 _ rfl w.heap.size rfl _ _ _ _ hX3 Tryz.underlying45 rfl (by kernel_rfl) ?_)
    | (guard_target = wpList _ _ _ (Oper.mk _ (Op.store 45 (.tmp 2) (.tmp 18)) _ _ _ none :: _) _ _; refine wpList_store_row rfl 45 _ _ rfl (w.heap.size + 1) (fcA f (.slice As f.stk.length cs) (.slice Al f.loc.length cl) (.slice Ao f.slt.length co)) rfl rfl _ _ hR3 (by kernel_rfl) rfl (by simp [Value.oneCell']) ?_))
  have hh := setRow_heap _ (w.heap.size + 1) _ (fcA f (.slice As f.stk.length cs) (.slice Al f.loc.length cl) (.slice Ao f.slt.length co)) _ _ hR3
  have hx : ∀ g, g ≠ w.heap.size + 1 → (W3.setRow (w.heap.size + 1) (fcA f (.slice As f.stk.length cs) (.slice Al f.loc.length cl) (.slice Ao f.slt.length co))).heap[g]? = W3.heap[g]? := fun g hg => setRow_far _ _ _ _ hg
  refine bodyPost_ret (v := fv f (.slice As f.stk.length cs) (.slice Al f.loc.length cl) (.slice Ao f.slt.length co)) (results_cell_row rfl _ _ (w.heap.size + 1) 45 _ (0, 0) _ rfl hh Tryz.underlying45 rfl (by kernel_rfl)) rfl ?_
  refine ⟨_, _, _, rfl, row_mono (row_same H1.out fun g e => hx g ?_) (by omega), row_mono (row_same H2.out fun g e => hx g ?_) (by omega), row_mono (row_same H3.out fun g e => hx g ?_) (by omega), D1.out, D2.out, D3.out, below_setRow HB.out (by omega) _⟩
  · have := (H1.out.lt g e).1; omega
  · have := (H2.out.lt g e).1; omega
  · have := (H3.out.lt g e).1; omega
end Go.Proofs.YtoeinpiekfmbgaaGreatDoor

/- Layer 9: the document's spawn. -/
namespace Go.Proofs.YtoeinpiekfmbgaaGreatDoor
set_option linter.unusedVariables false
set_option linter.unusedSimpArgs false
open Gm Go.RowKit Go.ChangeShapes Go.WideShapes Go.ChangeAt Go.Sort

/-- Rows of different types lie in different blocks. -/
theorem rows_ne {w : World} {B C n m s t : Nat} {e d : TypeId} {v u : Value} {xs ys : List Value} (h : w.ownsRow B e s v n xs) (k : w.ownsRow C d t u m ys) (hne : e ≠ d) : ∀ g, v.ownBlock = some g → u.ownBlock ≠ some g := by
  intro g h1 h2
  rcases k.2 with ⟨rfl, _⟩ | ⟨g', cap, cur, rfl, _, hh, _⟩
  · simp [Value.ownBlock] at h2
  · simp only [Value.ownBlock, Option.some.injEq] at h2
    subst h2
    exact row_apart h (show Held w g' d cur from hh) hne.symm g' h1 rfl
theorem tyVS : 30 ≠ 75 := by decide
/-- The six cells of a slot, stored. -/
abbrev six (w : World) (g k : Nat) (y : Slt) : World := (((((w.setCell ⟨g, k * 6, none⟩ (.int .i64 y.st)).setCell ⟨g, k * 6 + 1, none⟩ (.int .i64 y.kat)).setCell ⟨g, k * 6 + 2, none⟩ (.int .i64 y.kgn)).setCell ⟨g, k * 6 + 3, none⟩ (.int .i64 y.tr)).setCell ⟨g, k * 6 + 4, none⟩ (.int .i64 y.re)).setCell ⟨g, k * 6 + 5, none⟩ (.int .i64 y.im)
theorem six_far (w : World) (g k : Nat) (y : Slt) (j : Nat) (h : j ≠ g) : (six w g k y).heap[j]? = w.heap[j]? :=
  (Below.heap_setCell _ ⟨g, _, none⟩ _ j h).trans ((Below.heap_setCell _ ⟨g, _, none⟩ _ j h).trans ((Below.heap_setCell _ ⟨g, _, none⟩ _ j h).trans ((Below.heap_setCell _ ⟨g, _, none⟩ _ j h).trans ((Below.heap_setCell _ ⟨g, _, none⟩ _ j h).trans (Below.heap_setCell w ⟨g, _, none⟩ _ j h)))))
theorem six_size (w : World) (g k : Nat) (y : Slt) : (six w g k y).heap.size = w.heap.size := by simp [six, World.setCell]
theorem six_below {B : Nat} {w0 w : World} {g k : Nat} (y : Slt) (h : Below B w0 w) (hg : B ≤ g) : Below B w0 (six w g k y) := by
  exact (((((h.setCell (p := ⟨g, _, none⟩) hg _).setCell (p := ⟨g, _, none⟩) hg _).setCell (p := ⟨g, _, none⟩) hg _).setCell (p := ⟨g, _, none⟩) hg _).setCell (p := ⟨g, _, none⟩) hg _).setCell (p := ⟨g, _, none⟩) hg _
/-- A frame and what is asked for, of the call's own. -/
def TwoR (w : World) (B : Nat) (F : Frm) (a : ActP) (e : Ending) (w' : World) : Prop := ∃ fr av, e = .returned (.tuple #[fr, av]) ∧ OwnF w' B fr F ∧ ActO w' B av a ∧ Below B w w'
theorem two_done {w u : World} {B g1 g2 : Nat} {z1 z2 c1 c2 : Array Value} {F : Frm} {a : ActP} (h1 : Held u g1 45 z1) (h2 : Held u g2 77 z2) (own : OwnF u B (.agg c1) F) (act : ActO u B (.agg c2) a) (hb : Below B w u) (hg1 : B ≤ g1) (hg2 : B ≤ g2) :
    TwoR w B F a (.returned (.tuple #[.agg c1, .agg c2])) ((u.setRow g1 c1).setRow g2 c2) := by
  have k1 : KB u (u.setRow g1 c1) g1 := (KB.of_below (Below.refl _ _) g1).row c1
  have k2 : KB (u.setRow g1 c1) ((u.setRow g1 c1).setRow g2 c2) g2 := (KB.of_below (Below.refl _ _) g2).row c2
  have hne : g2 ≠ g1 := held_ne h2 h1 tyAF
  have h2' : Held (u.setRow g1 c1) g2 77 z2 := h2.row hne c1
  exact ⟨_, _, rfl, (own.kb h1 tyFV tyFS k1).kb h2' tyAV tyAS k2, (act.kb h1 tyFV k1).kb h2' tyAV k2, below_row (below_row hb hg1 _) hg2 _⟩
/-- Both results lie in their cells. -/
def TwoH (w : World) (B g1 g2 : Nat) (c1 c2 : Array Value) (F : Frm) (a : ActP) (wx : World) : Prop := Held wx g1 45 c1 ∧ Held wx g2 77 c2 ∧ OwnF wx B (.agg c1) F ∧ ActO wx B (.agg c2) a ∧ Below B w wx
theorem two_set {w u : World} {B g1 g2 : Nat} {z1 z2 c1 c2 : Array Value} {F : Frm} {a : ActP} (h1 : Held u g1 45 z1) (h2 : Held u g2 77 z2) (own : OwnF u B (.agg c1) F) (act : ActO u B (.agg c2) a) (hb : Below B w u) (hg1 : B ≤ g1) (hg2 : B ≤ g2) :
    TwoH w B g1 g2 c1 c2 F a ((u.setRow g1 c1).setRow g2 c2) := by
  have k1 : KB u (u.setRow g1 c1) g1 := (KB.of_below (Below.refl _ _) g1).row c1
  have k2 : KB (u.setRow g1 c1) ((u.setRow g1 c1).setRow g2 c2) g2 := (KB.of_below (Below.refl _ _) g2).row c2
  have hne : g2 ≠ g1 := held_ne h2 h1 tyAF
  have h2' : Held (u.setRow g1 c1) g2 77 z2 := h2.row hne c1
  exact ⟨(h1.rowSelf c1).row hne.symm c2, h2'.rowSelf c2, (own.kb h1 tyFV tyFS k1).kb h2' tyAV tyAS k2, (act.kb h1 tyFV k1).kb h2' tyAV k2, below_row (below_row hb hg1 _) hg2 _⟩
/-- What a function of a frame and an instruction begins with. -/
structure St4 (w W : World) (B : Nat) (f : Frm) (x : Int × Int × Int) (s l o : Value) : Prop where
  fr : Held W w.heap.size 45 (fcA f s l o)
  is : Held W (w.heap.size + 1) 92 #[.int .i64 x.1, .int .i64 x.2.1, .int .i64 x.2.2]
  re : Held W (w.heap.size + 1 + 1) 45 fz0
  ac : Held W (w.heap.size + 1 + 1 + 1) 77 ac0
  b : Below w.heap.size w W
  z : W.heap.size = w.heap.size + 4
theorem st4 (w : World) (B : Nat) (f : Frm) (x : Int × Int × Int) (s l o : Value) : St4 w ((((w.alloc (.cells (fcA f s l o) 45)).alloc (.cells #[.int .i64 x.1, .int .i64 x.2.1, .int .i64 x.2.2] 92)).alloc (.cells fz0 45)).alloc (.cells ac0 77)) B f x s l o := by
  have hx := (((Held.new w 45 (fcA f s l o)).alloc (.cells #[.int .i64 x.1, .int .i64 x.2.1, .int .i64 x.2.2] 92)).alloc (.cells fz0 45)).alloc (.cells ac0 77)
  have hi := ((Held.new1 w (.cells (fcA f s l o) 45) 92 #[.int .i64 x.1, .int .i64 x.2.1, .int .i64 x.2.2]).alloc (.cells fz0 45)).alloc (.cells ac0 77)
  have h6 := (Held.new1 (w.alloc (.cells (fcA f s l o) 45)) (.cells #[.int .i64 x.1, .int .i64 x.2.1, .int .i64 x.2.2] 92) 45 fz0).alloc (.cells ac0 77)
  have h7 := Held.new1 ((w.alloc (.cells (fcA f s l o) 45)).alloc (.cells #[.int .i64 x.1, .int .i64 x.2.1, .int .i64 x.2.2] 92)) (.cells fz0 45) 77 ac0
  have s1 : ∀ q : Obj, (w.alloc q).heap.size = w.heap.size + 1 := fun q => by simp
  have s2 : ∀ q r : Obj, ((w.alloc q).alloc r).heap.size = w.heap.size + 1 + 1 := fun q r => by simp
  rw [s1] at h6
  rw [s2] at h7
  exact ⟨hx, hi, h6, h7, ((below2 w _ _).alloc (by simp; omega) _).alloc (by simp; omega) _, by simp⟩
set_option maxHeartbeats 4000000 in
set_option maxRecDepth 100000 in
theorem spawn_taken {B : Nat} {f : Frm} {As Al Av : Option Addr} {cs nl cl co cv m g d n : Nat} (a : Int) (w : World) (hs : OwnVs w B (.slice As (d + n) cs) f.stk) (hl : OwnVs w B (.slice Al nl cl) f.loc) (ho : OwnSs w B (.slice (some ⟨g, 0, none⟩) f.slt.length co) f.slt)
    (hm : m < f.slt.length) (hst : f.slt[m].st ≠ 0) (hB : B ≤ w.heap.size) :
    Calls Tryz.prog 53 #[fv f (.slice As (d + n) cs) (.slice Al nl cl) (.slice (some ⟨g, 0, none⟩) f.slt.length co), .agg #[.int .i64 13, .int .i64 a, .int .i64 m], .slice Av n cv] w (TwoR w B (endF f 2 (0, 0)) (actK 4)) := by
  have hgB := ho.lt g rfl
  obtain ⟨⟨y0, y1, y2, y3, y4, y5⟩, yz⟩ := own_ss ho hm
  have hm2 : (m : Int) < f.slt.length := by omega
  have S := st4 w B f (13, a, m) (.slice As (d + n) cs) (.slice Al nl cl) (.slice (some ⟨g, 0, none⟩) f.slt.length co)
  have CT := fun W => Lib.hid (r9trap_any f (.slice As (d + n) cs) (.slice Al nl cl) (.slice (some ⟨g, 0, none⟩) f.slt.length co) 2 W ⟨_, _, _, rfl⟩ ⟨_, _, _, rfl⟩ ⟨_, _, _, rfl⟩)
  have OF := Lib.hid (show OwnF w B (fv (endF f 2 (0, 0)) (.slice As (d + n) cs) (.slice Al nl cl) (.slice (some ⟨g, 0, none⟩) f.slt.length co)) (endF f 2 (0, 0)) from ⟨_, _, _, rfl, hs, hl, ho⟩)
  have hst2 : (f.slt[m].st != 0) = true := by simpa using hst
  generalize f.slt[m].st = st at *
  clear y1 y2 y3 y4 y5 yz hst hs hl ho
  go_enter Tryz.func53, Tryz.ntmps53
  go_upto_region 1 with (fail)
  generalize ((((w.alloc (.cells (fcA f (.slice As (d + n) cs) (.slice Al nl cl) (.slice (some ⟨g, 0, none⟩) f.slt.length co)) 45)).alloc (.cells #[.int .i64 13, .int .i64 a, .int .i64 m] 92)).alloc (.cells fz0 45)).alloc (.cells ac0 77)) = W0 at *
  have x4 := S.fr.cell 4
  have i2 := S.is.cell 2
  simp at x4 i2
  have j0 := (S.b.cell (p := ⟨g, m * 6, none⟩) hgB.2).trans y0
  have SS := Lib.hid S
  have hx := S.fr
  clear y0 S
  go_wp2_with (first
    | (guard_target = wpList _ _ _ (Oper.mk _ (Op.load 45 (.tmp 3)) _ _ _ none :: _) _ _; refine wpList_load_row rfl 45 _ rfl w.heap.size rfl _ _ _ _ hx Tryz.underlying45 rfl (by kernel_rfl) ?_)
    | (go_at_call 50; (with_reducible refine (CT _).out.mono ?_); rintro _ u ⟨rfl, hb⟩; have h6 := SS.out.re.below hb; have h7 := SS.out.ac.below hb)
    | (guard_target = wpList _ _ _ (Oper.mk _ (Op.store 45 (.tmp 6) _) _ _ _ none :: _) _ _; refine wpList_store_row rfl 45 _ _ rfl (w.heap.size + 1 + 1) (fcA (endF f 2 (0, 0)) (.slice As (d + n) cs) (.slice Al nl cl) (.slice (some ⟨g, 0, none⟩) f.slt.length co)) rfl rfl _ _ h6 (by kernel_rfl) rfl (by simp [Value.oneCell']) ?_; have k7 := h7.row (show w.heap.size + 1 + 1 + 1 ≠ w.heap.size + 1 + 1 by omega) (fcA (endF f 2 (0, 0)) (.slice As (d + n) cs) (.slice Al nl cl) (.slice (some ⟨g, 0, none⟩) f.slt.length co)); have k6 := h6.rowSelf (fcA (endF f 2 (0, 0)) (.slice As (d + n) cs) (.slice Al nl cl) (.slice (some ⟨g, 0, none⟩) f.slt.length co)))
    | (guard_target = wpList _ _ _ (Oper.mk _ (Op.store 77 (.tmp 7) _) _ _ _ none :: _) _ _; refine wpList_store_row rfl 77 _ _ rfl (w.heap.size + 1 + 1 + 1) ac4 rfl rfl _ _ k7 (by kernel_rfl) rfl (by simp [Value.oneCell']) ?_))
  have hbb := Below.step SS.out.b hb
  exact bodyPost_ret (two_ret rfl rfl _ (k6.row (by omega) ac4) (k7.rowSelf ac4) rfl rfl rfl rfl) rfl (two_done h6 h7 (OF.out.below hbb) (ActO.k _ _ 4) (hbb.mono hB) (by omega) (by omega))
end Go.Proofs.YtoeinpiekfmbgaaGreatDoor

