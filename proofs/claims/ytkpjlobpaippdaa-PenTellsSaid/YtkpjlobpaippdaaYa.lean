/- Layer 12's code: a frame in memory of its own. -/
import Derived.Test.YtkpjlobpaippdaaYo
import Derived.Test.YtkpjlobpaippdaaQt
import Derived.Deep.RegionHeld3
import Derived.BigQuiet
import Derived.Laws.CopyOwn
namespace Go.Proofs.Ytkpjlobpaippdaa
set_option linter.unusedVariables false
set_option linter.unusedSimpArgs false
open Go.RowKit Go.ChangeShapes Go.WideShapes Go.ChangeAt Go.Sort

set_option maxHeartbeats 1000000 in
set_option maxRecDepth 100000 in
theorem clonev_any {A : Option Addr} {l : List V} {B : Nat} (c : Nat) (w : World) (h : VAt w B A l) (hl : l.length ≤ 1000000) (hB : B ≤ w.heap.size) :
    Calls Try.prog 47 #[.slice A l.length c] w fun e w' => ∃ v, e = .returned v ∧ OwnVs w' w.heap.size v l ∧ Below w.heap.size w w' := by
  have q : ∀ (w : World) (a : Option Addr) (n c n' c' : Nat), (binOp .eql 28 (.slice a n c) (.slice none n' c')).run Try.prog w = .ok (.bool a.isNone) w := fun w a n c n' c' => Lib.run_eql_slice_nil w _ _ a n c n' c' Try.underlying28
  have HA := Lib.hid h
  have hl2 := Lib.hid hl
  clear h hl
  by_cases hA : A = none
  · subst hA
    have e : l = [] := by
      by_cases h0 : 0 < l.length
      · obtain ⟨b, off, e, _⟩ := HA.out h0
        cases e
      · exact List.eq_nil_of_length_eq_zero (by omega)
    subst e
    go_enter Try.func47, Try.ntmps47
    go_wp2
    go_ret
    exact ⟨_, rfl, OwnVs.nil _ _, Below.refl _ _⟩
  · obtain ⟨a, rfl⟩ := Option.ne_none_iff_exists'.1 hA
    clear hA
    have HB := Lib.hid hB
    generalize hn : l.length = n at *
    have HN := Lib.hid hn
    clear hn hB
    go_enter Try.func47, Try.ntmps47
    go_wp2_with (at_builtin; refine wpList_append_vs0 rfl _ _ rfl w rfl rfl (A := some a) (k := l) (c := c) (C := B) (by rw [HN.out]; rfl) (HA.out.below ((Below.refl w.heap.size w).alloc (Nat.le_refl _) _) HB.out) (by rw [HN.out]; exact hl2.out) ?_; intro v u ho hb)
    go_ret
    exact ⟨v, rfl, ho, hb⟩
set_option maxHeartbeats 1000000 in
set_option maxRecDepth 100000 in
theorem clones_any {A : Option Addr} {l : List Slt} {B : Nat} (c : Nat) (w : World) (h : SAt w B A l) (hl : l.length ≤ 1000000) (hB : B ≤ w.heap.size) :
    Calls Try.prog 48 #[.slice A l.length c] w fun e w' => ∃ v, e = .returned v ∧ OwnSs w' w.heap.size v l ∧ Below w.heap.size w w' := by
  have q : ∀ (w : World) (a : Option Addr) (n c n' c' : Nat), (binOp .eql 29 (.slice a n c) (.slice none n' c')).run Try.prog w = .ok (.bool a.isNone) w := fun w a n c n' c' => Lib.run_eql_slice_nil w _ _ a n c n' c' Try.underlying29
  have HA := Lib.hid h
  have hl2 := Lib.hid hl
  clear h hl
  by_cases hA : A = none
  · subst hA
    have e : l = [] := by
      by_cases h0 : 0 < l.length
      · obtain ⟨b, off, e, _⟩ := HA.out h0
        cases e
      · exact List.eq_nil_of_length_eq_zero (by omega)
    subst e
    go_enter Try.func48, Try.ntmps48
    go_wp2
    go_ret
    exact ⟨_, rfl, OwnSs.nil _ _, Below.refl _ _⟩
  · obtain ⟨a, rfl⟩ := Option.ne_none_iff_exists'.1 hA
    clear hA
    have HB := Lib.hid hB
    generalize hn : l.length = n at *
    have HN := Lib.hid hn
    clear hn hB
    go_enter Try.func48, Try.ntmps48
    go_wp2_with (at_builtin; refine wpList_append_ss0 rfl _ _ rfl w rfl rfl (A := some a) (k := l) (c := c) (C := B) (by rw [HN.out]; rfl) (HA.out.below ((Below.refl w.heap.size w).alloc (Nat.le_refl _) _) HB.out) (by rw [HN.out]; exact hl2.out) ?_; intro v u ho hb)
    go_ret
    exact ⟨v, rfl, ho, hb⟩

/-- A frame's cells. -/
abbrev fcA (f : Frm) (s l o : Value) : Array Value := #[.int .i64 f.fn, .int .i64 f.pc, s, l, o, .int .i64 f.seed, .int .i64 f.spn, .int .i64 f.drw, .int .i64 f.st, .int .i64 f.wt, .int .i64 f.otr, .int .i64 f.ore, .int .i64 f.oim, .int .i64 f.uat, .int .i64 f.ugn, .int .i64 f.usl]
abbrev fz0 : Array Value := #[.int .i64 0, .int .i64 0, .slice none 0 0, .slice none 0 0, .slice none 0 0, .int .i64 0, .int .i64 0, .int .i64 0, .int .i64 0, .int .i64 0, .int .i64 0, .int .i64 0, .int .i64 0, .int .i64 0, .int .i64 0, .int .i64 0]
theorem setRow_far (w : World) (g : Nat) (cs : Array Value) (k : Nat) (hk : k ≠ g) : (w.setRow g cs).heap[k]? = w.heap[k]? := by
  simp [World.setRow, Array.getElem?_modify, Ne.symm hk]
/-- The copies are made. -/
def MidC (w : World) (f : Frm) (W : World) : Prop := ∃ A1 c1 A2 c2 A3 c3, Held W w.heap.size 35 (fcA f (.slice A1 f.stk.length c1) (.slice A2 f.loc.length c2) (.slice A3 f.slt.length c3)) ∧ Held W (w.heap.size + 1) 35 fz0 ∧
  OwnVs W (w.heap.size + 2) (.slice A1 f.stk.length c1) f.stk ∧ OwnVs W (w.heap.size + 2) (.slice A2 f.loc.length c2) f.loc ∧ OwnSs W (w.heap.size + 2) (.slice A3 f.slt.length c3) f.slt ∧
  (∀ b, Value.ownBlock (.slice A1 f.stk.length c1) = some b → Value.ownBlock (.slice A2 f.loc.length c2) ≠ some b) ∧ (∀ b, Value.ownBlock (.slice A1 f.stk.length c1) = some b → Value.ownBlock (.slice A3 f.slt.length c3) ≠ some b) ∧ (∀ b, Value.ownBlock (.slice A2 f.loc.length c2) = some b → Value.ownBlock (.slice A3 f.slt.length c3) ≠ some b) ∧
  Below w.heap.size w W
theorem mid_of {w : World} {f : Frm} {s l o : Value} {A1 : Option Addr} {c1 : Nat} {A2 : Option Addr} {c2 : Nat} {A3 : Option Addr} {c3 : Nat} {u1 u2 u3 : World} (hw1 : w.heap.size + 2 ≤ u1.heap.size)
    (hx3 : Held u3 w.heap.size 35 (fcA f s l o)) (hr3 : Held u3 (w.heap.size + 1) 35 fz0) (hb2 : Below u1.heap.size u1 u2) (hb3 : Below u2.heap.size u2 u3) {B0 : Nat} (hB0 : w.heap.size + 2 ≤ B0)
    (h1 : OwnVs u1 B0 (.slice A1 f.stk.length c1) f.stk) (h2 : OwnVs u2 u1.heap.size (.slice A2 f.loc.length c2) f.loc) (h3 : OwnSs u3 u2.heap.size (.slice A3 f.slt.length c3) f.slt) (hb : Below w.heap.size w u3) :
    MidC w f (((u3.setCell ⟨w.heap.size, 2, none⟩ (.slice A1 f.stk.length c1)).setCell ⟨w.heap.size, 3, none⟩ (.slice A2 f.loc.length c2)).setCell ⟨w.heap.size, 4, none⟩ (.slice A3 f.slt.length c3)) := by
  have hx : ∀ k', k' ≠ w.heap.size → (((u3.setCell ⟨w.heap.size, 2, none⟩ (.slice A1 f.stk.length c1)).setCell ⟨w.heap.size, 3, none⟩ (.slice A2 f.loc.length c2)).setCell ⟨w.heap.size, 4, none⟩ (.slice A3 f.slt.length c3)).heap[k']? = u3.heap[k']? := fun k' hk' =>
    (Below.heap_setCell _ ⟨w.heap.size, _, none⟩ _ k' hk').trans ((Below.heap_setCell _ ⟨w.heap.size, _, none⟩ _ k' hk').trans (Below.heap_setCell _ ⟨w.heap.size, _, none⟩ _ k' hk'))
  have l1 := h1.lt
  have l2 := h2.lt
  have l3 := h3.lt
  have hs2 := hb2.size
  have hs3 := hb3.size
  refine ⟨A1, c1, A2, c2, A3, c3, ((hx3.set_at 2 _).set_at 3 _).set_at 4 _, (hx _ (by omega)).trans hr3, ?_, ?_, ?_, ?_, ?_, ?_, ?_⟩
  · refine row_mono (row_same h1 fun g e => ?_) (show w.heap.size + 2 ≤ B0 by omega)
    have := l1 g e
    exact (hx g (by omega)).trans ((hb3.block g (by omega)).trans (hb2.block g (by omega)))
  · refine row_mono (row_same h2 fun g e => ?_) (show w.heap.size + 2 ≤ u1.heap.size by omega)
    have := l2 g e
    exact (hx g (by omega)).trans (hb3.block g (by omega))
  · refine row_mono (row_same h3 fun g e => ?_) (show w.heap.size + 2 ≤ u2.heap.size by omega)
    have := l3 g e
    exact hx g (by omega)
  · intro b e e2
    have := l1 b e
    have := l2 b e2
    omega
  · intro b e e2
    have := l1 b e
    have := l3 b e2
    omega
  · intro b e e2
    have := l2 b e
    have := l3 b e2
    omega
  · exact ((hb.setCell (p := ⟨w.heap.size, 2, none⟩) (Nat.le_refl _) _).setCell (p := ⟨w.heap.size, 3, none⟩) (Nat.le_refl _) _).setCell (p := ⟨w.heap.size, 4, none⟩) (Nat.le_refl _) _

set_option maxHeartbeats 8000000 in
set_option maxRecDepth 100000 in
theorem own_any {B : Nat} {v : Value} {f : Frm} (w : World) (h : FrmAt w B v f) (hl : FrmLen f) (hB : B ≤ w.heap.size) :
    Calls Try.prog 31 #[v] w fun e w' => ∃ s l o, e = .returned (fv f s l o) ∧ OwnVs w' w.heap.size s f.stk ∧ OwnVs w' w.heap.size l f.loc ∧ OwnSs w' w.heap.size o f.slt ∧
      (∀ b, s.ownBlock = some b → l.ownBlock ≠ some b) ∧ (∀ b, s.ownBlock = some b → o.ownBlock ≠ some b) ∧ (∀ b, l.ownBlock = some b → o.ownBlock ≠ some b) ∧ Below w.heap.size w w' := by
  obtain ⟨A1, c1, A2, c2, A3, c3, rfl, h1, h2, h3⟩ := h
  have C1 := fun W (hb : Below w.heap.size w W) => Lib.hid (clonev_any c1 W (h1.below hb hB) (by have := hl.stk; omega) (Nat.le_trans hB hb.size))
  have C2 := fun W (hb : Below w.heap.size w W) => Lib.hid (clonev_any c2 W (h2.below hb hB) (by have := hl.loc; omega) (Nat.le_trans hB hb.size))
  have C3 := fun W (hb : Below w.heap.size w W) => Lib.hid (clones_any c3 W (h3.below hb hB) (by have := hl.slt; omega) (Nat.le_trans hB hb.size))
  clear h1 h2 h3 hl hB
  go_enter Try.func31, Try.ntmps31
  go_upto_region 1 with (fail)
  have hx := (Held.new w 35 (fcA f (.slice A1 f.stk.length c1) (.slice A2 f.loc.length c2) (.slice A3 f.slt.length c3))).alloc (.cells fz0 35)
  have hr := Held.new1 w (.cells (fcA f (.slice A1 f.stk.length c1) (.slice A2 f.loc.length c2) (.slice A3 f.slt.length c3)) 35) 35 fz0
  have hbw : Below w.heap.size w ((w.alloc (.cells (fcA f (.slice A1 f.stk.length c1) (.slice A2 f.loc.length c2) (.slice A3 f.slt.length c3)) 35)).alloc (.cells fz0 35)) := below2 w _ _
  have hsz : ((w.alloc (.cells (fcA f (.slice A1 f.stk.length c1) (.slice A2 f.loc.length c2) (.slice A3 f.slt.length c3)) 35)).alloc (.cells fz0 35)).heap.size = w.heap.size + 2 := by simp
  generalize (w.alloc (.cells (fcA f (.slice A1 f.stk.length c1) (.slice A2 f.loc.length c2) (.slice A3 f.slt.length c3)) 35)).alloc (.cells fz0 35) = W0 at *
  have c2 := hx.cell 2
  have c3 := hx.cell 3
  have c4 := hx.cell 4
  simp at c2 c3 c4
  go_cut [] (fun wx => MidC w f wx)
  case first =>
    go_region_with (first
      | (go_at_call 47; (with_reducible refine (C1 _ hbw.drew).out.mono ?_); rintro _ u1 ⟨s, rfl, hs, hb1⟩; obtain ⟨As, cs, rfl, _⟩ := hs.lies; have hbw1 : Below w.heap.size w u1 := Below.step hbw.drew hb1; have hx1 := (held_drew hx).below hb1; have c3 := hx1.cell 3; have c4 := hx1.cell 4; simp at c3 c4)
      | (go_at_call 47; (with_reducible refine (C2 _ hbw1).out.mono ?_); rintro _ u2 ⟨l, rfl, hl, hb2⟩; obtain ⟨Al, cl, rfl, _⟩ := hl.lies; have hbw2 := Below.step hbw1 hb2; have hx2 := hx1.below hb2; have c4 := hx2.cell 4; simp at c4)
      | (go_at_call 48; (with_reducible refine (C3 _ hbw2).out.mono ?_); rintro _ u3 ⟨o, rfl, ho, hb3⟩; obtain ⟨Ao, co, rfl, _⟩ := ho.lies; have hbw3 := Below.step hbw2 hb3; have hx3 := hx2.below hb3; have c2 := hx3.cell 2; have c3 := hx3.cell 3; have c4 := hx3.cell 4; have z2 := hx3.fz 2; have z3 := hx3.fz 3; have z4 := hx3.fz 4; simp at c2 c3 c4))
    all_goals
      go_wp2_with fail
      go_meet
      case rel => exact mid_of (by have := hb1.size; simp at this; omega) hx3 ((((held_drew hr).below hb1).below hb2).below hb3) hb2 hb3 (by simp; omega) hs hl ho hbw3
  case rest =>
    clear c2 c3 c4 hx hr hbw hsz C1 C2 C3
    obtain ⟨B1, k1, B2, k2, B3, k3, hx, hr, h1, h2, h3, d1, d2, d3, hb⟩ := hcut
    have HR := Lib.hid (hx.lt)
    have hne : w.heap.size ≠ w.heap.size + 1 := by omega
    have H1 := Lib.hid h1
    have H2 := Lib.hid h2
    have H3 := Lib.hid h3
    have D1 := Lib.hid d1
    have D2 := Lib.hid d2
    have D3 := Lib.hid d3
    have HB := Lib.hid hb
    clear h1 h2 h3 d1 d2 d3 hb
    go_wp2_with (first
      | (refine wpList_load_row rfl 35 _ rfl w.heap.size rfl _ _ _ _ hx Try.underlying35 rfl (by kernel_rfl) ?_)
      | (refine wpList_store_row rfl 35 _ _ rfl (w.heap.size + 1) (fcA f (.slice B1 f.stk.length k1) (.slice B2 f.loc.length k2) (.slice B3 f.slt.length k3)) rfl rfl _ _ hr (by kernel_rfl) rfl (by simp [Value.oneCell']) ?_))
    have hh := setRow_heap _ (w.heap.size + 1) _ (fcA f (.slice B1 f.stk.length k1) (.slice B2 f.loc.length k2) (.slice B3 f.slt.length k3)) _ _ hr
    have hx : ∀ g, g ≠ w.heap.size + 1 → (wc.setRow (w.heap.size + 1) (fcA f (.slice B1 f.stk.length k1) (.slice B2 f.loc.length k2) (.slice B3 f.slt.length k3))).heap[g]? = wc.heap[g]? := fun g hg => setRow_far _ _ _ _ hg
    refine bodyPost_ret (v := fv f (.slice B1 f.stk.length k1) (.slice B2 f.loc.length k2) (.slice B3 f.slt.length k3)) (results_cell_row rfl _ _ (w.heap.size + 1) 35 _ (0, 0) _ rfl hh Try.underlying35 rfl (by kernel_rfl)) rfl ?_
    refine ⟨_, _, _, rfl, row_mono (row_same H1.out fun g e => hx g ?_) (by omega), row_mono (row_same H2.out fun g e => hx g ?_) (by omega), row_mono (row_same H3.out fun g e => hx g ?_) (by omega), D1.out, D2.out, D3.out, below_setRow HB.out (by omega) _⟩
    · have := (H1.out.lt g e).1; omega
    · have := (H2.out.lt g e).1; omega
    · have := (H3.out.lt g e).1; omega
/-- As the calls meet it. -/
theorem own_c {B : Nat} {cs : Array Value} {f : Frm} (w : World) (h : FrmAt w B (.agg cs) f) (hl : FrmLen f) (hB : B ≤ w.heap.size) :
    Calls Try.prog 31 #[.agg cs] w fun e w' => ∃ ds : Array Value, e = .returned (.agg ds) ∧ ds.size = 16 ∧ ds.all (·.oneCell') = true ∧ OwnF w' w.heap.size (.agg ds) f ∧ Below w.heap.size w w' :=
  (own_any w h hl hB).mono fun _ _ ⟨s, l, o, e, h1, h2, h3, _, _, _, hb⟩ => by
    obtain ⟨A1, c1, rfl, _⟩ := h1.lies
    obtain ⟨A2, c2, rfl, _⟩ := h2.lies
    obtain ⟨A3, c3, rfl, _⟩ := h3.lies
    exact ⟨_, e, rfl, by simp [Value.oneCell'], ⟨_, _, _, rfl, h1, h2, h3⟩, hb⟩
end Go.Proofs.Ytkpjlobpaippdaa
