/- Layer 9: FrameSafe: a frame of a program with which nothing is wrong never ends for want of a value, of room, or of a place: at each place the stack has the depth with which it is reached; whatever its children end with. For all programs and ends. -/
import Derived.Test.YtjnbockdfjhfgaaDoorzFss
import Derived.Test.YtjnbockdfjhfgaaDoorzFol
import Derived.Test.YtjnbockdfjhfgaaDoorzGv
namespace Go.Proofs.YtjnbockdfjhfgaaDoor.frameSafe
set_option linter.unusedVariables false
set_option linter.unusedSimpArgs false
open Gm Go.RowKit Go.ChangeShapes Go.WideShapes Go.ChangeAt Go.Sort

theorem keepT {W0 W : World} {N b off : Nat} {ty : TypeId} {c0 c1 c2 c3 c4 c5 c6 c7 c8 c9 c10 c11 c12 c13 c14 c15 t x y : Value} (hN : Held W0 N ty #[c0, c1, c2, c3, c4, c5, c6, c7, c8, c9, c10, c11, c12, c13, c14, c15]) (h0 : W0.cell? ⟨b, off, none⟩ = some t) (h1 : W0.cell? ⟨b, off + 1, none⟩ = some x) (h2 : W0.cell? ⟨b, off + 2, none⟩ = some y) (hb : Below W0.heap.size W0 W) : Below W0.heap.size W0 W ∧ W.cell? ⟨N, 0, none⟩ = some c0 ∧ W.cell? ⟨N, 1, none⟩ = some c1 ∧ W.cell? ⟨N, 2, none⟩ = some c2 ∧ W.cell? ⟨N, 3, none⟩ = some c3 ∧ W.cell? ⟨N, 4, none⟩ = some c4 ∧ W.cell? ⟨N, 5, none⟩ = some c5 ∧ W.cell? ⟨N, 6, none⟩ = some c6 ∧ W.cell? ⟨N, 7, none⟩ = some c7 ∧ W.cell? ⟨N, 8, none⟩ = some c8 ∧ W.cell? ⟨N, 9, none⟩ = some c9 ∧ W.cell? ⟨N, 10, none⟩ = some c10 ∧ W.cell? ⟨N, 11, none⟩ = some c11 ∧ W.cell? ⟨N, 12, none⟩ = some c12 ∧ W.cell? ⟨N, 13, none⟩ = some c13 ∧ W.cell? ⟨N, 14, none⟩ = some c14 ∧ W.cell? ⟨N, 15, none⟩ = some c15 ∧ W.cell? ⟨b, off, none⟩ = some t ∧ W.cell? ⟨b, off + 1, none⟩ = some x ∧ W.cell? ⟨b, off + 2, none⟩ = some y :=
  ⟨hb, (hN.below hb).cell 0, (hN.below hb).cell 1, (hN.below hb).cell 2, (hN.below hb).cell 3, (hN.below hb).cell 4, (hN.below hb).cell 5, (hN.below hb).cell 6, (hN.below hb).cell 7, (hN.below hb).cell 8, (hN.below hb).cell 9, (hN.below hb).cell 10, (hN.below hb).cell 11, (hN.below hb).cell 12, (hN.below hb).cell 13, (hN.below hb).cell 14, (hN.below hb).cell 15, (hb.cell (p := ⟨b, off, none⟩) (block_lt_of_cell h0)).trans h0, (hb.cell (p := ⟨b, off + 1, none⟩) (block_lt_of_cell h1)).trans h1, (hb.cell (p := ⟨b, off + 2, none⟩) (block_lt_of_cell h2)).trans h2⟩
/-- Behind the step: its frame lies in a new block. -/
def MidT (Wq : World) (B : Nat) (S : Frm × Int) (v13 v14 : Value) (W : World) : Prop := ∃ g cs, v13 = .pointer (some ⟨g, 0, none⟩) ∧ v14 = .int .i64 S.2 ∧ FB W B g cs S.1 ∧ Below Wq.heap.size Wq W ∧ Wq.heap.size ≤ g
theorem midt_a {Wq u : World} {B : Nat} {Z : Frm} {kd : Int} {As Al Ao : Option Addr} {ks kl ko : Nat} (hz : Held u Wq.heap.size 40 fz0) (hb : Below Wq.heap.size Wq u) (ho : OwnF u 0 (.agg #[.int .i64 Z.fn, .int .i64 Z.pc, .slice As Z.stk.length ks, .slice Al Z.loc.length kl, .slice Ao Z.slt.length ko, .int .i64 Z.seed, .int .i64 Z.spn, .int .i64 Z.drw, .int .i64 Z.st, .int .i64 Z.wt, .int .i64 Z.otr, .int .i64 Z.ore, .int .i64 Z.oim, .int .i64 Z.uat, .int .i64 Z.ugn, .int .i64 Z.usl]) Z) (hB : B ≤ Wq.heap.size) :
    MidT Wq B (Z, kd) (.pointer (some ⟨Wq.heap.size, 0, none⟩)) (.int .i64 kd) ((((((((((((((((u.setCell ⟨Wq.heap.size, 0, none⟩ (.int .i64 Z.fn)).setCell ⟨Wq.heap.size, 1, none⟩ (.int .i64 Z.pc)).setCell ⟨Wq.heap.size, 2, none⟩ (.slice As Z.stk.length ks)).setCell ⟨Wq.heap.size, 3, none⟩ (.slice Al Z.loc.length kl)).setCell ⟨Wq.heap.size, 4, none⟩ (.slice Ao Z.slt.length ko)).setCell ⟨Wq.heap.size, 5, none⟩ (.int .i64 Z.seed)).setCell ⟨Wq.heap.size, 6, none⟩ (.int .i64 Z.spn)).setCell ⟨Wq.heap.size, 7, none⟩ (.int .i64 Z.drw)).setCell ⟨Wq.heap.size, 8, none⟩ (.int .i64 Z.st)).setCell ⟨Wq.heap.size, 9, none⟩ (.int .i64 Z.wt)).setCell ⟨Wq.heap.size, 10, none⟩ (.int .i64 Z.otr)).setCell ⟨Wq.heap.size, 11, none⟩ (.int .i64 Z.ore)).setCell ⟨Wq.heap.size, 12, none⟩ (.int .i64 Z.oim)).setCell ⟨Wq.heap.size, 13, none⟩ (.int .i64 Z.uat)).setCell ⟨Wq.heap.size, 14, none⟩ (.int .i64 Z.ugn)).setCell ⟨Wq.heap.size, 15, none⟩ (.int .i64 Z.usl)) := by
  have s1 := set16 hz (.int .i64 Z.fn) (.int .i64 Z.pc) (.slice As Z.stk.length ks) (.slice Al Z.loc.length kl) (.slice Ao Z.slt.length ko) (.int .i64 Z.seed) (.int .i64 Z.spn) (.int .i64 Z.drw) (.int .i64 Z.st) (.int .i64 Z.wt) (.int .i64 Z.otr) (.int .i64 Z.ore) (.int .i64 Z.oim) (.int .i64 Z.uat) (.int .i64 Z.ugn) (.int .i64 Z.usl)
  have s2 := far16 u Wq.heap.size (.int .i64 Z.fn) (.int .i64 Z.pc) (.slice As Z.stk.length ks) (.slice Al Z.loc.length kl) (.slice Ao Z.slt.length ko) (.int .i64 Z.seed) (.int .i64 Z.spn) (.int .i64 Z.drw) (.int .i64 Z.st) (.int .i64 Z.wt) (.int .i64 Z.otr) (.int .i64 Z.ore) (.int .i64 Z.oim) (.int .i64 Z.uat) (.int .i64 Z.ugn) (.int .i64 Z.usl)
  have s3 := below16 (.int .i64 Z.fn) (.int .i64 Z.pc) (.slice As Z.stk.length ks) (.slice Al Z.loc.length kl) (.slice Ao Z.slt.length ko) (.int .i64 Z.seed) (.int .i64 Z.spn) (.int .i64 Z.drw) (.int .i64 Z.st) (.int .i64 Z.wt) (.int .i64 Z.otr) (.int .i64 Z.ore) (.int .i64 Z.oim) (.int .i64 Z.uat) (.int .i64 Z.ugn) (.int .i64 Z.usl) (Nat.le_refl Wq.heap.size) hb
  have s4 := size16 u Wq.heap.size (.int .i64 Z.fn) (.int .i64 Z.pc) (.slice As Z.stk.length ks) (.slice Al Z.loc.length kl) (.slice Ao Z.slt.length ko) (.int .i64 Z.seed) (.int .i64 Z.spn) (.int .i64 Z.drw) (.int .i64 Z.st) (.int .i64 Z.wt) (.int .i64 Z.otr) (.int .i64 Z.ore) (.int .i64 Z.oim) (.int .i64 Z.uat) (.int .i64 Z.ugn) (.int .i64 Z.usl)
  obtain ⟨_, e9, hc⟩ := ho.cells
  simp only [Value.agg.injEq] at e9
  subst e9
  have hkb : KB u ((((((((((((((((u.setCell ⟨Wq.heap.size, 0, none⟩ (.int .i64 Z.fn)).setCell ⟨Wq.heap.size, 1, none⟩ (.int .i64 Z.pc)).setCell ⟨Wq.heap.size, 2, none⟩ (.slice As Z.stk.length ks)).setCell ⟨Wq.heap.size, 3, none⟩ (.slice Al Z.loc.length kl)).setCell ⟨Wq.heap.size, 4, none⟩ (.slice Ao Z.slt.length ko)).setCell ⟨Wq.heap.size, 5, none⟩ (.int .i64 Z.seed)).setCell ⟨Wq.heap.size, 6, none⟩ (.int .i64 Z.spn)).setCell ⟨Wq.heap.size, 7, none⟩ (.int .i64 Z.drw)).setCell ⟨Wq.heap.size, 8, none⟩ (.int .i64 Z.st)).setCell ⟨Wq.heap.size, 9, none⟩ (.int .i64 Z.wt)).setCell ⟨Wq.heap.size, 10, none⟩ (.int .i64 Z.otr)).setCell ⟨Wq.heap.size, 11, none⟩ (.int .i64 Z.ore)).setCell ⟨Wq.heap.size, 12, none⟩ (.int .i64 Z.oim)).setCell ⟨Wq.heap.size, 13, none⟩ (.int .i64 Z.uat)).setCell ⟨Wq.heap.size, 14, none⟩ (.int .i64 Z.ugn)).setCell ⟨Wq.heap.size, 15, none⟩ (.int .i64 Z.usl)) Wq.heap.size := ⟨by rw [s4]; exact Nat.le_refl _, fun g _ hk => s2 g hk⟩
  exact ⟨_, _, rfl, rfl, ⟨s1, ho.kb hz tyFV tyFS hkb, hc, hB⟩, s3, Nat.le_refl _⟩
theorem midt_b {Wq u : World} {B : Nat} {Z : Frm} {kd : Int} {As Al Ao : Option Addr} {ks kl ko : Nat} (hb : Below Wq.heap.size Wq u) (ho : OwnF u 0 (.agg #[.int .i64 Z.fn, .int .i64 Z.pc, .slice As Z.stk.length ks, .slice Al Z.loc.length kl, .slice Ao Z.slt.length ko, .int .i64 Z.seed, .int .i64 Z.spn, .int .i64 Z.drw, .int .i64 Z.st, .int .i64 Z.wt, .int .i64 Z.otr, .int .i64 Z.ore, .int .i64 Z.oim, .int .i64 Z.uat, .int .i64 Z.ugn, .int .i64 Z.usl]) Z) (hB : B ≤ Wq.heap.size) :
    MidT Wq B (Z, kd) (.pointer (some ⟨u.heap.size, 0, none⟩)) (.int .i64 kd) (u.alloc (.cells #[.int .i64 Z.fn, .int .i64 Z.pc, .slice As Z.stk.length ks, .slice Al Z.loc.length kl, .slice Ao Z.slt.length ko, .int .i64 Z.seed, .int .i64 Z.spn, .int .i64 Z.drw, .int .i64 Z.st, .int .i64 Z.wt, .int .i64 Z.otr, .int .i64 Z.ore, .int .i64 Z.oim, .int .i64 Z.uat, .int .i64 Z.ugn, .int .i64 Z.usl] 40)) := by
  obtain ⟨_, e9, hc⟩ := ho.cells
  simp only [Value.agg.injEq] at e9
  subst e9
  have hb2 : Below u.heap.size u (u.alloc (.cells #[.int .i64 Z.fn, .int .i64 Z.pc, .slice As Z.stk.length ks, .slice Al Z.loc.length kl, .slice Ao Z.slt.length ko, .int .i64 Z.seed, .int .i64 Z.spn, .int .i64 Z.drw, .int .i64 Z.st, .int .i64 Z.wt, .int .i64 Z.otr, .int .i64 Z.ore, .int .i64 Z.oim, .int .i64 Z.uat, .int .i64 Z.ugn, .int .i64 Z.usl] 40)) := (Below.refl _ _).alloc (Nat.le_refl _) _
  exact ⟨_, _, rfl, rfl, ⟨Held.new _ _ _, ho.below hb2, hc, by have := hb.size; omega⟩, Below.step hb hb2, hb.size⟩
theorem MidT.drew {Wq : World} {B : Nat} {S : Frm × Int} {v13 v14 : Value} {W : World} (h : MidT Wq B S v13 v14 W) : MidT Wq B S v13 v14 W.drew := by
  obtain ⟨g, cs, e1, e2, h1, h2, h3⟩ := h
  exact ⟨g, cs, e1, e2, h1.below (Below.refl _ _).drew, h2.drew, h3⟩
theorem FB_otr {W : World} {B g : Nat} {cs : Array Value} {F : Frm} (h : FB W B g cs F) : W.cell? ⟨g, 10, none⟩ = some (.int .i64 F.otr) := by
  obtain ⟨s, l, o, e, _⟩ := h.own
  simp only [Value.agg.injEq] at e
  subst e
  exact h.held.cell 10
theorem tyIF : 3 ≠ 40 := by decide
set_option maxHeartbeats 4000000 in
set_option maxRecDepth 100000 in
theorem out {A Al : Option Addr} {p : List Fun} {l : List O3} (c cl : Nat) (n : Int) (w : World) (hT : TabB w w.heap.size) (hp : ProgAt w w.heap.size A p) (hz : SizedP p) (hl : OAt w w.heap.size Al l) (hs : smallP p 300 = false ∨ (checkP p).2.2 ≠ 0 ∨ n < 0 ∨ (p.length : Int) ≤ n ∨ 100 < l.length) :
    Calls Tryd.prog 3 #[.slice A p.length c, .int .i64 n, .slice Al l.length cl] w fun e w' => e = .returned (.bool true) ∧ Below w.heap.size w w' := by
  have hw : Below w.heap.size w w := Below.refl _ _
  have S7 := fun W (hw : Below w.heap.size w W) => Lib.hid (psmall_any c 300 W (hp.below hw (Nat.le_refl _)))
  have G8 := fun W (hw : Below w.heap.size w W) => Lib.hid (rgood_any c W (hp.below hw (Nat.le_refl _)) hz hw.size)
  have F9 := fun W (hw : Below w.heap.size w W) => Lib.hid (fixed9 W ((hT.below hw (Nat.le_refl _)).more hw.size))
  have hs2 : smallP p 300 = false ∨ (smallP p 300 = true ∧ ((checkP p).2.2 == 0) = false) ∨ (smallP p 300 = true ∧ ((checkP p).2.2 == 0) = true ∧ n < 0) ∨ (smallP p 300 = true ∧ ((checkP p).2.2 == 0) = true ∧ ¬ n < 0 ∧ (p.length : Int) ≤ n) ∨ (smallP p 300 = true ∧ ((checkP p).2.2 == 0) = true ∧ ¬ n < 0 ∧ ¬ (p.length : Int) ≤ n ∧ 100 < (l.length : Int)) := by
    cases h1 : smallP p 300
    · exact .inl rfl
    · by_cases h2 : (checkP p).2.2 = 0
      · by_cases h3 : n < 0
        · exact .inr (.inr (.inl ⟨rfl, by simpa using h2, h3⟩))
        · by_cases h4 : (p.length : Int) ≤ n
          · exact .inr (.inr (.inr (.inl ⟨rfl, by simpa using h2, h3, h4⟩)))
          · refine .inr (.inr (.inr (.inr ⟨rfl, by simpa using h2, h3, h4, ?_⟩)))
            rcases hs with h | h | h | h | h
            · rw [h1] at h; cases h
            · exact absurd h2 h
            · exact absurd h h3
            · exact absurd h h4
            · omega
      · exact .inr (.inl ⟨rfl, by simpa using h2⟩)
  clear hT hp hz hl hs
  generalize smallP p 300 = b1 at *
  generalize ((checkP p).2.2 == 0) = b2 at *
  rcases hs2 with rfl | ⟨rfl, rfl⟩ | ⟨rfl, rfl, h3⟩ | ⟨rfl, rfl, h3, h4⟩ | ⟨rfl, rfl, h3, h4, h5⟩
  all_goals
    go_enter Tryd.func3, Tryd.ntmps3
    go_wp2_with (first
      | (go_at_call 7; (with_reducible refine (F9 _ hw).out.mono ?_); rintro _ u ⟨rfl, hb⟩; replace hw := hw.trans (hb.mono hw.size); clear hb)
      | (go_at_call 8; (with_reducible refine (S7 _ hw).out.mono ?_); rintro _ _ ⟨rfl, rfl⟩)
      | (go_at_call 9; (with_reducible refine (G8 _ hw).out.mono ?_); rintro _ u ⟨rfl, hb⟩; replace hw := hw.trans (hb.mono hw.size); clear hb))
    go_ret
    exact ⟨rfl, hw⟩
/-- The new frame. -/
def fr0 (k : Nat) (g : Fun) : Frm := ⟨k, 0, [], List.replicate g.ar.toNat (0, 0) ++ List.replicate (g.lo.toNat - g.ar.toNat) (0, 0), List.replicate g.sl.toNat slt0, 3, 0, 0, 0, 0, 0, 0, 0, -1, 0, 0⟩
theorem new_fr0 {p : List Fun} {k : Nat} (hc : (checkP p).2.2 = 0) (hk : k < p.length) : newF p k (List.replicate p[k].ar.toNat (0, 0)) 3 = (fr0 k p[k], true) := by
  have hmem : p[k] ∈ p := List.getElem_mem hk
  have hmf := ((mayP_iff p).1 (check_facts hc).1).2.2 _ hmem
  have hal := (fun_facts ((check_facts hc).2 _ hmem)).1
  have hhd : headB p[k].ar p[k].lo p[k].sl = true := by
    unfold mayF at hmf
    simp at hmf
    exact hmf.1.1
  obtain ⟨⟨a0, a1⟩, ⟨b0, b1⟩, c0, c1⟩ := (headB_iff _ _ _).1 hhd
  rw [newF_at (check_facts hc).1 (by simp [hasI]; omega) (by decide) (g := p[k]) (by rw [Int.toNat_natCast, List.getElem?_eq_getElem hk]), if_pos ⟨hal, by simp; omega, by
    rw [List.all_eq_true]
    intro v hv
    rw [(List.mem_replicate.1 hv).2]
    rfl⟩, List.length_replicate]
  rfl
theorem safe_fr0 {p : List Fun} {k : Nat} (hc : (checkP p).2.2 = 0) (hk : k < p.length) (T : Int → Prop) : Safe p k p[k] T (fr0 k p[k]) := by
  have hmem : p[k] ∈ p := List.getElem_mem hk
  have hmf := ((mayP_iff p).1 (check_facts hc).1).2.2 _ hmem
  have hal := (fun_facts ((check_facts hc).2 _ hmem)).1
  have hhd : headB p[k].ar p[k].lo p[k].sl = true := by
    unfold mayF at hmf
    simp at hmf
    exact hmf.1.1
  obtain ⟨⟨a0, a1⟩, ⟨b0, b1⟩, c0, c1⟩ := (headB_iff _ _ _).1 hhd
  refine ⟨rfl, ⟨0, rfl, (solved_in hc hk).zero⟩, ?_, ?_, fun s hs => .inl ?_⟩
  · simp [fr0]; omega
  · simp [fr0]; omega
  · simp only [fr0] at hs
    rw [(List.mem_replicate.1 hs).2]
    rfl
set_option maxHeartbeats 8000000 in
set_option maxRecDepth 100000 in
theorem good {A Al : Option Addr} {p : List Fun} {l : List O3} (c cl : Nat) (k : Nat) (w : World) (hT : TabB w w.heap.size) (hp : ProgAt w w.heap.size A p) (hz : SizedP p) (hl : OAt w w.heap.size Al l) (hs1 : smallP p 300 = true) (hc : (checkP p).2.2 = 0) (hk : k < p.length) (h100 : l.length ≤ 100) :
    Calls Tryd.prog 3 #[.slice A p.length c, .int .i64 k, .slice Al l.length cl] w fun e w' => e = .returned (.bool true) ∧ Below w.heap.size w w' := by
  have hw : Below w.heap.size w w := Below.refl _ _
  have S7 := fun W (hw : Below w.heap.size w W) => Lib.hid (psmall_any c 300 W (hp.below hw (Nat.le_refl _)))
  have G8 := fun W (hw : Below w.heap.size w W) => Lib.hid (rgood_any c W (hp.below hw (Nat.le_refl _)) hz hw.size)
  have F9 := fun W (hw : Below w.heap.size w W) => Lib.hid (fixed9 W ((hT.below hw (Nat.le_refl _)).more hw.size))
  have CX := Lib.hid (cx_of (c := c) hT hp hz)
  have DP := fun W (hw : Below w.heap.size w W) => Lib.hid (rdepths_any c k W (hp.below hw (Nat.le_refl _)) hz hw.size)
  have hgb : ((checkP p).2.2 == 0) = true := by simpa using hc
  rw [hs1] at S7
  rw [hgb] at G8
  have HNEW := Lib.hid (new_fr0 hc hk)
  have HSF := Lib.hid (safe_fr0 hc hk (TolP l 0))
  have HST := Lib.hid (fun (T : Int → Prop) (f : Frm) (h : Safe p k p[k] T f) (hs : f.st = 0) t v ht => safe_step hc (List.getElem?_eq_getElem hk) h hs t v ht)
  have HSV := Lib.hid (solved_in hc hk)
  have hmem : p[k] ∈ p := List.getElem_mem hk
  have hmf := ((mayP_iff p).1 (check_facts hc).1).2.2 _ hmem
  have hhd : headB p[k].ar p[k].lo p[k].sl = true := by
    unfold mayF at hmf
    simp at hmf
    exact hmf.1.1
  obtain ⟨⟨a0, a1⟩, ⟨b0, b1⟩, c0, c1⟩ := (headB_iff _ _ _).1 hhd
  have HP : Hid (∃ b off, A = some ⟨b, off, none⟩ ∧ b < w.heap.size ∧ w.cell? ⟨b, off + k * 4, none⟩ = some (.int .i64 p[k].ar)) := Lib.hid (by
    obtain ⟨b, off, e1, hbl, hf⟩ := hp (by omega)
    exact ⟨b, off, e1, hbl, (hf k hk).1⟩)
  have HL := Lib.hid hl
  have hlI : (l.length : Int) ≤ 100 := by omega
  have hkI : (k : Int) < p.length := by omega
  have hlocF : ∀ T f, Safe p k p[k] T f → f.stk.length ≤ 16 ∧ FrmLen f := fun T f h => by
    obtain ⟨i, _, hD⟩ := h.at_
    have h1 := (HSV.out.range i _ hD).2
    have h2 := h.loc
    have h3 := h.slt
    exact ⟨by omega, by omega, by omega, by omega⟩
  have HLF := Lib.hid hlocF
  have hD0 : 0 < (depthsP p k).length := by
    have := HSV.out.zero
    exact (List.getElem?_eq_some_iff.1 this).1
  clear hT hp hz hl hs1 hmf hhd hlocF hgb h100
  clear hmem
  generalize p[k] = g at *
  clear hc hk
  generalize hpl : p.length = pl at *
  generalize hD : depthsP p k = D at *
  obtain ⟨ab, ao, rfl, habl, hca⟩ := HP.out
  clear HP hpl
  go_enter Tryd.func3, Tryd.ntmps3
  go_upto_region 1 with fail
  go_cut [43] from 17 to 43 (fun v43 wx => v43 = .bool false ∧ Below w.heap.size w wx)
  case first =>
    go_wp2_with (first
      | (go_at_call 7; (with_reducible refine (F9 _ hw).out.mono ?_); rintro _ u ⟨rfl, hb⟩; replace hw := hw.trans (hb.mono hw.size); clear hb)
      | (go_at_call 8; (with_reducible refine (S7 _ hw).out.mono ?_); rintro _ _ ⟨rfl, rfl⟩)
      | (go_at_call 9; (with_reducible refine (G8 _ hw).out.mono ?_); rintro _ u ⟨rfl, hb⟩; replace hw := hw.trans (hb.mono hw.size); clear hb))
    go_meet
    exact ⟨by simp; omega, hw⟩
  case rest =>
  obtain ⟨rfl, hw1⟩ := hcut
  clear S7 G8 F9 hw
  have hw := hw1
  clear hw1
  generalize wc = u at *
  obtain ⟨m, hm⟩ : ∃ m : Nat, g.ar = m := ⟨g.ar.toNat, by omega⟩
  have HN2 : Hid (newF p k (List.replicate m (0, 0)) 3 = (fr0 k g, true)) := Lib.hid (by
    have := HNEW.out
    rw [hm, Int.toNat_natCast] at this
    exact this)
  have hm16 : m ≤ 16 := by omega
  rw [hm] at hca
  clear HNEW a0 a1 b0 b1 c0 c1
  have HCA := Lib.hid hca
  have HHW := Lib.hid hw
  clear hca hw
  go_wp2_with fail
  go_loopw [7, 8] (fun v iv wr => ∃ j : Nat, iv = .int .i64 j ∧ j ≤ m ∧ OwnVs wr u.heap.size v (List.replicate j (0, 0)) ∧ Below u.heap.size u wr) (fun _ iv _ => m - (intOf iv).toNat)
  case atStart => exact ⟨0, rfl, by omega, OwnVs.made u, (Below.refl _ _).alloc (Nat.le_refl _) _⟩
  case round =>
    obtain ⟨j, rfl, hj, ho, hbr⟩ := hrel
    have hwr := HHW.out.trans (hbr.mono HHW.out.size)
    have hca := (hwr.cell (p := ⟨ab, ao + k * 4, none⟩) habl).trans HCA.out
    obtain ⟨Av, cv, e, hv⟩ := ho.lies
    rw [List.length_replicate] at e
    subst e
    by_cases hlt : j < m
    · have hlt2 : (j : Int) < m := by omega
      have h16 : (j : Int) < 16 := by omega
      have hoa := World.ownsRow.alloc ho (.cells #[.int .i64 0, .int .i64 0] 33)
      have hva : VAt (wr.alloc (.cells #[.int .i64 0, .int .i64 0] 33)) (wr.alloc (.cells #[.int .i64 0, .int .i64 0] 33)).heap.size (some ⟨wr.heap.size, 0, none⟩) [(0, 0)] := fun _ => by
        have h := Held.new wr 33 #[.int .i64 0, .int .i64 0]
        refine ⟨_, _, rfl, h.lt, fun j hj => ?_⟩
        obtain rfl : j = 0 := by simpa using hj
        exact ⟨h.cell 0, h.cell 1⟩
      have hba := hbr.alloc hbr.size (.cells #[.int .i64 0, .int .i64 0] 33)
      have hlt3 := ho.lt
      go_wp2_with (at_builtin; go_loud (refine wpList_append_vs (k := [(0, 0)]) (n := 1) rfl (.tmp 59) (.tmp 61) rfl u.heap.size (.slice Av j cv) (List.replicate j (0, 0)) rfl hoa rfl rfl hva (by decide) (by rw [List.length_replicate]; omega) hba.size ?_; intro v' w' hv' hg' hn'))
      go_roundw
      case rel =>
        exact ⟨j + 1, by go_num, by omega, by rw [List.replicate_succ']; exact hv', hba.grown hg' hba.size (fun q e => (hlt3 q e).1)⟩
      case measure => simp [intOf]; omega
    · obtain rfl : j = m := by omega
      have hva : VAt wr wr.heap.size Av (List.replicate j (0, 0)) := hv
      have hJL : (List.replicate j ((0, 0) : V)).length = j := List.length_replicate
      have HJL := Lib.hid hJL
      have HJJ := Lib.hid (show j ≤ 1000 by omega)
      clear hJL ho hv hbr hlt
      go_upto_region 9 with (first
        | (go_at_call 10; (with_reducible refine (CX.out.new _ _ (List.replicate j (0, 0)) j _ _ _ _ hwr hva HJL.out HJJ.out HN2.out).mono ?_); rintro _ u2 ⟨v', rfl, ho, hb⟩; obtain ⟨cs', rfl, hc'⟩ := ho.cells; have hg2 := Held.new u2 40 fz0)
        | (refine wpList_store_row rfl 40 _ _ rfl u2.heap.size cs' rfl rfl _ _ hg2 (fb_info hc') hc'.size.symm hc'.one ?_))
      obtain ⟨hN, hbW, _, hw1⟩ := fr_stored (z := fz0) hwr hwr.size hb ho hc'
      have hF : FB _ w.heap.size u2.heap.size cs' (fr0 k g) := hN
      clear ho hc' hg2 hb hN hbW hwr hca hva HJL HJJ HN2
      generalize World.setRow _ u2.heap.size cs' = W3 at *
      generalize u2.heap.size = g9 at *
      go_wp2_with (go_at_call 11; (with_reducible refine (DP _ hw1).out.mono ?_); rintro _ u3 ⟨x, rfl, hL, hb⟩; replace hF := hF.below hb; replace hw1 := hw1.trans (hb.mono hw1.size); clear hb; obtain ⟨db, rfl, _, hHD⟩ := hL.resolve_left (fun h => by rw [h.1] at hD0; simp at hD0))
      have HF0 := Lib.hid hF
      have HD0 := Lib.hid hHD
      have HW0 := Lib.hid hw1
      have HDD := Lib.hid hD
      clear hF hHD hw1 HCA HHW hm hm16 hj DP hD
      go_loopw [12, 13, 14, 15, 16] (fun iv _ _ _ _ wr => ∃ (i : Nat) (F : Frm) (cs : Array Value), iv = .int .i64 i ∧ i ≤ l.length ∧ FB wr w.heap.size g9 cs F ∧ (F.st = 0 → Safe p k g (TolP l i) F) ∧ Held wr db 3 (intA D) ∧ Below w.heap.size w wr) (fun iv _ _ _ _ _ => l.length - (intOf iv).toNat)
      case atStart => exact ⟨0, fr0 k g, _, rfl, by omega, HF0.out, fun _ => HSF.out, HD0.out, HW0.out⟩
      case round =>
        obtain ⟨i, F, cs, rfl, hi, hF, hS, hHD, hw⟩ := hrel
        clear HF0 HD0 HW0 HSF
        have x8 := (hF.held.cell 8).trans hF.fc.c8
        by_cases hil : i < l.length
        · have hilI : (i : Int) < l.length := by omega
          by_cases hst : F.st = 0
          · have est : (F.st == 0) = true := by simpa using hst
            have hsafe := hS hst
            obtain ⟨h16, hFL⟩ := HLF.out _ _ hsafe
            obtain ⟨pi, hpc, hDp⟩ := hsafe.at_
            rw [HDD.out] at hDp
            obtain ⟨hpiD, hDe⟩ := List.getElem?_eq_some_iff.1 hDp
            have x1 := (hF.held.cell 1).trans hF.fc.c1
            rw [hpc] at x1
            obtain ⟨A2, k2, e2⟩ := hF.fc.c2
            have x2 := (hF.held.cell 2).trans e2
            have dc := ints_cell hHD hpiD
            rw [hDe] at dc
            have nd : ((F.stk.length : Int) != F.stk.length) = false := by simp
            have hpiI : (pi : Int) < D.length := by omega
            have hp0 : decide ((pi : Int) < 0) = false := by simp
            have hp1 : decide ((D.length : Int) ≤ pi) = false := by simp; omega
            have hp2 : decide (D.length ≤ pi) = false := by simp; omega
            obtain ⟨lb, lo, rfl, hlb, hlc⟩ := HL.out (by omega)
            have HLC := Lib.hid hlc
            have HSAFE := Lib.hid hsafe
            have HFL := Lib.hid hFL
            have H16 := Lib.hid h16
            have HST0 := Lib.hid hst
            clear hS hst hsafe hFL h16 hlc e2 hDp hDe hpc
            go_upto_region 15 with fail
            go_wp2_with fail
            go_quiet (fail)
            have hDr := below_drewN (Below.refl wr.heap.size wr) nq
            replace hF := hF.below hDr
            replace hHD := hHD.below hDr
            replace hw := hw.trans (hDr.mono hw.size)
            clear hDr x8 x1 x2 dc nd est hpiI hpiD
            generalize World.drewN wr nq = Wq at *
            go_upto_region 17 with fail
            obtain ⟨s, lv, o, e, o1, o2, o3⟩ := hF.own
            obtain ⟨As, ks, rfl, _⟩ := o1.lies
            obtain ⟨Ac, kl, rfl, _⟩ := o2.lies
            obtain ⟨Ao, ko, rfl, _⟩ := o3.lies
            simp only [Value.agg.injEq] at e
            subst e
            obtain ⟨oc0, oc1, oc2⟩ := HLC.out i hil
            replace oc0 := (hw.cell (p := ⟨lb, lo + i * 3, none⟩) hlb).trans oc0
            replace oc1 := (hw.cell (p := ⟨lb, lo + i * 3 + 1, none⟩) hlb).trans oc1
            replace oc2 := (hw.cell (p := ⟨lb, lo + i * 3 + 2, none⟩) hlb).trans oc2
            obtain ⟨ot, hot⟩ : ∃ z, l[i].1 = z := ⟨_, rfl⟩
            obtain ⟨ox, hox⟩ : ∃ z, l[i].2.1 = z := ⟨_, rfl⟩
            obtain ⟨oy, hoy⟩ : ∃ z, l[i].2.2 = z := ⟨_, rfl⟩
            rw [hot] at oc0
            rw [hox] at oc1
            rw [hoy] at oc2
            have HOT := Lib.hid hot
            have ST := fun W (hb : Below Wq.heap.size Wq W) => Lib.hid (step_any (F := F) (cs := #[.int .i64 F.fn, .int .i64 F.pc, .slice As F.stk.length ks, .slice Ac F.loc.length kl, .slice Ao F.slt.length ko, .int .i64 F.seed, .int .i64 F.spn, .int .i64 F.drw, .int .i64 F.st, .int .i64 F.wt, .int .i64 F.otr, .int .i64 F.ore, .int .i64 F.oim, .int .i64 F.uat, .int .i64 F.ugn, .int .i64 F.usl]) CX ot ox oy (hw.trans (hb.mono hw.size)) ((hF.frm.below hb (Nat.le_refl _)).more hb.size) HFL.out (by have := H16.out; omega))
            have HX := Lib.hid hF.held
            have OC0 := Lib.hid oc0
            have OC1 := Lib.hid oc1
            have OC2 := Lib.hid oc2
            have HHD := Lib.hid hHD
            have HW := Lib.hid hw
            have hwB := hw.size
            have hge9 := hF.ge
            have hg9l := hF.held.lt
            generalize hSt : stepP p F ot (ox, oy) = R at *
            have HSt := Lib.hid hSt
            obtain ⟨G, kd⟩ := R
            clear hSt hot hox hoy o1 o2 o3 hF hHD hw oc0 oc1 oc2
            go_cut [13, 14] from 75 to 179 (fun v13 v14 wx => MidT Wq w.heap.size (G, kd) v13 v14 wx)
            case first =>
              have hq0 := keepT HX.out OC0.out OC1.out OC2.out (Below.refl Wq.heap.size Wq)
              go_region_held3 (fun W => Below Wq.heap.size Wq W ∧ W.cell? ⟨g9, 0, none⟩ = some (.int .i64 F.fn) ∧ W.cell? ⟨g9, 1, none⟩ = some (.int .i64 F.pc) ∧ W.cell? ⟨g9, 2, none⟩ = some (.slice As F.stk.length ks) ∧ W.cell? ⟨g9, 3, none⟩ = some (.slice Ac F.loc.length kl) ∧ W.cell? ⟨g9, 4, none⟩ = some (.slice Ao F.slt.length ko) ∧ W.cell? ⟨g9, 5, none⟩ = some (.int .i64 F.seed) ∧ W.cell? ⟨g9, 6, none⟩ = some (.int .i64 F.spn) ∧ W.cell? ⟨g9, 7, none⟩ = some (.int .i64 F.drw) ∧ W.cell? ⟨g9, 8, none⟩ = some (.int .i64 F.st) ∧ W.cell? ⟨g9, 9, none⟩ = some (.int .i64 F.wt) ∧ W.cell? ⟨g9, 10, none⟩ = some (.int .i64 F.otr) ∧ W.cell? ⟨g9, 11, none⟩ = some (.int .i64 F.ore) ∧ W.cell? ⟨g9, 12, none⟩ = some (.int .i64 F.oim) ∧ W.cell? ⟨g9, 13, none⟩ = some (.int .i64 F.uat) ∧ W.cell? ⟨g9, 14, none⟩ = some (.int .i64 F.ugn) ∧ W.cell? ⟨g9, 15, none⟩ = some (.int .i64 F.usl) ∧ W.cell? ⟨lb, lo + i * 3, none⟩ = some (.int .i64 ot) ∧ W.cell? ⟨lb, lo + i * 3 + 1, none⟩ = some (.int .i64 ox) ∧ W.cell? ⟨lb, lo + i * 3 + 2, none⟩ = some (.int .i64 oy))
                (first
                  | with_reducible assumption
                  | with_reducible exact keepT HX.out OC0.out OC1.out OC2.out (Below.refl _ _).drew
                  | with_reducible exact keepT HX.out OC0.out OC1.out OC2.out ((Below.refl _ _).alloc (Nat.le_refl _) _).drew
                  | with_reducible exact keepT HX.out OC0.out OC1.out OC2.out ((Below.refl _ _).alloc (Nat.le_refl _) _)
                  | with_reducible exact keepT HX.out OC0.out OC1.out OC2.out (Below.step (And.left (by assumption)) (by assumption))
                  | with_reducible exact keepT HX.out OC0.out OC1.out OC2.out (Below.drew (And.left (by assumption)))
                  | with_reducible exact keepT HX.out OC0.out OC1.out OC2.out (Below.alloc (And.left (by assumption)) (Below.size (And.left (by assumption))) _)
                  | with_reducible exact keepT HX.out OC0.out OC1.out OC2.out (below16 _ _ _ _ _ _ _ _ _ _ _ _ _ _ _ _ (Nat.le_refl Wq.heap.size) hbq)
                  | go_keep)
                (first
                  | (go_at_call 12; go_loud (((with_reducible refine (ST _ ?_).out.mono ?_); (focus (first | exact And.left (by assumption) | go_grown))); rintro _ u ⟨v', rfl, ho, hb⟩; obtain ⟨s3, s4, s5, rfl, p1, p2, p3⟩ := ho; obtain ⟨A3, k3, rfl, _⟩ := p1.lies; obtain ⟨A4, k4, rfl, _⟩ := p2.lies; obtain ⟨A5, k5, rfl, _⟩ := p3.lies; have ow : OwnF u 0 (.agg #[.int .i64 G.fn, .int .i64 G.pc, .slice A3 G.stk.length k3, .slice A4 G.loc.length k4, .slice A5 G.slt.length k5, .int .i64 G.seed, .int .i64 G.spn, .int .i64 G.drw, .int .i64 G.st, .int .i64 G.wt, .int .i64 G.otr, .int .i64 G.ore, .int .i64 G.oim, .int .i64 G.uat, .int .i64 G.ugn, .int .i64 G.usl]) G := ⟨_, _, _, rfl, p1, p2, p3⟩; (first | have hbq := Below.step (And.left (by assumption)) hb | have hbq := Below.step (show Below Wq.heap.size Wq _ by go_grown) hb); have hq := keepT HX.out OC0.out OC1.out OC2.out hbq; have hqs := keepT HX.out OC0.out OC1.out OC2.out (below16 (.int .i64 G.fn) (.int .i64 G.pc) (.slice A3 G.stk.length k3) (.slice A4 G.loc.length k4) (.slice A5 G.slt.length k5) (.int .i64 G.seed) (.int .i64 G.spn) (.int .i64 G.drw) (.int .i64 G.st) (.int .i64 G.wt) (.int .i64 G.otr) (.int .i64 G.ore) (.int .i64 G.oim) (.int .i64 G.uat) (.int .i64 G.ugn) (.int .i64 G.usl) (Nat.le_refl Wq.heap.size) hbq); (try (first | have hz := (Held.new Wq 40 fz0).below hb | have hz := (held_drew (Held.new Wq 40 fz0)).below hb | have hz := (Held.new Wq.drew 40 fz0).below hb); (have y0 := hz.cell 0; have z0 := hz.fz 0; have y1 := hz.cell 1; have z1 := hz.fz 1; have y2 := hz.cell 2; have z2 := hz.fz 2; have y3 := hz.cell 3; have z3 := hz.fz 3; have y4 := hz.cell 4; have z4 := hz.fz 4; have y5 := hz.cell 5; have z5 := hz.fz 5; have y6 := hz.cell 6; have z6 := hz.fz 6; have y7 := hz.cell 7; have z7 := hz.fz 7; have y8 := hz.cell 8; have z8 := hz.fz 8; have y9 := hz.cell 9; have z9 := hz.fz 9; have y10 := hz.cell 10; have z10 := hz.fz 10; have y11 := hz.cell 11; have z11 := hz.fz 11; have y12 := hz.cell 12; have z12 := hz.fz 12; have y13 := hz.cell 13; have z13 := hz.fz 13; have y14 := hz.cell 14; have z14 := hz.fz 14; have y15 := hz.cell 15; have z15 := hz.fz 15; simp at y0 y1 y2 y3 y4 y5 y6 y7 y8 y9 y10 y11 y12 y13 y14 y15)))))
              all_goals go_wp2_with fail
              all_goals go_meet
              all_goals case rel => first | with_reducible exact midt_a hz hbq ow hwB | with_reducible exact midt_b hbq ow hwB
            case rest =>
              as_aux_lemma =>
                obtain ⟨g13, c13, rfl, rfl, hZ, hbZ, hg13⟩ := hcut
                simp only at hZ
                have hX9 := HX.out.below hbZ
                have hHD := HHD.out.below hbZ
                have hw := HW.out.trans (hbZ.mono HW.out.size)
                have htl : TolP l (i + 1) ot := by
                  have := TolP.last hil
                  rwa [HOT.out] at this
                have hstp := HST.out _ F (HSAFE.out.mono (fun _ h => TolP.step h)) HST0.out ot (ox, oy) htl
                rw [HSt.out] at hstp
                simp only at hstp
                obtain ⟨hkd, hotr, hsf⟩ := hstp
                have HKD := Lib.hid hkd
                have HOTR := Lib.hid hotr
                have HSF2 := Lib.hid hsf
                have o0 := (hw.cell (p := ⟨lb, lo + i * 3, none⟩) hlb).trans (HLC.out i hil).1
                rw [HOT.out] at o0
                clear htl hkd hotr hsf ST HX OC0 OC1 OC2 HHD HW HSt HSAFE HST0 hbZ HFL H16
                go_upto_region 18 with fail
                go_cut [15] from 75 to 179 (fun v15 wx => v15 = .bool (b34 ot) ∧ wx = wc)
                case first =>
                  rcases (show (ot == 3) = true ∨ ((ot == 3) = false ∧ (ot == 4) = true) ∨ ((ot == 3) = false ∧ (ot == 4) = false) by
                    by_cases h3 : ot = 3
                    · exact .inl (by simpa using h3)
                    · by_cases h4 : ot = 4
                      · exact .inr (.inl ⟨by simpa using h3, by simpa using h4⟩)
                      · exact .inr (.inr ⟨by simpa using h3, by simpa using h4⟩)) with h3 | ⟨h3, h4⟩ | ⟨h3, h4⟩
                  all_goals
                    go_wp2_with fail
                    go_meet
                    exact ⟨by unfold b34; first | (rw [h3]; done) | (rw [h3]; rfl) | (rw [h3, h4]; done) | (rw [h3, h4]; rfl), rfl⟩
                case rest =>
                obtain ⟨rfl, rfl⟩ := hcut
                clear o0
                go_wp2_with fail
                go_loop [15, 16] (fun tv kv => ∃ m : Nat, kv = .int .i64 m ∧ m ≤ i ∧ tv = .bool (tolB l i m)) (fun _ kv => i - (intOf kv).toNat)
                case atStart => exact ⟨0, rfl, by omega, by rw [tolB_zero hil, HOT.out]⟩
                case round =>
                  obtain ⟨m, rfl, hm, rfl⟩ := hrel
                  by_cases hmi : m < i
                  · have hmI : (m : Int) < i := by omega
                    have hml : m < l.length := by omega
                    have hmlI : (m : Int) < l.length := by omega
                    have hsu := tolB_succ (i := i) hml
                    have o1 := (hw.cell (p := ⟨lb, lo + m * 3, none⟩) hlb).trans (HLC.out m hml).1
                    generalize l[m].1 = mt at *
                    generalize tolB l i m = tb at *
                    have HSU := Lib.hid hsu
                    clear hsu
                    rcases (show tb = true ∨ (tb = false ∧ (mt == 3) = true) ∨ (tb = false ∧ (mt == 3) = false ∧ (mt == 4) = true) ∨ (tb = false ∧ (mt == 3) = false ∧ (mt == 4) = false) by
                      cases tb
                      · by_cases h3 : mt = 3
                        · exact .inr (.inl ⟨rfl, by simpa using h3⟩)
                        · by_cases h4 : mt = 4
                          · exact .inr (.inr (.inl ⟨rfl, by simpa using h3, by simpa using h4⟩))
                          · exact .inr (.inr (.inr ⟨rfl, by simpa using h3, by simpa using h4⟩))
                      · exact .inl rfl) with rfl | ⟨rfl, h3⟩ | ⟨rfl, h3, h4⟩ | ⟨rfl, h3, h4⟩
                    all_goals
                      go_wp2_with fail
                      go_round
                      case rel => exact ⟨m + 1, by go_num, by omega, by rw [HSU.out]; unfold b34; first | rfl | (rw [h3]; done) | (rw [h3]; rfl) | (rw [h3, h4]; done) | (rw [h3, h4]; rfl)⟩
                      case measure => simp [intOf]; omega
                  · obtain rfl : m = i := by omega
                    have z10 := FB_otr hZ
                    have hto : G.otr = 3 ∨ G.otr = 4 → kd = 4 → tolB l m m = true := fun h h4 => by
                      rcases HOTR.out h4 with e | e | e | e | e
                      · omega
                      · omega
                      · omega
                      · omega
                      · exact tolB_of e h
                    rcases (show kd = 1 ∨ kd = 2 ∨ (kd = 4 ∧ tolB l m m = true) ∨ (kd = 4 ∧ tolB l m m = false ∧ (G.otr == 3) = false ∧ (G.otr == 4) = false) by
                      rcases HKD.out with e | e | e
                      · exact .inl e
                      · exact .inr (.inl e)
                      · cases ht : tolB l m m
                        · refine .inr (.inr (.inr ⟨e, rfl, ?_, ?_⟩))
                          · by_cases h : G.otr = 3
                            · rw [hto (.inl h) e] at ht; cases ht
                            · simpa using h
                          · by_cases h : G.otr = 4
                            · rw [hto (.inr h) e] at ht; cases ht
                            · simpa using h
                        · exact .inr (.inr (.inl ⟨e, rfl⟩))) with rfl | rfl | ⟨rfl, ht⟩ | ⟨rfl, ht, n3, n4⟩
                    all_goals
                      try rw [ht]
                      clear hto
                      have hkb : KB wc (wc.setRow g9 c13) g9 := (KB.of_below (Below.refl _ _) g9).row c13
                      have hsz : (#[.int .i64 F.fn, .int .i64 F.pc, .slice As F.stk.length ks, .slice Ac F.loc.length kl, .slice Ao F.slt.length ko, .int .i64 F.seed, .int .i64 F.spn, .int .i64 F.drw, .int .i64 F.st, .int .i64 F.wt, .int .i64 F.otr, .int .i64 F.ore, .int .i64 F.oim, .int .i64 F.uat, .int .i64 F.ugn, .int .i64 F.usl] : Array Value).size = c13.size := by rw [hZ.fc.size]; rfl
                      go_upto_region 25 with fail
                      clear z10
                      go_wp2_with (first
                        | (guard_target = wpList _ _ _ (Oper.mk _ (Op.load 40 (.tmp 13)) _ _ _ none :: _) _ _; refine wpList_load_row rfl 40 (.tmp 13) rfl g13 rfl 40 _ (0, 0) _ hZ.held Tryd.underlying40 rfl (fb_info hZ.fc) ?_)
                        | (refine wpList_store_row rfl 40 _ _ rfl g9 c13 rfl rfl _ _ hX9 (fb_info hZ.fc) hsz hZ.fc.one ?_))
                      go_roundw
                      case rel => exact ⟨m + 1, G, c13, by go_num, by omega, FB.into hZ.own hZ.fc hX9 hkb (hX9.rowSelf c13) hge9, HSF2.out, hHD.row (held_ne hHD hX9 tyIF) c13, below_row hw hge9 c13⟩
                      case measure => simp [intOf]; omega
          · have est : (F.st == 0) = false := by simpa using hst
            clear hS hst hF hHD
            go_wp2_with fail
            go_ret
            exact ⟨rfl, hw⟩
        · obtain rfl : i = l.length := by omega
          clear hS hF hHD x8
          go_wp2_with fail
          go_ret
          exact ⟨rfl, hw⟩
theorem walk {A Al : Option Addr} {p : List Fun} {l : List O3} (c cl : Nat) (n : Int) (w : World) (hT : TabB w w.heap.size) (hp : ProgAt w w.heap.size A p) (hz : SizedP p) (hl : OAt w w.heap.size Al l) :
    Calls Tryd.prog 3 #[.slice A p.length c, .int .i64 n, .slice Al l.length cl] w fun e w' => e = .returned (.bool true) ∧ Below w.heap.size w w' := by
  by_cases hs : smallP p 300 = false ∨ (checkP p).2.2 ≠ 0 ∨ n < 0 ∨ (p.length : Int) ≤ n ∨ 100 < l.length
  · exact out c cl n w hT hp hz hl hs
  · have h1 : smallP p 300 = true := by
      cases h : smallP p 300
      · exact absurd (.inl h) hs
      · rfl
    have h2 : (checkP p).2.2 = 0 := Decidable.byContradiction fun e => hs (.inr (.inl e))
    have h3 : ¬ n < 0 := fun e => hs (.inr (.inr (.inl e)))
    have h4 : ¬ (p.length : Int) ≤ n := fun e => hs (.inr (.inr (.inr (.inl e))))
    have h5 : ¬ 100 < l.length := fun e => hs (.inr (.inr (.inr (.inr e))))
    obtain ⟨k, rfl⟩ := Int.eq_ofNat_of_zero_le (show 0 ≤ n by omega)
    exact good c cl k w hT hp hz hl h1 h2 (by omega) (by omega)
set_option maxRecDepth 100000 in
theorem entry {H : Type} {enc : TypeId × Value → H} (W : World) (base : Nat) (v0 v1 v2 : Value) (d0 d1 d2 : DataW H) (p0 p1 p2 : List MemPlace)
    (k0 : Value.okWide Tryd.prog W .any base 23 v0)
    (k1 : Value.okWide Tryd.prog W .any base 3 v1)
    (k2 : Value.okWide Tryd.prog W .any base 24 v2)
    (h0 : DataW.Trod enc Tryd.prog W 0 (fun _ => true) true 23 v0 d0 p0)
    (h1 : DataW.Trod enc Tryd.prog W 0 (fun _ => true) true 3 v1 d1 p1)
    (h2 : DataW.Trod enc Tryd.prog W 0 (fun _ => true) true 24 v2 d2 p2)
    (hT : TabB W W.heap.size) : Calls Tryd.prog 3 #[v0, v1, v2] W fun e w' => e = .returned (.bool true) ∧ Below W.heap.size W w' := by
  obtain ⟨A0, c0, ps0, rfl, hp0, hz0⟩ := open_prog k0 h0
  obtain ⟨a1, rfl, rfl, rfl, w1⟩ := open_int Tryd.underlying3 k1 h1
  obtain ⟨A2, c2, l2, rfl, hl2⟩ := open_outs k2 h2
  exact walk c0 c2 a1 W hT hp0 hz0 hl2
end Go.Proofs.YtjnbockdfjhfgaaDoor.frameSafe

