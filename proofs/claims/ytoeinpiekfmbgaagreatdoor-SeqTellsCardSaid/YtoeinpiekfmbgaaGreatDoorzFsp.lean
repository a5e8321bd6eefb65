/- Layer 9's code: the runner asks for a child. -/
import Derived.Test.YtoeinpiekfmbgaaGreatDoorzFcp
namespace Go.Proofs.YtoeinpiekfmbgaaGreatDoor
set_option linter.unusedVariables false
set_option linter.unusedSimpArgs false
open Gm Go.RowKit Go.ChangeShapes Go.WideShapes Go.ChangeAt Go.Sort

/-- What is asked for, read below B. -/
def ActAt (w : World) (B : Nat) (v : Value) (a : ActP) : Prop := ∃ A c, v = .agg #[.int .i64 a.kd, .int .i64 a.fn, .int .i64 a.sl, .int .i64 a.sd, .slice A a.ar.length c] ∧ VAt w B A a.ar
theorem ActAt.k (w : World) (B : Nat) (k : Int) : ActAt w B (akv k) (actK k) := ⟨none, 0, rfl, VAt.nil _ _ _⟩
theorem ActAt.z (w : World) (B : Nat) : ActAt w B (akv 0) act0 := ⟨none, 0, rfl, VAt.nil _ _ _⟩
theorem ActAt.below {w w' : World} {B C : Nat} {v : Value} {a : ActP} (h : ActAt w B v a) (hb : Below C w w') (hC : B ≤ C) : ActAt w' B v a := by
  obtain ⟨A, c, e, h⟩ := h
  exact ⟨A, c, e, h.below hb hC⟩
theorem ActAt.more {w : World} {B C : Nat} {v : Value} {a : ActP} (h : ActAt w B v a) (hC : B ≤ C) : ActAt w C v a := by
  obtain ⟨A, c, e, h⟩ := h
  exact ⟨A, c, e, h.more hC⟩
/-- What is asked for, its values the call's own. -/
def ActO (w : World) (B : Nat) (v : Value) (a : ActP) : Prop := ∃ A c, v = .agg #[.int .i64 a.kd, .int .i64 a.fn, .int .i64 a.sl, .int .i64 a.sd, .slice A a.ar.length c] ∧ OwnVs w B (.slice A a.ar.length c) a.ar
theorem ActO.k (w : World) (B : Nat) (k : Int) : ActO w B (akv k) (actK k) := ⟨none, 0, rfl, OwnVs.nil _ _⟩
theorem ActO.z (w : World) (B : Nat) : ActO w B (akv 0) act0 := ⟨none, 0, rfl, OwnVs.nil _ _⟩
theorem ActO.same {w w' : World} {B : Nat} {v : Value} {a : ActP} (h : ActO w B v a) (hb : ∀ g, B ≤ g → g < w.heap.size → w'.heap[g]? = w.heap[g]?) : ActO w' B v a := by
  obtain ⟨A, c, e, ho⟩ := h
  exact ⟨A, c, e, row_same ho fun g eg => hb g (ho.lt g eg).1 (ho.lt g eg).2⟩
theorem ActO.mono {w : World} {B C : Nat} {v : Value} {a : ActP} (h : ActO w B v a) (hC : C ≤ B) : ActO w C v a := by
  obtain ⟨A, c, e, ho⟩ := h
  exact ⟨A, c, e, row_mono ho hC⟩
theorem ActO.at {w : World} {B : Nat} {v : Value} {a : ActP} (h : ActO w B v a) : ActAt w w.heap.size v a := by
  obtain ⟨A, c, e, ho⟩ := h
  obtain ⟨A9, c9, e9, hv9⟩ := ho.lies
  simp only [Value.slice.injEq] at e9
  obtain ⟨rfl, _, rfl⟩ := e9
  exact ⟨A, c, e, hv9⟩
section
variable {B r : Nat} {pv l o s : Value} {f : Frm}
/-- The act lies in a block, and the stack is cut. -/
def MidS (B r : Nat) (pv l o s : Value) (W1 : World) (f1 : Frm) (n x : Nat) (k i j y : Int) (v8 : Value) (W : World) : Prop := ∃ g A c s', v8 = .pointer (some ⟨g, 0, none⟩) ∧ Held W g 77 #[.int .i64 k, .int .i64 i, .int .i64 j, .int .i64 y, .slice A n c] ∧
  OwnVs W W1.heap.size (.slice A n c) (f1.stk.drop (f1.stk.length - n)) ∧ (∀ b, (Value.slice A n c).ownBlock = some b → b ≠ g) ∧ Aft B r pv l o s W1 (popF f1 n) s' W ∧ Off4 r s' l o g ∧ W1.heap.size ≤ g ∧ Off4 r s' l o x ∧ x < W1.heap.size ∧ Held W x 77 az0
theorem mids_a {W1 X u : World} {f1 : Frm} {n x : Nat} {k i j y : Int} {A : Option Addr} {c : Nat} {s' : Value} (h1 : RunAt W1 B r pv l o f1 s) (hx : Held W1 x 77 az0) (ox : Off4 r s l o x) (hX : Below W1.heap.size W1 X) (hg : Held X W1.heap.size 77 az0)
    (ho : OwnVs u X.heap.size (.slice A n c) (f1.stk.drop (f1.stk.length - n))) (ha : Aft B r pv l o s X (popF f1 n) s' u) :
    MidS B r pv l o s W1 f1 n x k i j y (.pointer (some ⟨W1.heap.size, 0, none⟩)) (((((u.setCell ⟨W1.heap.size, 0, none⟩ (.int .i64 k)).setCell ⟨W1.heap.size, 1, none⟩ (.int .i64 i)).setCell ⟨W1.heap.size, 2, none⟩ (.int .i64 j)).setCell ⟨W1.heap.size, 3, none⟩ (.int .i64 y)).setCell ⟨W1.heap.size, 4, none⟩ (.slice A n c)) := by
  have og : Off4 r s l o W1.heap.size := h1.off (Nat.le_refl _)
  have hgl := hg.lt
  have o2 := ha.off og hgl
  have hxl := hx.lt
  have hne : x ≠ W1.heap.size := by omega
  have hs := hX.size
  have hxu := ha.held (hx.below hX) ox
  have far : ∀ g, g ≠ W1.heap.size → (((((u.setCell ⟨W1.heap.size, 0, none⟩ (.int .i64 k)).setCell ⟨W1.heap.size, 1, none⟩ (.int .i64 i)).setCell ⟨W1.heap.size, 2, none⟩ (.int .i64 j)).setCell ⟨W1.heap.size, 3, none⟩ (.int .i64 y)).setCell ⟨W1.heap.size, 4, none⟩ (.slice A n c)).heap[g]? = u.heap[g]? := fun g hg =>
    (Below.heap_setCell _ ⟨W1.heap.size, _, none⟩ _ g hg).trans ((Below.heap_setCell _ ⟨W1.heap.size, _, none⟩ _ g hg).trans ((Below.heap_setCell _ ⟨W1.heap.size, _, none⟩ _ g hg).trans ((Below.heap_setCell _ ⟨W1.heap.size, _, none⟩ _ g hg).trans (Below.heap_setCell _ ⟨W1.heap.size, _, none⟩ _ g hg))))
  have lt := ho.lt
  refine ⟨_, A, c, s', rfl, set5 (ha.held hg og) _ _ _ _ _, row_mono (row_same ho fun g e => far g (by have := lt g e; omega)) hs, fun b e => by have := lt b e; omega, (Aft.pre hX ha).far5 o2 (Nat.le_refl _) _ _ _ _ _, o2, Nat.le_refl _, ha.off ox (by omega), hxl, (far x hne).trans hxu⟩
theorem mids_b {W1 X u : World} {f1 : Frm} {n x : Nat} {k i j y : Int} {A : Option Addr} {c : Nat} {s' : Value} (hx : Held W1 x 77 az0) (ox : Off4 r s l o x) (hX : Below W1.heap.size W1 X)
    (ho : OwnVs u X.heap.size (.slice A n c) (f1.stk.drop (f1.stk.length - n))) (ha : Aft B r pv l o s X (popF f1 n) s' u) :
    MidS B r pv l o s W1 f1 n x k i j y (.pointer (some ⟨u.heap.size, 0, none⟩)) (u.alloc (.cells #[.int .i64 k, .int .i64 i, .int .i64 j, .int .i64 y, .slice A n c] 77)) := by
  have hxl := hx.lt
  have hs := hX.size
  have hs2 := ha.kp.size
  have hxu := ha.held (hx.below hX) ox
  have lt := ho.lt
  have ha2 := (Aft.pre hX ha).alloc (.cells #[.int .i64 k, .int .i64 i, .int .i64 j, .int .i64 y, .slice A n c] 77)
  exact ⟨_, A, c, s', rfl, Held.new _ _ _, row_mono (World.ownsRow.alloc ho _) hs, fun b e => by have := lt b e; omega, ha2, ha.run.off (Nat.le_refl _), by omega, ha.off ox (by omega), hxl, hxu.alloc _⟩
theorem own_at {w : World} {B n c : Nat} {A : Option Addr} {l : List V} (h : OwnVs w B (.slice A n c) l) : VAt w w.heap.size A l := by
  obtain ⟨A9, c9, e9, hv9⟩ := h.lies
  simp only [Value.slice.injEq] at e9
  obtain ⟨rfl, _, rfl⟩ := e9
  exact hv9
theorem new_d (W : World) (t : TypeId) (cs : Array Value) : Held (W.alloc (.cells cs t)).drew W.heap.size t cs := Held.new W t cs
theorem new_e (W : World) (t : TypeId) (cs : Array Value) : Held (W.drew.alloc (.cells cs t)) W.heap.size t cs := Held.new W.drew t cs
/-- The cells that the region reads. -/
abbrev SpS (r b i : Nat) (x5 x6 x16 x0 : Value) (W : World) : Prop := W.cell? ⟨r, 5, none⟩ = some x5 ∧ W.cell? ⟨r, 6, none⟩ = some x6 ∧ W.cell? ⟨r, 16, none⟩ = some x16 ∧ W.cell? ⟨b, i, none⟩ = some x0
theorem SpS.below {r b i : Nat} {x5 x6 x16 x0 : Value} {W W' : World} (h : SpS r b i x5 x6 x16 x0 W) (hb : Below W.heap.size W W') : SpS r b i x5 x6 x16 x0 W' :=
  ⟨(hb.cell (p := ⟨r, 5, none⟩) (block_lt_of_cell h.1)).trans h.1, (hb.cell (p := ⟨r, 6, none⟩) (block_lt_of_cell h.2.1)).trans h.2.1, (hb.cell (p := ⟨r, 16, none⟩) (block_lt_of_cell h.2.2.1)).trans h.2.2.1, (hb.cell (p := ⟨b, i, none⟩) (block_lt_of_cell h.2.2.2)).trans h.2.2.2⟩
theorem SpS.far {r b i : Nat} {x5 x6 x16 x0 : Value} {W : World} (h : SpS r b i x5 x6 x16 x0 W) {g : Nat} (hr : g ≠ r) (hb : g ≠ b) (j : Nat) (y : Value) : SpS r b i x5 x6 x16 x0 (W.setCell ⟨g, j, none⟩ y) := by
  have e : ∀ k, k ≠ g → ∀ q, (W.setCell ⟨g, j, none⟩ y).cell? ⟨k, q, none⟩ = W.cell? ⟨k, q, none⟩ := fun k hk q => World.cell?_of_block (Below.heap_setCell W ⟨g, j, none⟩ y k hk)
  exact ⟨(e r hr.symm 5).trans h.1, (e r hr.symm 6).trans h.2.1, (e r hr.symm 16).trans h.2.2.1, (e b hb.symm i).trans h.2.2.2⟩
set_option maxHeartbeats 4000000 in
set_option maxRecDepth 100000 in
theorem rspawn_any {A : Option Addr} {p : List Fun} {cp C : Nat} (k m : Nat) (w : World) (h : RunAt w B r (.slice A p.length cp) l o f s) (hp : ProgAt w C A p) (hC : C ≤ B) (hT : TabB w B) (hk : k < p.length) (hm : m < f.slt.length) (n : Nat) (hn : p[k].ar = n) (hns : n ≤ f.stk.length)
    (hlen : f.stk.length ≤ 1000) (hpc : 0 ≤ f.pc ∧ f.pc < 9223372036854775807) (hB : B ≤ w.heap.size) :
    Calls Tryz.prog 113 #[.pointer (some ⟨r, 0, none⟩), .int .i64 k, .int .i64 m] w fun e w' => ∃ av s', e = .returned (.tuple #[av, .int .i64 (spawnF p f k m).2.2]) ∧ ActO w' w.heap.size av (spawnF p f k m).2.1 ∧ Aft B r (.slice A p.length cp) l o s w (spawnF p f k m).1 s' w' := by
  obtain ⟨g, c, rfl⟩ := own_form h.oo (by omega)
  obtain ⟨⟨y0, y1, y2, y3, y4, y5⟩, yz⟩ := own_ss h.oo hm
  have hsl : sltAt f m = f.slt[m] := by unfold sltAt; rw [Int.toNat_natCast, List.getD_eq_getElem?_getD, List.getElem?_eq_getElem hm]; rfl
  have har : (arP p k).toNat = n := by unfold arP; rw [Int.toNat_natCast, List.getElem?_eq_getElem hk]; simp only [hn, Int.toNat_natCast]
  have hm2 : (m : Int) < f.slt.length := by omega
  have hgl := (h.lts (.inr (.inr (.inr rfl)))).2
  have hrl := h.rlt
  have r4 := h.cells 4
  simp at r4
  have H := Lib.hid h
  have HB := Lib.hid hB
  by_cases hst : f.slt[m].st ≠ 0
  · have hF : spawnF p f k m = (f, act0, 2) := by unfold spawnF; rw [hsl, if_pos hst]
    rw [hF]
    have hst2 : (f.slt[m].st != 0) = true := by simpa using hst
    generalize f.slt[m].st = st at *
    clear h hB hp hT hns hlen hF hsl har hn hst y1 y2 y3 y4 y5
    go_enter Tryz.func113, Tryz.ntmps113
    go_wp2_with fail
    go_returns
    exact ⟨_, rfl, ActO.z _ _, s, (Aft.refl H.out).alloc _⟩
  · obtain ⟨b, off, rfl, hbl, hpc2⟩ := hp (by omega)
    obtain ⟨pa, _⟩ := hpc2 k hk
    rw [hn] at pa
    have hbw : b < w.heap.size := by omega
    have hst2 : (f.slt[m].st != 0) = false := by simpa using hst
    have hF : spawnF p f k m = (goF { popF { f with slt := f.slt.set m { f.slt[m] with st := 1, kat := -1, kgn := 0 } } n with spn := wrap64 (f.spn + 1) } (f.pc + 1),
        ⟨2, k, m, useZ f.seed 1 f.spn, f.stk.drop (f.stk.length - n)⟩, 0) := by
      unfold spawnF
      rw [hsl, if_neg hst, har, Int.toNat_natCast]
      rfl
    rw [hF]
    have n0 := TabB.nbl hT
    obtain ⟨ty, hnb⟩ := hT.nb
    have hnb2 := hnb.alloc (.cells az0 77)
    have e0 := hnb2.cell 0
    have e1 := hnb2.cell 1
    rw [show (#[Value.int .i64 (-1), .int .i64 0] : Array Value)[0]? = some (.int .i64 (-1)) from rfl] at e0
    rw [show (#[Value.int .i64 (-1), .int .i64 0] : Array Value)[1]? = some (.int .i64 0) from rfl] at e1
    have nw := Nat.ne_of_lt (Nat.lt_of_lt_of_le hT.nbl hB)
    have A0 := Lib.hid ((((Aft.refl h).slot3 m 1 (-1) 0 hm).alloc (.cells az0 77)).drew)
    have HNS := Lib.hid hns
    have HLEN := Lib.hid hlen
    have PA := Lib.hid pa
    have hgw := Nat.ne_of_lt hgl
    have hrw := Nat.ne_of_lt hrl
    have CH := child_any f.seed f.spn
    generalize useZ f.seed 1 f.spn = uz at *
    have hk2 : (k : Int) < p.length := by omega
    have OX := Lib.hid (h.off (Nat.le_refl _))
    have HP := Lib.hid hp
    have hor : g ≠ r := fun e => h.or (by rw [← e]; rfl)
    have hgb : g ≠ 0 := fun e => by have : B ≤ g := (h.lts (.inr (.inr (.inr rfl)))).1; omega
    generalize f.slt[m] = sm at *
    obtain ⟨st, kat, kgn, tr, re, im⟩ := sm
    simp only at y0 y1 y2 y3 y4 y5 hst2
    clear hF hsl har hst hT hnb hp hpc2 h
    go_enter Tryz.func113, Tryz.ntmps113
    go_upto_region 3 with (fail)
    go_region
    go_upto_region 4 with (fail)
    generalize hW : World.drew _ = W1
    have A1 : Aft B r (.slice (some ⟨b, off, none⟩) p.length cp) l (.slice (some ⟨g, 0, none⟩) f.slt.length c) s w { f with slt := f.slt.set m ⟨1, -1, 0, tr, re, im⟩ } s W1 := by
      rw [← hW]
      exact A0.out
    have hx1 : Held W1 w.heap.size 77 az0 := by
      rw [← hW]
      have := Held.new (((w.setCell ⟨g, m * 6, none⟩ (.int .i64 1)).setCell ⟨g, m * 6 + 1, none⟩ (.int .i64 (-1))).setCell ⟨g, m * 6 + 2, none⟩ (.int .i64 0)) 77 az0
      rw [show (((w.setCell ⟨g, m * 6, none⟩ (.int .i64 1)).setCell ⟨g, m * 6 + 1, none⟩ (.int .i64 (-1))).setCell ⟨g, m * 6 + 2, none⟩ (.int .i64 0)).heap.size = w.heap.size by simp] at this
      exact this
    have ox1 : Off4 r s l (.slice (some ⟨g, 0, none⟩) f.slt.length c) w.heap.size := OX.out
    have hS : SpS r b (off + k * 4) (.int .i64 f.seed) (.int .i64 f.spn) (.slice (some ⟨b, off, none⟩) p.length cp) (.int .i64 n) W1 := by
      refine ⟨(A1.run.cells 5).trans rfl, (A1.run.cells 6).trans rfl, (A1.run.cells 16).trans rfl, ?_⟩
      exact ((A1.low H.out HB.out).cell (p := ⟨b, off + k * 4, none⟩) (by show b < B; omega)).trans PA.out
    have TK := fun W (hb : Below W1.heap.size W1 W) => Lib.hid (rtake_own n W (A1.run.below hb) HNS.out HLEN.out (Nat.le_trans HB.out (Nat.le_trans A1.kp.size hb.size)))
    have hbB : b < B := by omega
    have hbr : b ≠ r := by have := H.out.ler; omega
    have hW1r : W1.heap.size ≠ r := by have := A1.run.rlt; omega
    have hW1b : W1.heap.size ≠ b := by have := A1.kp.size; omega
    have H1 := Lib.hid A1
    have HX := Lib.hid hx1
    have HS := Lib.hid hS
    have s5 := hS.1
    have s6 := hS.2.1
    have s16 := hS.2.2.1
    have s0 := hS.2.2.2
    clear hW A1 hx1 y0 y1 y2 y3 y4 y5 yz e0 e1 hnb2 r4 hS pa
    go_cut [8] (fun v8 wx => MidS B r (.slice (some ⟨b, off, none⟩) p.length cp) l (.slice (some ⟨g, 0, none⟩) f.slt.length c) s W1 { f with slt := f.slt.set m ⟨1, -1, 0, tr, re, im⟩ } n w.heap.size 2 k m uz v8 wx)
    case first =>
      go_region_held3 (fun W => W.cell? ⟨r, 5, none⟩ = some (.int .i64 f.seed) ∧ W.cell? ⟨r, 6, none⟩ = some (.int .i64 f.spn) ∧ W.cell? ⟨r, 16, none⟩ = some (.slice (some ⟨b, off, none⟩) p.length cp) ∧ W.cell? ⟨b, off + k * 4, none⟩ = some (.int .i64 n))
        (first
          | with_reducible assumption
          | with_reducible exact HS.out
          | with_reducible exact SpS.below HS.out (Below.refl _ _).drew
          | with_reducible exact SpS.below HS.out ((Below.refl _ _).alloc (Nat.le_refl _) _)
          | with_reducible exact SpS.below HS.out ((Below.refl _ _).alloc (Nat.le_refl _) _).drew
          | with_reducible exact SpS.below HS.out ((Below.refl _ _).drew.alloc (Nat.le_refl _) _)
          | with_reducible exact SpS.below hq ((Below.refl _ _).alloc (Nat.le_refl _) _)
          | go_keep)
        (first
          | (go_at_call 121; (with_reducible refine (CH.go _).mono ?_); rintro _ u0 ⟨rfl, rfl⟩)
          | (go_at_call 120; go_loud (((with_reducible refine (TK _ ?_).out.mono ?_); (focus (go_grown))); rintro _ u ⟨A2, c2, s2, rfl, ho2, ha2⟩; have ha3 := Aft.pre (w0 := W1) (by go_grown) ha2; have hlo := ha3.low H1.out.run (Nat.le_trans HB.out H1.out.kp.size); (try ((have hz := ha2.held (g := W1.heap.size) (t := 77) (cs := az0) (by with_reducible (first | exact new_d W1 _ _ | exact new_e W1 _ _)) (H1.out.run.off (Nat.le_refl _))); obtain ⟨q0, q1, q2, q3, q4, z0, z1, z2, z3, z4⟩ := five hz)); have hq : SpS r b (off + k * 4) (.int .i64 f.seed) (.int .i64 f.spn) (.slice (some ⟨b, off, none⟩) p.length cp) (.int .i64 n) u := ⟨(ha2.run.cells 5).trans rfl, (ha2.run.cells 6).trans rfl, (ha2.run.cells 16).trans rfl, (hlo.cell (p := ⟨b, off + k * 4, none⟩) hbB).trans HS.out.2.2.2⟩; have hqf := SpS.far (SpS.far (SpS.far (SpS.far (SpS.far hq hW1r hW1b 0 (.int .i64 2)) hW1r hW1b 1 (.int .i64 k)) hW1r hW1b 2 (.int .i64 m)) hW1r hW1b 3 (.int .i64 uz)) hW1r hW1b 4 (.slice A2 n c2))))
      all_goals go_wp2_with fail
      all_goals go_meet
      all_goals case rel => first | with_reducible exact mids_a H1.out.run HX.out ox1 (by go_grown) (new_d W1 _ _) ho2 ha2 | with_reducible exact mids_a H1.out.run HX.out ox1 (by go_grown) (new_e W1 _ _) ho2 ha2 | with_reducible exact mids_b HX.out ox1 (by go_grown) ho2 ha2
    case rest =>
      obtain ⟨g2, A2, c2, s2, rfl, hact, hov, hne, ha2, og2, hge, ox2, hxl, hres⟩ := hcut
      have ha3 := H1.out.trans ha2
      have r6 := ha2.run.cells 6
      have z6 := ha2.run.blk.fz 6
      have r1 := ha2.run.cells 1
      have z1' := ha2.run.blk.fz 1
      have hg2r : g2 ≠ r := og2.r
      have hxr : w.heap.size ≠ r := ox2.r
      have hxg : w.heap.size ≠ g2 := by omega
      obtain ⟨a0, a1, a2, a3, a4, _⟩ := five hact
      obtain ⟨q0, q1, q2, q3, q4, z0, z1, z2, z3, z4⟩ := five hres
      simp [popF] at r6 r1
      clear TK s5 s6 s16 s0
      go_wp2_with fail
      have hr5 : Held ((((((wc.setCell ⟨r, 6, none⟩ (.int .i64 (wrap64 (f.spn + 1)))).setCell ⟨r, 1, none⟩ (.int .i64 (f.pc + 1))).setCell ⟨w.heap.size, 0, none⟩ (.int .i64 2)).setCell ⟨w.heap.size, 1, none⟩ (.int .i64 k)).setCell ⟨w.heap.size, 2, none⟩ (.int .i64 m)).setCell ⟨w.heap.size, 3, none⟩ (.int .i64 uz) |>.setCell ⟨w.heap.size, 4, none⟩ (.slice A2 n c2)) w.heap.size 77 #[.int .i64 2, .int .i64 k, .int .i64 m, .int .i64 uz, .slice A2 n c2] := set5 ((hres.far hxr 6 _).far hxr 1 _) _ _ _ _ _
      have A5 := (((ha3.sto 6 (.int .i64 (wrap64 (f.spn + 1))) { popF { f with slt := f.slt.set m ⟨1, -1, 0, tr, re, im⟩ } n with spn := wrap64 (f.spn + 1) } rfl rfl rfl rfl).pc (f.pc + 1)).far5 ox2 (Nat.le_refl _) (.int .i64 2) (.int .i64 k) (.int .i64 m) (.int .i64 uz) (.slice A2 n c2))
      have hol : OwnVs (((((((wc.setCell ⟨r, 6, none⟩ (.int .i64 (wrap64 (f.spn + 1)))).setCell ⟨r, 1, none⟩ (.int .i64 (f.pc + 1))).setCell ⟨w.heap.size, 0, none⟩ (.int .i64 2)).setCell ⟨w.heap.size, 1, none⟩ (.int .i64 k)).setCell ⟨w.heap.size, 2, none⟩ (.int .i64 m)).setCell ⟨w.heap.size, 3, none⟩ (.int .i64 uz) |>.setCell ⟨w.heap.size, 4, none⟩ (.slice A2 n c2))) W1.heap.size (.slice A2 n c2) (f.stk.drop (f.stk.length - n)) := row_same hov fun q e => by
        have hq := (hov.lt q e).1
        have h1 : q ≠ w.heap.size := by omega
        have h2 : q ≠ r := by have := H1.out.run.rlt; omega
        exact (Below.heap_setCell _ ⟨w.heap.size, _, none⟩ _ q h1).trans ((Below.heap_setCell _ ⟨w.heap.size, _, none⟩ _ q h1).trans ((Below.heap_setCell _ ⟨w.heap.size, _, none⟩ _ q h1).trans ((Below.heap_setCell _ ⟨w.heap.size, _, none⟩ _ q h1).trans ((Below.heap_setCell _ ⟨w.heap.size, _, none⟩ _ q h1).trans ((Below.heap_setCell _ ⟨r, _, none⟩ _ q h2).trans (Below.heap_setCell _ ⟨r, _, none⟩ _ q h2))))))
      obtain ⟨d0, d1, d2, d3, d4, _⟩ := five hr5
      have hn9 := hol.len
      refine bodyPost_ret (v := .tuple #[.agg #[.int .i64 2, .int .i64 k, .int .i64 m, .int .i64 uz, .slice A2 n c2], .int .i64 0]) (by simp [results, Tryz.results113, go_sem, d0, d1, d2, d3, d4]) rfl ⟨_, rfl, ⟨A2, c2, by rw [hn9], ?_⟩, _, A5⟩
      rw [hn9]
      exact row_mono hol H1.out.kp.size
end
end Go.Proofs.YtoeinpiekfmbgaaGreatDoor

