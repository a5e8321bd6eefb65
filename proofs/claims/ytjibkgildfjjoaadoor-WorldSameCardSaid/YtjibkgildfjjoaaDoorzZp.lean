/- Layer 13: arguments that are worlds, starts, opened. -/
import Derived.Test.YtjibkgildfjjoaaDoorzYg
import Derived.Test.YtjibkgildfjjoaaDoorzZn
import Derived.Test.YtjibkgildfjjoaaDoorzYn
import Derived.Test.YtjibkgildfjjoaaDoorzRw
namespace Go.Proofs.YtjibkgildfjjoaaDoor
set_option linter.unusedVariables false
set_option linter.unusedSimpArgs false
open Go.RowKit Go.ChangeShapes Go.WideShapes Go.ChangeAt Go.Deep Go.Joins

set_option maxRecDepth 100000 in
theorem ciPg : Tryd.prog.cellsOf 23 = 1 := by kernel_rfl
set_option maxRecDepth 100000 in
theorem ciLm : Tryd.prog.cellsOf 25 = 3 := by kernel_rfl
set_option maxRecDepth 100000 in
theorem ciGs : Tryd.prog.cellsOf 30 = 1 := by kernel_rfl
set_option maxRecDepth 100000 in
theorem ciEr : Tryd.prog.cellsOf 38 = 1 := by kernel_rfl
set_option maxRecDepth 100000 in
theorem ciWd : Tryd.prog.cellsOf 40 = 19 := by kernel_rfl
set_option maxRecDepth 100000 in
theorem open_eno {H : Type} {enc : TypeId × Value → H} {W : World} {base : Nat} {sp : Nat → Bool} {hd : Bool} {fuel : Nat} {c : Value} {y : DataW H × List MemPlace} (g : DataW.trod enc Tryd.prog W base sp hd fuel 38 [c] = some y) : ∃ n : Int, c = .int .i64 n := by
  obtain ⟨n0, e0, _, _⟩ := DataW.trod_int Tryd.underlying38 g
  simp at e0
  exact ⟨n0, e0⟩
set_option maxRecDepth 100000 in
theorem open_lim3 {H : Type} {enc : TypeId × Value → H} {W : World} {base : Nat} {sp : Nat → Bool} {hd : Bool} {fuel : Nat} {a b c : Value} {y : DataW H × List MemPlace} (g : DataW.trod enc Tryd.prog W base sp hd fuel 25 [a, b, c] = some y) : ∃ t n m : Int, a = .int .i64 t ∧ b = .int .i64 n ∧ c = .int .i64 m := by
  obtain ⟨y0, y1, y2, k, _, _, g0, g1, g2⟩ := trod_struct3 Tryd.underlying25 g
  simp [ci1] at g0 g1 g2
  obtain ⟨t, rfl⟩ := open_i g0
  obtain ⟨n, rfl⟩ := open_i g1
  obtain ⟨m, rfl⟩ := open_i g2
  exact ⟨t, n, m, rfl, rfl, rfl⟩
set_option maxRecDepth 100000 in
theorem open_cprog {H : Type} {enc : TypeId × Value → H} {W : World} {base : Nat} {sp : Nat → Bool} {hd : Bool} {fuel : Nat} {cs : List Value} {x : DataW H × List MemPlace} (hf : DataW.trod enc Tryd.prog W base sp hd fuel 23 cs = some x) :
    ∃ A c ps, cs = [.slice A (List.length ps) c] ∧ ProgAt W W.heap.size A ps ∧ SizedP ps := by
  rcases open_slice Tryd.underlying23 hf with ⟨rfl, _⟩ | ⟨a, len, cap, m, n, D, Pl, rfl, _, hl, hm, hmm, rfl, hx⟩
  · exact ⟨none, 0, [], rfl, ProgAt.nil _ _ _, by simp, by intro x hx; simp at hx⟩
  · have hlm : len ≤ m := by rw [hmm]; split <;> omega
    have ce : Tryd.prog.cellsOf 89 = 4 := by kernel_rfl
    have each : ∀ i, i < len → ∃ f : Fun, (W.cell? (a.add (i * 4)) = some (.int .i64 f.ar) ∧ W.cell? (a.add (i * 4 + 1)) = some (.int .i64 f.lo) ∧ W.cell? (a.add (i * 4 + 2)) = some (.int .i64 f.sl) ∧
        ∃ B c, W.cell? (a.add (i * 4 + 3)) = some (.slice B f.code.length c) ∧ CodeAt W W.heap.size B f.code) ∧ f.code.length ≤ maxLen := by
      intro i hi
      obtain ⟨cs', h1, h2⟩ := hx i (by omega)
      rw [ce] at h1
      obtain ⟨_, hlen, hcell⟩ := World.cells?_some h1
      obtain ⟨y0, y1, y2, y3, k, _, _, g0, g1, g2, g3⟩ := trod_struct4 Tryd.underlying89 h2
      match cs', hlen with
      | [v0, v1, v2, v3], _ =>
        have ci : Tryd.prog.cellsOf 3 = 1 := by kernel_rfl
        have cc : Tryd.prog.cellsOf 87 = 1 := by kernel_rfl
        simp [ci, cc] at g0 g1 g2 g3
        obtain ⟨n0, e0, _, _⟩ := DataW.trod_int Tryd.underlying3 g0
        obtain ⟨n1, e1, _, _⟩ := DataW.trod_int Tryd.underlying3 g1
        obtain ⟨n2, e2, _, _⟩ := DataW.trod_int Tryd.underlying3 g2
        obtain ⟨B, c, l, e3, hc, hz⟩ := open_code g3
        simp at e0 e1 e2 e3
        subst e0 e1 e2 e3
        have c0 := hcell 0 (by omega)
        have c1 := hcell 1 (by omega)
        have c2 := hcell 2 (by omega)
        have c3 := hcell 3 (by omega)
        rw [add_add] at c0 c1 c2 c3
        exact ⟨⟨n0, n1, n2, l⟩, ⟨by simpa using c0, by simpa using c1, by simpa using c2, B, c, by simpa using c3, hc⟩, hz⟩
    obtain ⟨q, hq⟩ := choose_lt each
    refine ⟨some a, cap, (List.range len).map q, by simp, fun h0 => ?_, by simp; omega, fun f hf => ?_⟩
    · have hlen : 0 < len := by simpa using h0
      obtain ⟨b, off, spot⟩ := a
      have hspot : spot = none := by simpa [Addr.add] using World.cell?_spot (hq 0 hlen).1.1
      subst hspot
      refine ⟨b, off, rfl, block_lt_of_cell (a := Addr.add ⟨b, off, none⟩ (0 * 4)) (hq 0 hlen).1.1, fun j hj => ?_⟩
      have hj' : j < len := by simpa using hj
      obtain ⟨⟨c0, c1, c2, B, c, c3, hc⟩, _⟩ := hq j hj'
      rw [addr_add] at c0 c1 c2 c3
      simp only [List.getElem_map, List.getElem_range]
      exact ⟨c0, c1, c2, B, c, c3, hc⟩
    · obtain ⟨i, hi, rfl⟩ := List.mem_map.1 hf
      exact (hq i (by simpa using hi)).2
set_option maxRecDepth 100000 in
theorem open_cpen {H : Type} {enc : TypeId × Value → H} {W : World} {base : Nat} {sp : Nat → Bool} {hd : Bool} {fuel : Nat} {a b c : Value} {y : DataW H × List MemPlace} (hf : DataW.trod enc Tryd.prog W base sp hd fuel 29 [a, b, c] = some y) :
    ∃ A c0 A2 c2 P, a = .slice A (Zp.cells P).length c0 ∧ b = .slice A2 P.free.length c2 ∧ c = .int .i64 P.most ∧ PAtZ W W.heap.size A A2 P ∧ P.cells.length ≤ maxLen ∧ P.free.length ≤ maxLen := by
  obtain ⟨y0, y1, y2, k, _, _, g0, g1, g2⟩ := trod_struct3 Tryd.underlying29 hf
  simp [ci1, ciCs, ciIs] at g0 g1 g2
  obtain ⟨A, c0, l0, q0, h0, m0⟩ := open_cels g0
  simp at q0
  subst q0
  obtain ⟨A2, c2, l2, q2, h2, m2⟩ := open_ints g1
  simp at q2
  subst q2
  obtain ⟨n, rfl⟩ := open_i g2
  exact ⟨A, c0, A2, c2, ⟨l0, l2, n⟩, rfl, rfl, rfl, ⟨h0, h2⟩, m0, m2⟩
set_option maxRecDepth 100000 in
theorem open_cring {H : Type} {enc : TypeId × Value → H} {W : World} {base : Nat} {sp : Nat → Bool} {hd : Bool} {fuel : Nat} {cs : List Value} {y : DataW H × List MemPlace} (hsz : cs.length = 4) (hf : DataW.trod enc Tryd.prog W base sp hd fuel 46 cs = some y) :
    ∃ A c r, cs = (rgc A (Rng.buf r).length c r.head r.many r.most).toList ∧ PAt W W.heap.size A r.buf := by
  match cs, hsz with
  | [c0, c1, c2, c3], _ =>
    obtain ⟨y0, y1, y2, y3, k, _, _, g0, g1, g2, g3⟩ := trod_struct4 Tryd.underlying46 hf
    simp [ci1r, ciRs] at g0 g1 g2 g3
    obtain ⟨A, c, l, h0, hP, _⟩ := open_refs g0
    obtain ⟨h', rfl⟩ := open_ir g1
    obtain ⟨m', rfl⟩ := open_ir g2
    obtain ⟨t', rfl⟩ := open_ir g3
    simp only [List.cons.injEq, and_true] at h0
    subst h0
    exact ⟨A, c, ⟨l, h', m', t'⟩, rfl, hP⟩
instance : Inhabited Rng := ⟨⟨[], 0, 0, 0⟩⟩
set_option maxRecDepth 100000 in
theorem open_rings {H : Type} {enc : TypeId × Value → H} {W : World} {base : Nat} {sp : Nat → Bool} {hd : Bool} {fuel : Nat} {cs : List Value} {x : DataW H × List MemPlace} (h : DataW.trod enc Tryd.prog W base sp hd fuel 30 cs = some x) : ∃ A c l, cs = [.slice A (List.length l) c] ∧ GAt W W.heap.size A l ∧ l.length ≤ maxLen := by
  rcases open_slice Tryd.underlying30 h with ⟨rfl, _⟩ | ⟨a, len, cap, m, n, D, Pl, rfl, _, hl, hm, hmm, rfl, hx⟩
  · exact ⟨none, 0, [], rfl, GAt.nil _ _ _, by simp⟩
  · have hlm : len ≤ m := by rw [hmm]; split <;> omega
    have each : ∀ i, i < len → ∃ q : Rng × Option Addr × Nat, PAt W W.heap.size q.2.1 q.1.buf ∧ ∀ k u, (rgc q.2.1 q.1.buf.length q.2.2 q.1.head q.1.many q.1.most).toList[k]? = some u → W.cell? (a.add (i * 4 + k)) = some u := by
      intro i hi
      obtain ⟨cs', h1, h2⟩ := hx i (by omega)
      rw [ciG] at h1
      obtain ⟨_, hlen, hcell⟩ := World.cells?_some h1
      obtain ⟨A, c, r, s4, s3⟩ := open_cring hlen h2
      refine ⟨(r, A, c), s3, fun k u hk => ?_⟩
      rw [← s4] at hk
      have hkl := (List.getElem?_eq_some_iff.1 hk).1
      have c0 := hcell k (by omega)
      rw [add_add] at c0
      rw [c0]
      exact hk
    obtain ⟨q, hq⟩ := choose_lt each
    refine ⟨some a, cap, (List.range len).map fun i => (q i).1, by simp, fun h0 => ?_, by simp; omega⟩
    have hlen : 0 < len := by simpa using h0
    obtain ⟨b, off, spot⟩ := a
    have h00 := (hq 0 hlen).2 0 _ rfl
    have hspot : spot = none := by simpa [Addr.add] using World.cell?_spot h00
    subst hspot
    have hlt := block_lt_of_cell (a := Addr.add ⟨b, off, none⟩ (0 * 4 + 0)) h00
    have hbl : b < W.heap.size := by rw [p_add] at hlt; exact hlt
    have row : ∃ xs : List Value, xs.length = len * 4 ∧ W.rangeAt b off xs ∧ ∀ i, i < len → ∀ k, k < 4 → xs[i * 4 + k]? = (rgc (q i).2.1 (q i).1.buf.length (q i).2.2 (q i).1.head (q i).1.many (q i).1.most).toList[k]? := by
      refine ⟨(List.range (len * 4)).map fun t => ((rgc (q (t / 4)).2.1 (q (t / 4)).1.buf.length (q (t / 4)).2.2 (q (t / 4)).1.head (q (t / 4)).1.many (q (t / 4)).1.most).toList[t % 4]?).getD (.bool false), by simp, fun t u ht => ?_, fun i hi k hk => ?_⟩
      · have htl := (List.getElem?_eq_some_iff.1 ht).1
        simp at htl
        rw [List.getElem?_map, List.getElem?_range htl] at ht
        simp only [Option.map_some, Option.some.injEq] at ht
        have hi : t / 4 < len := by omega
        have hk : t % 4 < (rgc (q (t / 4)).2.1 (q (t / 4)).1.buf.length (q (t / 4)).2.2 (q (t / 4)).1.head (q (t / 4)).1.many (q (t / 4)).1.most).toList.length := by simp; omega
        have h9 := (hq _ hi).2 (t % 4) _ (List.getElem?_eq_getElem hk)
        rw [List.getElem?_eq_getElem hk, Option.getD_some] at ht
        rw [ht, p_add, show off + (t / 4 * 4 + t % 4) = off + t by omega] at h9
        exact h9
      · rw [List.getElem?_map, List.getElem?_range (by omega)]
        simp only [Option.map_some]
        have e1 : (i * 4 + k) / 4 = i := by omega
        have e2 : (i * 4 + k) % 4 = k := by omega
        rw [e1, e2]
        have hk2 : k < (rgc (q i).2.1 (q i).1.buf.length (q i).2.2 (q i).1.head (q i).1.many (q i).1.most).toList.length := by simp; omega
        rw [List.getElem?_eq_getElem hk2, Option.getD_some]
    obtain ⟨xs, r1, r2, r3⟩ := row
    refine ⟨b, off, xs, rfl, hbl, r2, by simpa using r1, fun j hj => ?_⟩
    have hj' : j < len := by simpa using hj
    simp only [List.getElem_map, List.getElem_range]
    exact ⟨(q j).2.1, (q j).2.2, (hq j hj').1, fun i hi => r3 j hj' i hi⟩
set_option maxRecDepth 100000 in
theorem list19 {α : Type} {cs : List α} (h : cs.length = 19) : ∃ c0 c1 c2 c3 c4 c5 c6 c7 c8 c9 c10 c11 c12 c13 c14 c15 c16 c17 c18, cs = [c0, c1, c2, c3, c4, c5, c6, c7, c8, c9, c10, c11, c12, c13, c14, c15, c16, c17, c18] := by
  match cs, h with
  | [c0, c1, c2, c3, c4, c5, c6, c7, c8, c9, c10, c11, c12, c13, c14, c15, c16, c17, c18], _ => exact ⟨c0, c1, c2, c3, c4, c5, c6, c7, c8, c9, c10, c11, c12, c13, c14, c15, c16, c17, c18, rfl⟩
set_option maxHeartbeats 4000000 in
set_option maxRecDepth 100000 in
/-- A world's cells, opened. -/
theorem open_wcells {H : Type} {enc : TypeId × Value → H} {W : World} {base : Nat} {sp : Nat → Bool} {hd : Bool} {fuel : Nat} {cs : List Value} {y : DataW H × List MemPlace} (hsz : cs.length = 19)
    (hf : DataW.trod enc Tryd.prog W base sp hd fuel 40 cs = some y) : ∃ a U, cs = (wcs a U).toList ∧ WAt W W.heap.size a U ∧ SzW U := by
  obtain ⟨c0, c1, c2, c3, c4, c5, c6, c7, c8, c9, c10, c11, c12, c13, c14, c15, c16, c17, c18, rfl⟩ := list19 hsz
  obtain ⟨xs, n, _, _, hl, hlen, hg⟩ := DataW.trod_struct Tryd.underlying40 hf
  have hx : ∀ i, i < 12 → ∃ y, xs[i]? = some y := fun i hi => ⟨xs[i]'(by rw [hlen]; exact hi), List.getElem?_eq_getElem _⟩
  clear hf hl hsz
  obtain ⟨y0, e0⟩ := hx 0 (by omega)
  have g0 := (hg 0 _ rfl).trans e0
  simp [ci1, ci2, ci3, ciPg, ciLm, ciGs, ciEr, ciP, ciRs, ciVs, ciCs] at g0
  obtain ⟨y1, e1⟩ := hx 1 (by omega)
  have g1 := (hg 1 _ rfl).trans e1
  simp [ci1, ci2, ci3, ciPg, ciLm, ciGs, ciEr, ciP, ciRs, ciVs, ciCs] at g1
  obtain ⟨y2, e2⟩ := hx 2 (by omega)
  have g2 := (hg 2 _ rfl).trans e2
  simp [ci1, ci2, ci3, ciPg, ciLm, ciGs, ciEr, ciP, ciRs, ciVs, ciCs] at g2
  obtain ⟨y3, e3⟩ := hx 3 (by omega)
  have g3 := (hg 3 _ rfl).trans e3
  simp [ci1, ci2, ci3, ciPg, ciLm, ciGs, ciEr, ciP, ciRs, ciVs, ciCs] at g3
  obtain ⟨y4, e4⟩ := hx 4 (by omega)
  have g4 := (hg 4 _ rfl).trans e4
  simp [ci1, ci2, ci3, ciPg, ciLm, ciGs, ciEr, ciP, ciRs, ciVs, ciCs] at g4
  obtain ⟨y5, e5⟩ := hx 5 (by omega)
  have g5 := (hg 5 _ rfl).trans e5
  simp [ci1, ci2, ci3, ciPg, ciLm, ciGs, ciEr, ciP, ciRs, ciVs, ciCs] at g5
  obtain ⟨y6, e6⟩ := hx 6 (by omega)
  have g6 := (hg 6 _ rfl).trans e6
  simp [ci1, ci2, ci3, ciPg, ciLm, ciGs, ciEr, ciP, ciRs, ciVs, ciCs] at g6
  obtain ⟨y7, e7⟩ := hx 7 (by omega)
  have g7 := (hg 7 _ rfl).trans e7
  simp [ci1, ci2, ci3, ciPg, ciLm, ciGs, ciEr, ciP, ciRs, ciVs, ciCs] at g7
  obtain ⟨y8, e8⟩ := hx 8 (by omega)
  have g8 := (hg 8 _ rfl).trans e8
  simp [ci1, ci2, ci3, ciPg, ciLm, ciGs, ciEr, ciP, ciRs, ciVs, ciCs] at g8
  obtain ⟨y9, e9⟩ := hx 9 (by omega)
  have g9 := (hg 9 _ rfl).trans e9
  simp [ci1, ci2, ci3, ciPg, ciLm, ciGs, ciEr, ciP, ciRs, ciVs, ciCs] at g9
  obtain ⟨y10, e10⟩ := hx 10 (by omega)
  have g10 := (hg 10 _ rfl).trans e10
  simp [ci1, ci2, ci3, ciPg, ciLm, ciGs, ciEr, ciP, ciRs, ciVs, ciCs] at g10
  obtain ⟨y11, e11⟩ := hx 11 (by omega)
  have g11 := (hg 11 _ rfl).trans e11
  simp [ci1, ci2, ci3, ciPg, ciLm, ciGs, ciEr, ciP, ciRs, ciVs, ciCs] at g11
  obtain ⟨A0, k0, l0, q0, h0, z0⟩ := open_cprog g0
  simp at q0
  subst q0
  obtain ⟨lf, lm, lr, rfl, rfl, rfl⟩ := open_lim3 g1
  obtain ⟨A2, k2, A3, k3, P, rfl, rfl, rfl, h2, z2, z3⟩ := open_cpen g2
  obtain ⟨A4, k4, l4, q4, h4, z4⟩ := open_rings g3
  simp at q4
  subst q4
  obtain ⟨A5, k5, l5, q5, h5, z5, _⟩ := open_refs g4
  simp at q5
  subst q5
  obtain ⟨r1, r2, rfl, rfl⟩ := open_ref2 g5
  obtain ⟨n6, rfl⟩ := open_i g6
  obtain ⟨n7, rfl⟩ := open_i g7
  obtain ⟨t1, t2, t3, rfl, rfl, rfl⟩ := open_out3 g8
  obtain ⟨n9, rfl⟩ := open_eno g9
  obtain ⟨n10, rfl⟩ := open_i g10
  obtain ⟨n11, rfl⟩ := open_i g11
  exact ⟨⟨A0, k0, A2, k2, A3, k3, A4, k4, A5, k5⟩, { prog := l0, lf := lf, lm := lm, lr := lr, pen := P, rings := l4, cur := l5, root := (r1, r2), used := n6, st := n7, otr := t1, ore := t2, oim := t3, err := n9, stl := n10, mis := n11 }, rfl, ⟨h0, h2, h4, h5⟩, ⟨z0, z2, z3, z4, z5⟩⟩
set_option maxRecDepth 100000 in
/-- A world, opened. -/
theorem open_world {H : Type} {enc : TypeId × Value → H} {W : World} {base : Nat} {v : Value} {d : DataW H} {p : List MemPlace}
    (k : Value.okWide Tryd.prog W .any base 40 v) (h : DataW.Trod enc Tryd.prog W 0 (fun _ => true) true 40 v d p) : ∃ a U, v = .agg (wcs a U) ∧ WAt W W.heap.size a U ∧ SzW U := by
  obtain ⟨cs, rfl, hsz⟩ := okWide_struct Tryd.underlying40 k
  obtain ⟨fuel, hf⟩ := h
  obtain ⟨a, U, h1, h2, h3⟩ := open_wcells (cs := cs.toList) (by rw [Array.length_toList]; exact hsz.trans ciWd) hf
  exact ⟨a, U, congrArg Value.agg (Array.toList_inj.1 h1), h2, h3⟩
set_option maxRecDepth 100000 in
/-- Limits, opened. -/
theorem open_limits {H : Type} {enc : TypeId × Value → H} {W : World} {base : Nat} {v : Value} {d : DataW H} {p : List MemPlace}
    (k : Value.okWide Tryd.prog W .any base 25 v) (h : DataW.Trod enc Tryd.prog W 0 (fun _ => true) true 25 v d p) : ∃ lf lm lr : Int, v = .agg (lmc lf lm lr) := by
  obtain ⟨cs, rfl, hsz⟩ := okWide_struct Tryd.underlying25 k
  obtain ⟨fuel, hf⟩ := h
  obtain ⟨l⟩ := cs
  match l, hsz.trans ciLm with
  | [a, b, c], _ =>
    obtain ⟨t, n, m, rfl, rfl, rfl⟩ := open_lim3 hf
    exact ⟨t, n, m, rfl⟩
end Go.Proofs.YtjibkgildfjjoaaDoor

