/- Layer 9: arguments that are frames, lists of values, opened. -/
import Derived.Test.YtjnbockdfjhfgaaDoorzHb
import Derived.Test.YtjnbockdfjhfgaaDoorzHc
namespace Go.Proofs.YtjnbockdfjhfgaaDoor
set_option linter.unusedVariables false
set_option linter.unusedSimpArgs false
open Gm Go.RowKit Go.ChangeShapes Go.WideShapes Go.ChangeAt Go.Deep Go.Joins

section
variable {H : Type} {enc : TypeId × Value → H} {W : World} {base : Nat} {sp : Nat → Bool} {hd : Bool} {fuel : Nat}
theorem ci1 : Tryd.prog.cellsOf 3 = 1 := by kernel_rfl
theorem ci2 : Tryd.prog.cellsOf 38 = 2 := by kernel_rfl
theorem ci3 : Tryd.prog.cellsOf 36 = 3 := by kernel_rfl
theorem ciV : Tryd.prog.cellsOf 33 = 2 := by kernel_rfl
theorem ciS : Tryd.prog.cellsOf 60 = 6 := by kernel_rfl
theorem ciF : Tryd.prog.cellsOf 40 = 16 := by kernel_rfl
theorem ciVs : Tryd.prog.cellsOf 28 = 1 := by kernel_rfl
theorem ciSs : Tryd.prog.cellsOf 34 = 1 := by kernel_rfl
theorem open_i {c : Value} {y : DataW H × List MemPlace} (g : DataW.trod enc Tryd.prog W base sp hd fuel 3 [c] = some y) : ∃ n : Int, c = .int .i64 n := by
  obtain ⟨n0, e0, _, _⟩ := DataW.trod_int Tryd.underlying3 g
  simp at e0
  exact ⟨n0, e0⟩
theorem open_ref2 {a b : Value} {y : DataW H × List MemPlace} (g : DataW.trod enc Tryd.prog W base sp hd fuel 38 [a, b] = some y) : ∃ n m : Int, a = .int .i64 n ∧ b = .int .i64 m := by
  obtain ⟨y0, y1, k, _, _, g0, g1⟩ := trod_struct2 Tryd.underlying38 g
  simp [ci1] at g0 g1
  obtain ⟨n, rfl⟩ := open_i g0
  obtain ⟨m, rfl⟩ := open_i g1
  exact ⟨n, m, rfl, rfl⟩
theorem open_val2 {a b : Value} {y : DataW H × List MemPlace} (g : DataW.trod enc Tryd.prog W base sp hd fuel 33 [a, b] = some y) : ∃ n m : Int, a = .int .i64 n ∧ b = .int .i64 m := by
  obtain ⟨y0, y1, k, _, _, g0, g1⟩ := trod_struct2 Tryd.underlying33 g
  simp [ci1] at g0 g1
  obtain ⟨n, rfl⟩ := open_i g0
  obtain ⟨m, rfl⟩ := open_i g1
  exact ⟨n, m, rfl, rfl⟩
theorem open_out3 {a b c : Value} {y : DataW H × List MemPlace} (g : DataW.trod enc Tryd.prog W base sp hd fuel 36 [a, b, c] = some y) : ∃ t n m : Int, a = .int .i64 t ∧ b = .int .i64 n ∧ c = .int .i64 m := by
  obtain ⟨y0, y1, k, _, _, g0, g1⟩ := trod_struct2 Tryd.underlying36 g
  simp [ci1, ciV] at g0 g1
  obtain ⟨t, rfl⟩ := open_i g0
  obtain ⟨n, m, rfl, rfl⟩ := open_val2 g1
  exact ⟨t, n, m, rfl, rfl, rfl⟩
theorem open_slot6 {a b c d e f : Value} {y : DataW H × List MemPlace} (g : DataW.trod enc Tryd.prog W base sp hd fuel 60 [a, b, c, d, e, f] = some y) :
    ∃ s : Slt, a = .int .i64 s.st ∧ b = .int .i64 s.kat ∧ c = .int .i64 s.kgn ∧ d = .int .i64 s.tr ∧ e = .int .i64 s.re ∧ f = .int .i64 s.im := by
  obtain ⟨y0, y1, y2, k, _, _, g0, g1, g2⟩ := trod_struct3 Tryd.underlying60 g
  simp [ci1, ci2, ci3] at g0 g1 g2
  obtain ⟨n0, rfl⟩ := open_i g0
  obtain ⟨n1, n2, rfl, rfl⟩ := open_ref2 g1
  obtain ⟨n3, n4, n5, rfl, rfl, rfl⟩ := open_out3 g2
  exact ⟨⟨n0, n1, n2, n3, n4, n5⟩, rfl, rfl, rfl, rfl, rfl, rfl⟩
instance : Inhabited Slt := ⟨slt0⟩
set_option maxRecDepth 100000 in
theorem open_vals {cs : List Value} {x : DataW H × List MemPlace} (h : DataW.trod enc Tryd.prog W base sp hd fuel 28 cs = some x) : ∃ A c l, cs = [.slice A l.length c] ∧ VAt W W.heap.size A l ∧ l.length ≤ maxLen := by
  rcases open_slice Tryd.underlying28 h with ⟨rfl, _⟩ | ⟨a, len, cap, m, n, D, Pl, rfl, _, hl, hm, hmm, rfl, hx⟩
  · exact ⟨none, 0, [], rfl, VAt.nil _ _ _, by simp⟩
  · have hlm : len ≤ m := by rw [hmm]; split <;> omega
    have each : ∀ i, i < len → ∃ q : V, W.cell? (a.add (i * 2)) = some (.int .i64 q.1) ∧ W.cell? (a.add (i * 2 + 1)) = some (.int .i64 q.2) := by
      intro i hi
      obtain ⟨cs', h1, h2⟩ := hx i (by omega)
      rw [ciV] at h1
      obtain ⟨_, hlen, hcell⟩ := World.cells?_some h1
      match cs', hlen with
      | [v0, v1], _ =>
        obtain ⟨n0, n1, rfl, rfl⟩ := open_val2 h2
        have c0 := hcell 0 (by omega)
        have c1 := hcell 1 (by omega)
        rw [add_add] at c0 c1
        exact ⟨(n0, n1), by simpa using c0, by simpa using c1⟩
    obtain ⟨q, hq⟩ := choose_lt each
    refine ⟨some a, cap, (List.range len).map q, by simp, fun h0 => ?_, by simp; omega⟩
    have hlen : 0 < len := by simpa using h0
    obtain ⟨b, off, spot⟩ := a
    have hspot : spot = none := by simpa [Addr.add] using World.cell?_spot (hq 0 hlen).1
    subst hspot
    refine ⟨b, off, rfl, block_lt_of_cell (a := Addr.add ⟨b, off, none⟩ (0 * 2)) (hq 0 hlen).1, fun j hj => ?_⟩
    have hj' : j < len := by simpa using hj
    obtain ⟨c0, c1⟩ := hq j hj'
    rw [addr_add] at c0 c1
    simp only [List.getElem_map, List.getElem_range]
    exact ⟨c0, c1⟩
set_option maxRecDepth 100000 in
theorem open_slots {cs : List Value} {x : DataW H × List MemPlace} (h : DataW.trod enc Tryd.prog W base sp hd fuel 34 cs = some x) : ∃ A c l, cs = [.slice A l.length c] ∧ SAt W W.heap.size A l ∧ l.length ≤ maxLen := by
  rcases open_slice Tryd.underlying34 h with ⟨rfl, _⟩ | ⟨a, len, cap, m, n, D, Pl, rfl, _, hl, hm, hmm, rfl, hx⟩
  · exact ⟨none, 0, [], rfl, SAt.nil _ _ _, by simp⟩
  · have hlm : len ≤ m := by rw [hmm]; split <;> omega
    have each : ∀ i, i < len → ∃ q : Slt, W.cell? (a.add (i * 6)) = some (.int .i64 q.st) ∧ W.cell? (a.add (i * 6 + 1)) = some (.int .i64 q.kat) ∧ W.cell? (a.add (i * 6 + 2)) = some (.int .i64 q.kgn) ∧ W.cell? (a.add (i * 6 + 3)) = some (.int .i64 q.tr) ∧ W.cell? (a.add (i * 6 + 4)) = some (.int .i64 q.re) ∧ W.cell? (a.add (i * 6 + 5)) = some (.int .i64 q.im) := by
      intro i hi
      obtain ⟨cs', h1, h2⟩ := hx i (by omega)
      rw [ciS] at h1
      obtain ⟨_, hlen, hcell⟩ := World.cells?_some h1
      match cs', hlen with
      | [v0, v1, v2, v3, v4, v5], _ =>
        obtain ⟨s, rfl, rfl, rfl, rfl, rfl, rfl⟩ := open_slot6 h2
        have c0 := hcell 0 (by omega)
        have c1 := hcell 1 (by omega)
        have c2 := hcell 2 (by omega)
        have c3 := hcell 3 (by omega)
        have c4 := hcell 4 (by omega)
        have c5 := hcell 5 (by omega)
        rw [add_add] at c0 c1 c2 c3 c4 c5
        exact ⟨s, by simpa using c0, by simpa using c1, by simpa using c2, by simpa using c3, by simpa using c4, by simpa using c5⟩
    obtain ⟨q, hq⟩ := choose_lt each
    refine ⟨some a, cap, (List.range len).map q, by simp, fun h0 => ?_, by simp; omega⟩
    have hlen : 0 < len := by simpa using h0
    obtain ⟨b, off, spot⟩ := a
    have hspot : spot = none := by simpa [Addr.add] using World.cell?_spot (hq 0 hlen).1
    subst hspot
    refine ⟨b, off, rfl, block_lt_of_cell (a := Addr.add ⟨b, off, none⟩ (0 * 6)) (hq 0 hlen).1, fun j hj => ?_⟩
    have hj' : j < len := by simpa using hj
    obtain ⟨c0, c1, c2, c3, c4, c5⟩ := hq j hj'
    rw [addr_add] at c0 c1 c2 c3 c4 c5
    simp only [List.getElem_map, List.getElem_range]
    exact ⟨c0, c1, c2, c3, c4, c5⟩
end
theorem array16 {α : Type} {cs : Array α} (h : cs.size = 16) : ∃ c0 c1 c2 c3 c4 c5 c6 c7 c8 c9 c10 c11 c12 c13 c14 c15, cs = #[c0, c1, c2, c3, c4, c5, c6, c7, c8, c9, c10, c11, c12, c13, c14, c15] := by
  obtain ⟨l⟩ := cs
  match l, h with
  | [c0, c1, c2, c3, c4, c5, c6, c7, c8, c9, c10, c11, c12, c13, c14, c15], _ => exact ⟨c0, c1, c2, c3, c4, c5, c6, c7, c8, c9, c10, c11, c12, c13, c14, c15, rfl⟩
set_option maxHeartbeats 2000000 in
set_option maxRecDepth 100000 in
/-- A frame, opened. -/
theorem open_frame {H : Type} {enc : TypeId × Value → H} {W : World} {base : Nat} {v : Value} {d : DataW H} {p : List MemPlace}
    (k : Value.okWide Tryd.prog W .any base 40 v) (h : DataW.Trod enc Tryd.prog W 0 (fun _ => true) true 40 v d p) : ∃ f : Frm, FrmAt W W.heap.size v f := by
  obtain ⟨cs, rfl, hsz⟩ := okWide_struct Tryd.underlying40 k
  obtain ⟨c0, c1, c2, c3, c4, c5, c6, c7, c8, c9, c10, c11, c12, c13, c14, c15, rfl⟩ := array16 (hsz.trans ciF)
  obtain ⟨fuel, hf⟩ := h
  obtain ⟨xs, n, _, _, hl, hlen, hg⟩ := DataW.trod_struct Tryd.underlying40 hf
  have hx : ∀ i, i < 13 → ∃ y, xs[i]? = some y := fun i hi => ⟨xs[i]'(by rw [hlen]; exact hi), List.getElem?_eq_getElem _⟩
  simp only [Value.cells] at hg
  clear hf hl hsz k
  obtain ⟨y0, e0⟩ := hx 0 (by omega)
  have g0 := (hg 0 _ rfl).trans e0
  simp [ci1, ci2, ci3, ciVs, ciSs] at g0
  obtain ⟨y1, e1⟩ := hx 1 (by omega)
  have g1 := (hg 1 _ rfl).trans e1
  simp [ci1, ci2, ci3, ciVs, ciSs] at g1
  obtain ⟨y2, e2⟩ := hx 2 (by omega)
  have g2 := (hg 2 _ rfl).trans e2
  simp [ci1, ci2, ci3, ciVs, ciSs] at g2
  obtain ⟨y3, e3⟩ := hx 3 (by omega)
  have g3 := (hg 3 _ rfl).trans e3
  simp [ci1, ci2, ci3, ciVs, ciSs] at g3
  obtain ⟨y4, e4⟩ := hx 4 (by omega)
  have g4 := (hg 4 _ rfl).trans e4
  simp [ci1, ci2, ci3, ciVs, ciSs] at g4
  obtain ⟨y5, e5⟩ := hx 5 (by omega)
  have g5 := (hg 5 _ rfl).trans e5
  simp [ci1, ci2, ci3, ciVs, ciSs] at g5
  obtain ⟨y6, e6⟩ := hx 6 (by omega)
  have g6 := (hg 6 _ rfl).trans e6
  simp [ci1, ci2, ci3, ciVs, ciSs] at g6
  obtain ⟨y7, e7⟩ := hx 7 (by omega)
  have g7 := (hg 7 _ rfl).trans e7
  simp [ci1, ci2, ci3, ciVs, ciSs] at g7
  obtain ⟨y8, e8⟩ := hx 8 (by omega)
  have g8 := (hg 8 _ rfl).trans e8
  simp [ci1, ci2, ci3, ciVs, ciSs] at g8
  obtain ⟨y9, e9⟩ := hx 9 (by omega)
  have g9 := (hg 9 _ rfl).trans e9
  simp [ci1, ci2, ci3, ciVs, ciSs] at g9
  obtain ⟨y10, e10⟩ := hx 10 (by omega)
  have g10 := (hg 10 _ rfl).trans e10
  simp [ci1, ci2, ci3, ciVs, ciSs] at g10
  obtain ⟨y11, e11⟩ := hx 11 (by omega)
  have g11 := (hg 11 _ rfl).trans e11
  simp [ci1, ci2, ci3, ciVs, ciSs] at g11
  obtain ⟨y12, e12⟩ := hx 12 (by omega)
  have g12 := (hg 12 _ rfl).trans e12
  simp [ci1, ci2, ci3, ciVs, ciSs] at g12
  obtain ⟨n0, rfl⟩ := open_i g0
  obtain ⟨n1, rfl⟩ := open_i g1
  obtain ⟨A2, k2, l2, q2, h2, _⟩ := open_vals g2
  simp at q2
  subst q2
  obtain ⟨A3, k3, l3, q3, h3, _⟩ := open_vals g3
  simp at q3
  subst q3
  obtain ⟨A4, k4, l4, q4, h4, _⟩ := open_slots g4
  simp at q4
  subst q4
  obtain ⟨n5, rfl⟩ := open_i g5
  obtain ⟨n6, rfl⟩ := open_i g6
  obtain ⟨n7, rfl⟩ := open_i g7
  obtain ⟨n8, rfl⟩ := open_i g8
  obtain ⟨n9, rfl⟩ := open_i g9
  obtain ⟨t1, t2, t3, rfl, rfl, rfl⟩ := open_out3 g10
  obtain ⟨r1, r2, rfl, rfl⟩ := open_ref2 g11
  obtain ⟨n12, rfl⟩ := open_i g12
  exact ⟨⟨n0, n1, l2, l3, l4, n5, n6, n7, n8, n9, t1, t2, t3, r1, r2, n12⟩, A2, k2, A3, k3, A4, k4, rfl, h2, h3, h4⟩
end Go.Proofs.YtjnbockdfjhfgaaDoor

/- Layer 9: an array of two numbers, of two ends, opened; an end. -/
namespace Go.Proofs.YtjnbockdfjhfgaaDoor
set_option linter.unusedVariables false
set_option linter.unusedSimpArgs false
open Gm Go.RowKit Go.ChangeShapes Go.WideShapes Go.ChangeAt Go.Deep Go.Joins

theorem ciA : Tryd.prog.cellsOf 56 = 2 := by kernel_rfl
theorem ciB : Tryd.prog.cellsOf 57 = 6 := by kernel_rfl
theorem okWide_arr {P : Program} {W : World} {base : Nat} {t e : TypeId} {n : Nat} {v : Value} (ht : P.underlying t = some (.array n e)) (k : Value.okWide P W .any base t v) : ∃ cs, v = .agg cs ∧ cs.size = P.cellsOf t := by
  simp only [Value.okWide, ht] at k
  obtain ⟨cs, h1, h2, _⟩ := k
  exact ⟨cs, h1, h2⟩
theorem array2 {α : Type} {cs : Array α} (h : cs.size = 2) : ∃ a b, cs = #[a, b] := by
  obtain ⟨l⟩ := cs
  match l, h with
  | [a, b], _ => exact ⟨a, b, rfl⟩
theorem array3 {α : Type} {cs : Array α} (h : cs.size = 3) : ∃ a b c, cs = #[a, b, c] := by
  obtain ⟨l⟩ := cs
  match l, h with
  | [a, b, c], _ => exact ⟨a, b, c, rfl⟩
theorem array6 {α : Type} {cs : Array α} (h : cs.size = 6) : ∃ a b c d e f, cs = #[a, b, c, d, e, f] := by
  obtain ⟨l⟩ := cs
  match l, h with
  | [a, b, c, d, e, f], _ => exact ⟨a, b, c, d, e, f, rfl⟩
set_option maxRecDepth 100000 in
theorem open_int2 {H : Type} {enc : TypeId × Value → H} {W : World} {base : Nat} {v : Value} {d : DataW H} {p : List MemPlace}
    (k : Value.okWide Tryd.prog W .any base 56 v) (h : DataW.Trod enc Tryd.prog W 0 (fun _ => true) true 56 v d p) : ∃ a b : Int, v = .agg #[.int .i64 a, .int .i64 b] := by
  obtain ⟨cs, rfl, hsz⟩ := okWide_arr Tryd.underlying56 k
  obtain ⟨c0, c1, rfl⟩ := array2 (hsz.trans ciA)
  obtain ⟨fuel, hf⟩ := h
  obtain ⟨xs, n, _, _, hl, hlen, hg⟩ := DataW.trod_array Tryd.underlying56 hf
  have hx : ∀ i, i < 2 → ∃ y, xs[i]? = some y := fun i hi => ⟨xs[i]'(by rw [hlen]; exact hi), List.getElem?_eq_getElem _⟩
  simp only [Value.cells] at hg
  obtain ⟨y0, e0⟩ := hx 0 (by omega)
  have g0 := (hg 0 (by omega)).trans e0
  obtain ⟨y1, e1⟩ := hx 1 (by omega)
  have g1 := (hg 1 (by omega)).trans e1
  simp [ci1] at g0 g1
  obtain ⟨a, rfl⟩ := open_i g0
  obtain ⟨b, rfl⟩ := open_i g1
  exact ⟨a, b, rfl⟩
set_option maxRecDepth 100000 in
theorem open_outs2 {H : Type} {enc : TypeId × Value → H} {W : World} {base : Nat} {v : Value} {d : DataW H} {p : List MemPlace}
    (k : Value.okWide Tryd.prog W .any base 57 v) (h : DataW.Trod enc Tryd.prog W 0 (fun _ => true) true 57 v d p) : ∃ a b c a2 b2 c2 : Int, v = .agg #[.int .i64 a, .int .i64 b, .int .i64 c, .int .i64 a2, .int .i64 b2, .int .i64 c2] := by
  obtain ⟨cs, rfl, hsz⟩ := okWide_arr Tryd.underlying57 k
  obtain ⟨c0, c1, c2, c3, c4, c5, rfl⟩ := array6 (hsz.trans ciB)
  obtain ⟨fuel, hf⟩ := h
  obtain ⟨xs, n, _, _, hl, hlen, hg⟩ := DataW.trod_array Tryd.underlying57 hf
  have hx : ∀ i, i < 2 → ∃ y, xs[i]? = some y := fun i hi => ⟨xs[i]'(by rw [hlen]; exact hi), List.getElem?_eq_getElem _⟩
  simp only [Value.cells] at hg
  obtain ⟨y0, e0⟩ := hx 0 (by omega)
  have g0 := (hg 0 (by omega)).trans e0
  obtain ⟨y1, e1⟩ := hx 1 (by omega)
  have g1 := (hg 1 (by omega)).trans e1
  simp [ci3] at g0 g1
  obtain ⟨a, b, c, rfl, rfl, rfl⟩ := open_out3 g0
  obtain ⟨d, e, f, rfl, rfl, rfl⟩ := open_out3 g1
  exact ⟨a, b, c, d, e, f, rfl⟩
set_option maxRecDepth 100000 in
theorem open_out1 {H : Type} {enc : TypeId × Value → H} {W : World} {base : Nat} {v : Value} {d : DataW H} {p : List MemPlace}
    (k : Value.okWide Tryd.prog W .any base 36 v) (h : DataW.Trod enc Tryd.prog W 0 (fun _ => true) true 36 v d p) : ∃ a b c : Int, v = outv a b c := by
  obtain ⟨cs, rfl, hsz⟩ := okWide_struct Tryd.underlying36 k
  obtain ⟨c0, c1, c2, rfl⟩ := array3 (hsz.trans ci3)
  obtain ⟨fuel, hf⟩ := h
  simp only [Value.cells] at hf
  obtain ⟨a, b, c, rfl, rfl, rfl⟩ := open_out3 hf
  exact ⟨a, b, c, rfl⟩
end Go.Proofs.YtjnbockdfjhfgaaDoor

