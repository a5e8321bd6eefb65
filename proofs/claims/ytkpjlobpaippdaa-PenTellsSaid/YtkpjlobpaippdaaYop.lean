/- Layer 12: arguments that are frames, pens, opened. -/
import Derived.Test.YtkpjlobpaippdaaYn
import Derived.Lib.SmallJoins
import Derived.Deep.SlicePairs
import Derived.Laws.Rows
import Derived.Test.YtkpjlobpaippdaaVal
namespace Go.Proofs.Ytkpjlobpaippdaa
set_option linter.unusedVariables false
set_option linter.unusedSimpArgs false
open Go.RowKit Go.ChangeShapes Go.WideShapes Go.ChangeAt Go.Deep Go.Joins

section
variable {H : Type} {enc : TypeId × Value → H} {W : World} {base : Nat} {sp : Nat → Bool} {hd : Bool} {fuel : Nat}
theorem ci1 : Try.prog.cellsOf 3 = 1 := by kernel_rfl
theorem ci2 : Try.prog.cellsOf 27 = 2 := by kernel_rfl
theorem ci3 : Try.prog.cellsOf 33 = 3 := by kernel_rfl
theorem ciV : Try.prog.cellsOf 31 = 2 := by kernel_rfl
theorem ciS : Try.prog.cellsOf 72 = 6 := by kernel_rfl
theorem ciF : Try.prog.cellsOf 35 = 16 := by kernel_rfl
theorem ciVs : Try.prog.cellsOf 28 = 1 := by kernel_rfl
theorem ciSs : Try.prog.cellsOf 29 = 1 := by kernel_rfl
theorem open_i {c : Value} {y : DataW H × List MemPlace} (g : DataW.trod enc Try.prog W base sp hd fuel 3 [c] = some y) : ∃ n : Int, c = .int .i64 n := by
  obtain ⟨n0, e0, _, _⟩ := DataW.trod_int Try.underlying3 g
  simp at e0
  exact ⟨n0, e0⟩
theorem open_ref2 {a b : Value} {y : DataW H × List MemPlace} (g : DataW.trod enc Try.prog W base sp hd fuel 27 [a, b] = some y) : ∃ n m : Int, a = .int .i64 n ∧ b = .int .i64 m := by
  obtain ⟨y0, y1, k, _, _, g0, g1⟩ := trod_struct2 Try.underlying27 g
  simp [ci1] at g0 g1
  obtain ⟨n, rfl⟩ := open_i g0
  obtain ⟨m, rfl⟩ := open_i g1
  exact ⟨n, m, rfl, rfl⟩
theorem open_val2 {a b : Value} {y : DataW H × List MemPlace} (g : DataW.trod enc Try.prog W base sp hd fuel 31 [a, b] = some y) : ∃ n m : Int, a = .int .i64 n ∧ b = .int .i64 m := by
  obtain ⟨y0, y1, k, _, _, g0, g1⟩ := trod_struct2 Try.underlying31 g
  simp [ci1] at g0 g1
  obtain ⟨n, rfl⟩ := open_i g0
  obtain ⟨m, rfl⟩ := open_i g1
  exact ⟨n, m, rfl, rfl⟩
theorem open_out3 {a b c : Value} {y : DataW H × List MemPlace} (g : DataW.trod enc Try.prog W base sp hd fuel 33 [a, b, c] = some y) : ∃ t n m : Int, a = .int .i64 t ∧ b = .int .i64 n ∧ c = .int .i64 m := by
  obtain ⟨y0, y1, k, _, _, g0, g1⟩ := trod_struct2 Try.underlying33 g
  simp [ci1, ciV] at g0 g1
  obtain ⟨t, rfl⟩ := open_i g0
  obtain ⟨n, m, rfl, rfl⟩ := open_val2 g1
  exact ⟨t, n, m, rfl, rfl, rfl⟩
theorem open_slot6 {a b c d e f : Value} {y : DataW H × List MemPlace} (g : DataW.trod enc Try.prog W base sp hd fuel 72 [a, b, c, d, e, f] = some y) :
    ∃ s : Slt, a = .int .i64 s.st ∧ b = .int .i64 s.kat ∧ c = .int .i64 s.kgn ∧ d = .int .i64 s.tr ∧ e = .int .i64 s.re ∧ f = .int .i64 s.im := by
  obtain ⟨y0, y1, y2, k, _, _, g0, g1, g2⟩ := trod_struct3 Try.underlying72 g
  simp [ci1, ci2, ci3] at g0 g1 g2
  obtain ⟨n0, rfl⟩ := open_i g0
  obtain ⟨n1, n2, rfl, rfl⟩ := open_ref2 g1
  obtain ⟨n3, n4, n5, rfl, rfl, rfl⟩ := open_out3 g2
  exact ⟨⟨n0, n1, n2, n3, n4, n5⟩, rfl, rfl, rfl, rfl, rfl, rfl⟩
instance : Inhabited Slt := ⟨⟨0, 0, 0, 0, 0, 0⟩⟩
set_option maxRecDepth 100000 in
theorem open_vals {cs : List Value} {x : DataW H × List MemPlace} (h : DataW.trod enc Try.prog W base sp hd fuel 28 cs = some x) : ∃ A c l, cs = [.slice A l.length c] ∧ VAt W W.heap.size A l ∧ l.length ≤ maxLen := by
  rcases open_slice Try.underlying28 h with ⟨rfl, _⟩ | ⟨a, len, cap, m, n, D, Pl, rfl, _, hl, hm, hmm, rfl, hx⟩
  · exact ⟨none, 0, [], rfl, VAt.nil _ _ _, by simp⟩
  · have hlm : len ≤ m := by rw [hmm]; split <;> omega
    have each : ∀ i, i < len → ∃ q : V, W.cell? (a.add (i * 2)) = some (.int .i64 q.1) ∧ W.cell? (a.add (i * 2 + 1)) = some (.int .i64 q.2) := by
      intro i hi
      obtain ⟨cs', h1, h2⟩ := hx i (by omega)
      rw [ciV] at h1
      obtain ⟨_, hlen, hcell⟩ := World.cells?_some h1
      match cs', hlen with
      | [v0, v1], _ =>
        obtain ⟨n0, n1, rfl, rfl⟩ := open_val2 h2
        have c0 := hcell 0 (by omega)
        have c1 := hcell 1 (by omega)
        rw [add_add] at c0 c1
        exact ⟨(n0, n1), by simpa using c0, by simpa using c1⟩
    obtain ⟨q, hq⟩ := choose_lt each
    refine ⟨some a, cap, (List.range len).map q, by simp, fun h0 => ?_, by simp; omega⟩
    have hlen : 0 < len := by simpa using h0
    obtain ⟨b, off, spot⟩ := a
    have hspot : spot = none := by simpa [Addr.add] using World.cell?_spot (hq 0 hlen).1
    subst hspot
    refine ⟨b, off, rfl, block_lt_of_cell (a := Addr.add ⟨b, off, none⟩ (0 * 2)) (hq 0 hlen).1, fun j hj => ?_⟩
    have hj' : j < len := by simpa using hj
    obtain ⟨c0, c1⟩ := hq j hj'
    rw [p_add] at c0 c1
    simp only [List.getElem_map, List.getElem_range]
    exact ⟨c0, c1⟩
set_option maxRecDepth 100000 in
theorem open_slots {cs : List Value} {x : DataW H × List MemPlace} (h : DataW.trod enc Try.prog W base sp hd fuel 29 cs = some x) : ∃ A c l, cs = [.slice A l.length c] ∧ SAt W W.heap.size A l ∧ l.length ≤ maxLen := by
  rcases open_slice Try.underlying29 h with ⟨rfl, _⟩ | ⟨a, len, cap, m, n, D, Pl, rfl, _, hl, hm, hmm, rfl, hx⟩
  · exact ⟨none, 0, [], rfl, SAt.nil _ _ _, by simp⟩
  · have hlm : len ≤ m := by rw [hmm]; split <;> omega
    have each : ∀ i, i < len → ∃ q : Slt, W.cell? (a.add (i * 6)) = some (.int .i64 q.st) ∧ W.cell? (a.add (i * 6 + 1)) = some (.int .i64 q.kat) ∧ W.cell? (a.add (i * 6 + 2)) = some (.int .i64 q.kgn) ∧ W.cell? (a.add (i * 6 + 3)) = some (.int .i64 q.tr) ∧ W.cell? (a.add (i * 6 + 4)) = some (.int .i64 q.re) ∧ W.cell? (a.add (i * 6 + 5)) = some (.int .i64 q.im) := by
      intro i hi
      obtain ⟨cs', h1, h2⟩ := hx i (by omega)
      rw [ciS] at h1
      obtain ⟨_, hlen, hcell⟩ := World.cells?_some h1
      match cs', hlen with
      | [v0, v1, v2, v3, v4, v5], _ =>
        obtain ⟨s, rfl, rfl, rfl, rfl, rfl, rfl⟩ := open_slot6 h2
        have c0 := hcell 0 (by omega)
        have c1 := hcell 1 (by omega)
        have c2 := hcell 2 (by omega)
        have c3 := hcell 3 (by omega)
        have c4 := hcell 4 (by omega)
        have c5 := hcell 5 (by omega)
        rw [add_add] at c0 c1 c2 c3 c4 c5
        exact ⟨s, by simpa using c0, by simpa using c1, by simpa using c2, by simpa using c3, by simpa using c4, by simpa using c5⟩
    obtain ⟨q, hq⟩ := choose_lt each
    refine ⟨some a, cap, (List.range len).map q, by simp, fun h0 => ?_, by simp; omega⟩
    have hlen : 0 < len := by simpa using h0
    obtain ⟨b, off, spot⟩ := a
    have hspot : spot = none := by simpa [Addr.add] using World.cell?_spot (hq 0 hlen).1
    subst hspot
    refine ⟨b, off, rfl, block_lt_of_cell (a := Addr.add ⟨b, off, none⟩ (0 * 6)) (hq 0 hlen).1, fun j hj => ?_⟩
    have hj' : j < len := by simpa using hj
    obtain ⟨c0, c1, c2, c3, c4, c5⟩ := hq j hj'
    rw [p_add] at c0 c1 c2 c3 c4 c5
    simp only [List.getElem_map, List.getElem_range]
    exact ⟨c0, c1, c2, c3, c4, c5⟩
end
theorem array16 {α : Type} {cs : Array α} (h : cs.size = 16) : ∃ c0 c1 c2 c3 c4 c5 c6 c7 c8 c9 c10 c11 c12 c13 c14 c15, cs = #[c0, c1, c2, c3, c4, c5, c6, c7, c8, c9, c10, c11, c12, c13, c14, c15] := by
  obtain ⟨l⟩ := cs
  match l, h with
  | [c0, c1, c2, c3, c4, c5, c6, c7, c8, c9, c10, c11, c12, c13, c14, c15], _ => exact ⟨c0, c1, c2, c3, c4, c5, c6, c7, c8, c9, c10, c11, c12, c13, c14, c15, rfl⟩
theorem list16 {α : Type} {cs : List α} (h : cs.length = 16) : ∃ c0 c1 c2 c3 c4 c5 c6 c7 c8 c9 c10 c11 c12 c13 c14 c15, cs = [c0, c1, c2, c3, c4, c5, c6, c7, c8, c9, c10, c11, c12, c13, c14, c15] := by
  match cs, h with
  | [c0, c1, c2, c3, c4, c5, c6, c7, c8, c9, c10, c11, c12, c13, c14, c15], _ => exact ⟨c0, c1, c2, c3, c4, c5, c6, c7, c8, c9, c10, c11, c12, c13, c14, c15, rfl⟩
set_option maxHeartbeats 2000000 in
set_option maxRecDepth 100000 in
/-- A frame's cells, opened. -/
theorem open_fcells {H : Type} {enc : TypeId × Value → H} {W : World} {base : Nat} {sp : Nat → Bool} {hd : Bool} {fuel : Nat} {cs : List Value} {y : DataW H × List MemPlace} (hsz : cs.length = 16)
    (hf : DataW.trod enc Try.prog W base sp hd fuel 35 cs = some y) : ∃ f : Frm, FrmAt W W.heap.size (.agg cs.toArray) f ∧ ∀ u ∈ cs, u.oneCell' = true := by
  obtain ⟨c0, c1, c2, c3, c4, c5, c6, c7, c8, c9, c10, c11, c12, c13, c14, c15, rfl⟩ := list16 hsz
  obtain ⟨xs, n, _, _, hl, hlen, hg⟩ := DataW.trod_struct Try.underlying35 hf
  have hx : ∀ i, i < 13 → ∃ y, xs[i]? = some y := fun i hi => ⟨xs[i]'(by rw [hlen]; exact hi), List.getElem?_eq_getElem _⟩
  clear hf hl hsz
  obtain ⟨y0, e0⟩ := hx 0 (by omega)
  have g0 := (hg 0 _ rfl).trans e0
  simp [ci1, ci2, ci3, ciVs, ciSs] at g0
  obtain ⟨y1, e1⟩ := hx 1 (by omega)
  have g1 := (hg 1 _ rfl).trans e1
  simp [ci1, ci2, ci3, ciVs, ciSs] at g1
  obtain ⟨y2, e2⟩ := hx 2 (by omega)
  have g2 := (hg 2 _ rfl).trans e2
  simp [ci1, ci2, ci3, ciVs, ciSs] at g2
  obtain ⟨y3, e3⟩ := hx 3 (by omega)
  have g3 := (hg 3 _ rfl).trans e3
  simp [ci1, ci2, ci3, ciVs, ciSs] at g3
  obtain ⟨y4, e4⟩ := hx 4 (by omega)
  have g4 := (hg 4 _ rfl).trans e4
  simp [ci1, ci2, ci3, ciVs, ciSs] at g4
  obtain ⟨y5, e5⟩ := hx 5 (by omega)
  have g5 := (hg 5 _ rfl).trans e5
  simp [ci1, ci2, ci3, ciVs, ciSs] at g5
  obtain ⟨y6, e6⟩ := hx 6 (by omega)
  have g6 := (hg 6 _ rfl).trans e6
  simp [ci1, ci2, ci3, ciVs, ciSs] at g6
  obtain ⟨y7, e7⟩ := hx 7 (by omega)
  have g7 := (hg 7 _ rfl).trans e7
  simp [ci1, ci2, ci3, ciVs, ciSs] at g7
  obtain ⟨y8, e8⟩ := hx 8 (by omega)
  have g8 := (hg 8 _ rfl).trans e8
  simp [ci1, ci2, ci3, ciVs, ciSs] at g8
  obtain ⟨y9, e9⟩ := hx 9 (by omega)
  have g9 := (hg 9 _ rfl).trans e9
  simp [ci1, ci2, ci3, ciVs, ciSs] at g9
  obtain ⟨y10, e10⟩ := hx 10 (by omega)
  have g10 := (hg 10 _ rfl).trans e10
  simp [ci1, ci2, ci3, ciVs, ciSs] at g10
  obtain ⟨y11, e11⟩ := hx 11 (by omega)
  have g11 := (hg 11 _ rfl).trans e11
  simp [ci1, ci2, ci3, ciVs, ciSs] at g11
  obtain ⟨y12, e12⟩ := hx 12 (by omega)
  have g12 := (hg 12 _ rfl).trans e12
  simp [ci1, ci2, ci3, ciVs, ciSs] at g12
  obtain ⟨n0, rfl⟩ := open_i g0
  obtain ⟨n1, rfl⟩ := open_i g1
  obtain ⟨A2, k2, l2, q2, h2, _⟩ := open_vals g2
  simp at q2
  subst q2
  obtain ⟨A3, k3, l3, q3, h3, _⟩ := open_vals g3
  simp at q3
  subst q3
  obtain ⟨A4, k4, l4, q4, h4, _⟩ := open_slots g4
  simp at q4
  subst q4
  obtain ⟨n5, rfl⟩ := open_i g5
  obtain ⟨n6, rfl⟩ := open_i g6
  obtain ⟨n7, rfl⟩ := open_i g7
  obtain ⟨n8, rfl⟩ := open_i g8
  obtain ⟨n9, rfl⟩ := open_i g9
  obtain ⟨t1, t2, t3, rfl, rfl, rfl⟩ := open_out3 g10
  obtain ⟨r1, r2, rfl, rfl⟩ := open_ref2 g11
  obtain ⟨n12, rfl⟩ := open_i g12
  exact ⟨⟨n0, n1, l2, l3, l4, n5, n6, n7, n8, n9, t1, t2, t3, r1, r2, n12⟩, ⟨A2, k2, A3, k3, A4, k4, rfl, h2, h3, h4⟩, by simp [Value.oneCell']⟩

/-- A frame, opened. -/
theorem open_frame {H : Type} {enc : TypeId × Value → H} {W : World} {base : Nat} {v : Value} {d : DataW H} {p : List MemPlace}
    (k : Value.okWide Try.prog W .any base 35 v) (h : DataW.Trod enc Try.prog W 0 (fun _ => true) true 35 v d p) : ∃ (fs : Array Value) (f : Frm), v = .agg fs ∧ fs.size = 16 ∧ fs.all (·.oneCell') = true ∧ FrmAt W W.heap.size (.agg fs) f := by
  obtain ⟨cs, rfl, hsz⟩ := okWide_struct Try.underlying35 k
  obtain ⟨fuel, hf⟩ := h
  obtain ⟨f, h1, h2⟩ := open_fcells (cs := cs.toList) (by rw [Array.length_toList]; exact hsz.trans ciF) hf
  exact ⟨cs, f, rfl, hsz.trans ciF, Array.all_eq_true_iff_forall_mem.2 fun u hu => h2 u (by simpa using hu), h1⟩
theorem open_b {H : Type} {enc : TypeId × Value → H} {W : World} {base : Nat} {sp : Nat → Bool} {hd : Bool} {fuel : Nat} {c : Value} {y : DataW H × List MemPlace} (g : DataW.trod enc Try.prog W base sp hd fuel 4 [c] = some y) : ∃ n : Bool, c = .bool n := by
  obtain ⟨n0, e0, _, _⟩ := DataW.trod_bool Try.underlying4 g
  simp at e0
  exact ⟨n0, e0⟩
theorem ciB : Try.prog.cellsOf 4 = 1 := by kernel_rfl
theorem ciC : Try.prog.cellsOf 62 = 18 := by kernel_rfl
theorem ciP : Try.prog.cellsOf 25 = 3 := by kernel_rfl
theorem ciIs : Try.prog.cellsOf 23 = 1 := by kernel_rfl
theorem ciCs : Try.prog.cellsOf 22 = 1 := by kernel_rfl
instance : Inhabited Cel := ⟨cel0⟩
set_option maxRecDepth 100000 in
theorem open_cell {H : Type} {enc : TypeId × Value → H} {W : World} {base : Nat} {sp : Nat → Bool} {hd : Bool} {fuel : Nat} {cs : List Value} {y : DataW H × List MemPlace} (hsz : cs.length = 18)
    (hf : DataW.trod enc Try.prog W base sp hd fuel 62 cs = some y) : ∃ (x : Cel) (fs : Array Value), fs.size = 16 ∧ fs.all (·.oneCell') = true ∧ FrmAt W W.heap.size (.agg fs) x.frm ∧ cs = celv x fs := by
  match cs, hsz with
  | a :: b :: r, hr =>
    obtain ⟨y0, y1, y2, k, _, _, g0, g1, g2⟩ := trod_struct3 Try.underlying62 hf
    have hr16 : r.length = 16 := by simpa using hr
    simp [ci1, ciB, ciF] at g0 g1 g2
    rw [List.take_of_length_le (by omega)] at g2
    obtain ⟨n, rfl⟩ := open_i g0
    obtain ⟨u, rfl⟩ := open_b g1
    obtain ⟨f, h1, h2⟩ := open_fcells hr16 g2
    exact ⟨⟨n, u, f⟩, r.toArray, by simpa using hr16, Array.all_eq_true_iff_forall_mem.2 fun v hv => h2 v (by simpa using hv), h1, by simp⟩
set_option maxRecDepth 100000 in
theorem open_ints {H : Type} {enc : TypeId × Value → H} {W : World} {base : Nat} {sp : Nat → Bool} {hd : Bool} {fuel : Nat} {cs : List Value} {x : DataW H × List MemPlace} (h : DataW.trod enc Try.prog W base sp hd fuel 23 cs = some x) : ∃ A c l, cs = [.slice A l.length c] ∧ IAt W W.heap.size A l ∧ l.length ≤ maxLen := by
  rcases open_slice Try.underlying23 h with ⟨rfl, _⟩ | ⟨a, len, cap, m, n, D, Pl, rfl, _, hl, hm, hmm, rfl, hx⟩
  · exact ⟨none, 0, [], rfl, IAt.nil _ _ _, by simp⟩
  · have hlm : len ≤ m := by rw [hmm]; split <;> omega
    have each : ∀ i, i < len → ∃ q : Int, W.cell? (a.add i) = some (.int .i64 q) := by
      intro i hi
      obtain ⟨cs', h1, h2⟩ := hx i (by omega)
      rw [ci1] at h1
      obtain ⟨_, hlen, hcell⟩ := World.cells?_some h1
      match cs', hlen with
      | [v0], _ =>
        obtain ⟨n0, rfl⟩ := open_i h2
        have c0 := hcell 0 (by omega)
        rw [add_add] at c0
        exact ⟨n0, by simpa using c0⟩
    obtain ⟨q, hq⟩ := choose_lt each
    refine ⟨some a, cap, (List.range len).map q, by simp, fun h0 => ?_, by simp; omega⟩
    have hlen : 0 < len := by simpa using h0
    obtain ⟨b, off, spot⟩ := a
    have hspot : spot = none := by simpa [Addr.add] using World.cell?_spot (hq 0 hlen)
    subst hspot
    refine ⟨b, off, rfl, block_lt_of_cell (a := Addr.add ⟨b, off, none⟩ 0) (hq 0 hlen), fun j hj => ?_⟩
    have hj' : j < len := by simpa using hj
    have c0 := hq j hj'
    rw [p_add] at c0
    simp only [List.getElem_map, List.getElem_range]
    exact c0
set_option maxRecDepth 100000 in
theorem open_cels {H : Type} {enc : TypeId × Value → H} {W : World} {base : Nat} {sp : Nat → Bool} {hd : Bool} {fuel : Nat} {cs : List Value} {x : DataW H × List MemPlace} (h : DataW.trod enc Try.prog W base sp hd fuel 22 cs = some x) : ∃ A c l, cs = [.slice A l.length c] ∧ CAt W W.heap.size A l ∧ l.length ≤ maxLen := by
  rcases open_slice Try.underlying22 h with ⟨rfl, _⟩ | ⟨a, len, cap, m, n, D, Pl, rfl, _, hl, hm, hmm, rfl, hx⟩
  · exact ⟨none, 0, [], rfl, CAt.nil _ _ _, by simp⟩
  · have hlm : len ≤ m := by rw [hmm]; split <;> omega
    have each : ∀ i, i < len → ∃ q : Cel × Array Value, q.2.size = 16 ∧ q.2.all (·.oneCell') = true ∧ FrmAt W W.heap.size (.agg q.2) q.1.frm ∧ ∀ k u, (celv q.1 q.2)[k]? = some u → W.cell? (a.add (i * 18 + k)) = some u := by
      intro i hi
      obtain ⟨cs', h1, h2⟩ := hx i (by omega)
      rw [ciC] at h1
      obtain ⟨_, hlen, hcell⟩ := World.cells?_some h1
      obtain ⟨x, fs, s1, s2, s3, s4⟩ := open_cell hlen h2
      refine ⟨(x, fs), s1, s2, s3, fun k u hk => ?_⟩
      rw [← s4] at hk
      have hkl := (List.getElem?_eq_some_iff.1 hk).1
      have c0 := hcell k (by omega)
      rw [add_add] at c0
      rw [c0]
      exact hk
    obtain ⟨q, hq⟩ := choose_lt each
    refine ⟨some a, cap, (List.range len).map fun i => (q i).1, by simp, fun h0 => ?_, by simp; omega⟩
    have hlen : 0 < len := by simpa using h0
    obtain ⟨b, off, spot⟩ := a
    have h00 := (hq 0 hlen).2.2.2 0 _ rfl
    have hspot : spot = none := by simpa [Addr.add] using World.cell?_spot h00
    subst hspot
    have hlt := block_lt_of_cell (a := Addr.add ⟨b, off, none⟩ (0 * 18 + 0)) h00
    have hbl : b < W.heap.size := by rw [p_add] at hlt; exact hlt
    -- the row of all cells
    have row : ∃ xs : List Value, xs.length = len * 18 ∧ W.rangeAt b off xs ∧ ∀ i, i < len → ∀ k, k < 18 → xs[i * 18 + k]? = (celv (q i).1 (q i).2)[k]? := by
      refine ⟨(List.range (len * 18)).map fun t => ((celv (q (t / 18)).1 (q (t / 18)).2)[t % 18]?).getD (.bool false), by simp, fun t u ht => ?_, fun i hi k hk => ?_⟩
      · have htl := (List.getElem?_eq_some_iff.1 ht).1
        simp at htl
        rw [List.getElem?_map, List.getElem?_range htl] at ht
        simp only [Option.map_some, Option.some.injEq] at ht
        have hi : t / 18 < len := by omega
        have hk : t % 18 < (celv (q (t / 18)).1 (q (t / 18)).2).length := by simp [(hq _ hi).1]; omega
        have h9 := (hq _ hi).2.2.2 (t % 18) _ (List.getElem?_eq_getElem hk)
        rw [List.getElem?_eq_getElem hk, Option.getD_some] at ht
        rw [ht, p_add, show off + (t / 18 * 18 + t % 18) = off + t by omega] at h9
        exact h9
      · rw [List.getElem?_map, List.getElem?_range (by omega)]
        simp only [Option.map_some]
        have e1 : (i * 18 + k) / 18 = i := by omega
        have e2 : (i * 18 + k) % 18 = k := by omega
        rw [e1, e2]
        have hk2 : k < (celv (q i).1 (q i).2).length := by simp [(hq _ hi).1]; omega
        rw [List.getElem?_eq_getElem hk2, Option.getD_some]
    obtain ⟨xs, r1, r2, r3⟩ := row
    refine ⟨b, off, xs, rfl, hbl, r2, by simpa using r1, fun j hj => ?_⟩
    have hj' : j < len := by simpa using hj
    simp only [List.getElem_map, List.getElem_range]
    exact ⟨(q j).2, (hq j hj').1, (hq j hj').2.1, (hq j hj').2.2.1, fun i hi => r3 j hj' i hi⟩
set_option maxRecDepth 100000 in
/-- A pen, opened. -/
theorem open_pen {H : Type} {enc : TypeId × Value → H} {W : World} {base : Nat} {v : Value} {d : DataW H} {p : List MemPlace}
    (k : Value.okWide Try.prog W .any base 25 v) (h : DataW.Trod enc Try.prog W 0 (fun _ => true) true 25 v d p) : ∃ A c A2 c2 P, v = pv A P.cells.length c A2 P.free.length c2 P.most ∧ PAtZ W W.heap.size A A2 P ∧ P.cells.length ≤ maxLen ∧ P.free.length ≤ maxLen := by
  obtain ⟨cs, rfl, hsz⟩ := okWide_struct Try.underlying25 k
  obtain ⟨fuel, hf⟩ := h
  obtain ⟨l⟩ := cs
  match l, hsz.trans ciP with
  | [a, b, c], _ =>
    obtain ⟨y0, y1, y2, k, _, _, g0, g1, g2⟩ := trod_struct3 Try.underlying25 hf
    simp [ci1, ciCs, ciIs, Value.cells] at g0 g1 g2
    obtain ⟨A, c0, l0, q0, h0, m0⟩ := open_cels g0
    simp at q0
    subst q0
    obtain ⟨A2, c2, l2, q2, h2, m2⟩ := open_ints g1
    simp at q2
    subst q2
    obtain ⟨n, rfl⟩ := open_i g2
    exact ⟨A, c0, A2, c2, ⟨l0, l2, n⟩, rfl, ⟨h0, h2⟩, m0, m2⟩
/-- A ref, opened. -/
theorem open_refv {H : Type} {enc : TypeId × Value → H} {W : World} {base : Nat} {v : Value} {d : DataW H} {p : List MemPlace}
    (k : Value.okWide Try.prog W .any base 27 v) (h : DataW.Trod enc Try.prog W 0 (fun _ => true) true 27 v d p) : ∃ r : V, v = gv r.1 r.2 := by
  obtain ⟨cs, rfl, hsz⟩ := okWide_struct Try.underlying27 k
  obtain ⟨fuel, hf⟩ := h
  obtain ⟨l⟩ := cs
  match l, hsz.trans ci2 with
  | [a, b], _ =>
    obtain ⟨n, m, rfl, rfl⟩ := open_ref2 hf
    exact ⟨(n, m), rfl⟩
end Go.Proofs.Ytkpjlobpaippdaa
