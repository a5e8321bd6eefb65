/- Layer 11: arguments that are rings, lists of refs, two numbers, opened. -/
import Derived.Test.YthmnaclmbglkdaaNh
import Derived.OpenShut
import Derived.Deep.SlicePairs
import Derived.Lib.SmallJoins
import Derived.Laws.Rows
namespace Go.Proofs.Ythmnaclmbglkdaa
set_option linter.unusedVariables false
set_option linter.unusedSimpArgs false
open Go.RowKit Go.ChangeShapes Go.WideShapes Go.ChangeAt Go.Deep Go.Joins

section
variable {H : Type} {enc : TypeId × Value → H} {W : World} {base : Nat} {sp : Nat → Bool} {hd : Bool} {fuel : Nat}
theorem ci1r : Try.prog.cellsOf 3 = 1 := by kernel_rfl
theorem ciR : Try.prog.cellsOf 33 = 2 := by kernel_rfl
theorem ciRs : Try.prog.cellsOf 22 = 1 := by kernel_rfl
theorem ciG : Try.prog.cellsOf 24 = 4 := by kernel_rfl
theorem ciA2 : Try.prog.cellsOf 25 = 2 := by kernel_rfl
theorem open_ir {c : Value} {y : DataW H × List MemPlace} (g : DataW.trod enc Try.prog W base sp hd fuel 3 [c] = some y) : ∃ n : Int, c = .int .i64 n := by
  obtain ⟨n0, e0, _, _⟩ := DataW.trod_int Try.underlying3 g
  simp at e0
  exact ⟨n0, e0⟩
theorem open_ref2r {a b : Value} {y : DataW H × List MemPlace} (g : DataW.trod enc Try.prog W base sp hd fuel 33 [a, b] = some y) : ∃ n m : Int, a = .int .i64 n ∧ b = .int .i64 m := by
  obtain ⟨y0, y1, k, _, _, g0, g1⟩ := trod_struct2 Try.underlying33 g
  simp [ci1r] at g0 g1
  obtain ⟨n, rfl⟩ := open_ir g0
  obtain ⟨m, rfl⟩ := open_ir g1
  exact ⟨n, m, rfl, rfl⟩
set_option maxRecDepth 100000 in
theorem open_refs {cs : List Value} {x : DataW H × List MemPlace} (h : DataW.trod enc Try.prog W base sp hd fuel 22 cs = some x) : ∃ A c l, cs = [.slice A l.length c] ∧ PAt W W.heap.size A l ∧ l.length ≤ maxLen ∧ l.length ≤ c := by
  rcases open_slice Try.underlying22 h with ⟨rfl, _⟩ | ⟨a, len, cap, m, n, D, Pl, rfl, _, hl, hm, hmm, rfl, hx⟩
  · exact ⟨none, 0, [], rfl, PAt.nil _ _ _, by simp, by simp⟩
  · have hlm : len ≤ m := by rw [hmm]; split <;> omega
    have each : ∀ i, i < len → ∃ q : P2, W.cell? (a.add (i * 2)) = some (.int .i64 q.1) ∧ W.cell? (a.add (i * 2 + 1)) = some (.int .i64 q.2) := by
      intro i hi
      obtain ⟨cs', h1, h2⟩ := hx i (by omega)
      rw [ciR] at h1
      obtain ⟨_, hlen, hcell⟩ := World.cells?_some h1
      match cs', hlen with
      | [v0, v1], _ =>
        obtain ⟨n0, n1, rfl, rfl⟩ := open_ref2r h2
        have c0 := hcell 0 (by omega)
        have c1 := hcell 1 (by omega)
        rw [add_add] at c0 c1
        exact ⟨(n0, n1), by simpa using c0, by simpa using c1⟩
    obtain ⟨q, hq⟩ := choose_lt each
    refine ⟨some a, cap, (List.range len).map q, by simp, fun h0 => ?_, by simp; omega, by simpa using hl⟩
    have hlen : 0 < len := by simpa using h0
    obtain ⟨b, off, spot⟩ := a
    have hspot : spot = none := by simpa [Addr.add] using World.cell?_spot (hq 0 hlen).1
    subst hspot
    refine ⟨b, off, rfl, block_lt_of_cell (a := Addr.add ⟨b, off, none⟩ (0 * 2)) (hq 0 hlen).1, fun j hj => ?_⟩
    have hj' : j < len := by simpa using hj
    obtain ⟨c0, c1⟩ := hq j hj'
    rw [p_add] at c0 c1
    simp only [List.getElem_map, List.getElem_range]
    exact ⟨c0, c1⟩
end
theorem open_refs_arg {H : Type} {enc : TypeId × Value → H} {W : World} {base : Nat} {v : Value} {d : DataW H} {p : List MemPlace}
    (k : Value.okWide Try.prog W .any base 22 v) (h : DataW.Trod enc Try.prog W 0 (fun _ => true) true 22 v d p) : ∃ A c l, v = .slice A (List.length l) c ∧ PAt W W.heap.size A l ∧ l.length ≤ c := by
  obtain ⟨A, len, cap, rfl⟩ := okWide_slice Try.underlying22 k
  obtain ⟨fuel, hf⟩ := h
  obtain ⟨A', c, l, e, hp, _, hc⟩ := open_refs hf
  simp only [Value.cells, List.cons.injEq, and_true] at e
  exact ⟨A', c, l, e, hp, hc⟩
theorem array4r {cs : Array Value} (h : cs.size = 4) : ∃ a b c d, cs = #[a, b, c, d] := by
  obtain ⟨l⟩ := cs
  match l, h with
  | [a, b, c, d], _ => exact ⟨a, b, c, d, rfl⟩
set_option maxRecDepth 100000 in
theorem open_ring {H : Type} {enc : TypeId × Value → H} {W : World} {base : Nat} {v : Value} {d : DataW H} {p : List MemPlace}
    (k : Value.okWide Try.prog W .any base 24 v) (h : DataW.Trod enc Try.prog W 0 (fun _ => true) true 24 v d p) :
    ∃ (A : Option Addr) (c : Nat) (r : Rng), v = rgv A r.buf.length c r.head r.many r.most ∧ PAt W W.heap.size A r.buf := by
  obtain ⟨cs, rfl, hsz⟩ := okWide_struct Try.underlying24 k
  obtain ⟨c0, c1, c2, c3, rfl⟩ := array4r (hsz.trans ciG)
  obtain ⟨fuel, hf⟩ := h
  obtain ⟨xs, n, _, _, hl, hlen, hg⟩ := DataW.trod_struct Try.underlying24 hf
  have hx : ∀ i, i < 4 → ∃ y, xs[i]? = some y := fun i hi => ⟨xs[i]'(by rw [hlen]; exact hi), List.getElem?_eq_getElem _⟩
  simp only [Value.cells] at hg
  clear hf hl hsz k
  obtain ⟨y0, e0⟩ := hx 0 (by omega)
  have g0 := (hg 0 _ rfl).trans e0
  simp [ci1r, ciRs] at g0
  obtain ⟨y1, e1⟩ := hx 1 (by omega)
  have g1 := (hg 1 _ rfl).trans e1
  simp [ci1r, ciRs] at g1
  obtain ⟨y2, e2⟩ := hx 2 (by omega)
  have g2 := (hg 2 _ rfl).trans e2
  simp [ci1r, ciRs] at g2
  obtain ⟨y3, e3⟩ := hx 3 (by omega)
  have g3 := (hg 3 _ rfl).trans e3
  simp [ci1r, ciRs] at g3
  obtain ⟨A, c, l, h0, hP, _⟩ := open_refs g0
  obtain ⟨h', rfl⟩ := open_ir g1
  obtain ⟨m', rfl⟩ := open_ir g2
  obtain ⟨t', rfl⟩ := open_ir g3
  simp only [List.cons.injEq, and_true] at h0
  subst h0
  exact ⟨A, c, ⟨l, h', m', t'⟩, rfl, hP⟩
end Go.Proofs.Ythmnaclmbglkdaa
