/- RingTells: the walk, for every input that can be read. -/
import Derived.Test.YthmnaclmbglkdaaL11tells
import Derived.Test.YthmnaclmbglkdaaJj
import Derived.OpenShut
namespace Go.Proofs.Ythmnaclmbglkdaa.ringTells
set_option linter.unusedVariables false
set_option linter.unusedSimpArgs false
open Go.RowKit Go.ChangeShapes Go.WideShapes Go.ChangeAt Go.Sort Go.Deep Go.Joins Go.Proofs.Ythmnaclmbglkdaa

theorem okWide_arr2 {P : Program} {W : World} {base : Nat} {t e : TypeId} {n : Nat} {v : Value} (ht : P.underlying t = some (.array n e)) (k : Value.okWide P W .any base t v) : ∃ cs, v = .agg cs ∧ cs.size = P.cellsOf t := by
  simp only [Value.okWide, ht] at k
  obtain ⟨cs, h1, h2, _⟩ := k
  exact ⟨cs, h1, h2⟩
theorem pair_of {cs : Array Value} (h : cs.size = 2) : ∃ a b, cs = #[a, b] := by
  obtain ⟨l⟩ := cs
  match l, h with
  | [a, b], _ => exact ⟨a, b, rfl⟩
set_option maxRecDepth 100000 in
/-- Two numbers. -/
theorem open_two {H : Type} {enc : TypeId × Value → H} {W : World} {base : Nat} {v : Value} {d : DataW H} {p : List MemPlace}
    (k : Value.okWide Try.prog W .any base 25 v) (h : DataW.Trod enc Try.prog W 0 (fun _ => true) true 25 v d p) : ∃ a b : Int, v = .agg #[.int .i64 a, .int .i64 b] := by
  obtain ⟨cs, rfl, hsz⟩ := okWide_arr2 Try.underlying25 k
  obtain ⟨c0, c1, rfl⟩ := pair_of (hsz.trans ciA2)
  obtain ⟨fuel, hf⟩ := h
  obtain ⟨xs, n, _, _, hl, hlen, hg⟩ := DataW.trod_array Try.underlying25 hf
  have hx : ∀ i, i < 2 → ∃ y, xs[i]? = some y := fun i hi => ⟨xs[i]'(by rw [hlen]; exact hi), List.getElem?_eq_getElem _⟩
  simp only [Value.cells] at hg
  obtain ⟨y0, e0⟩ := hx 0 (by omega)
  have g0 := (hg 0 (by omega)).trans e0
  obtain ⟨y1, e1⟩ := hx 1 (by omega)
  have g1 := (hg 1 (by omega)).trans e1
  simp [ci1r] at g0 g1
  obtain ⟨a, rfl⟩ := open_ir g0
  obtain ⟨b, rfl⟩ := open_ir g1
  exact ⟨a, b, rfl⟩
theorem entry {H : Type} {enc : TypeId × Value → H} (W : World) (base : Nat) (v0 v1 v2 : Value) (d0 d1 d2 : DataW H) (p0 p1 p2 : List MemPlace)
    (k0 : Value.okWide Try.prog W .any base 24 v0)
    (k1 : Value.okWide Try.prog W .any base 22 v1)
    (k2 : Value.okWide Try.prog W .any base 25 v2)
    (h0 : DataW.Trod enc Try.prog W 0 (fun _ => true) true 24 v0 d0 p0)
    (h1 : DataW.Trod enc Try.prog W 0 (fun _ => true) true 22 v1 d1 p1)
    (h2 : DataW.Trod enc Try.prog W 0 (fun _ => true) true 25 v2 d2 p2) :
    Calls Try.prog 3 #[v0, v1, v2] W fun e w' => e = .returned (.bool true) ∧ Below W.heap.size W w' := by
  obtain ⟨A, c, r, rfl, hp⟩ := open_ring k0 h0
  obtain ⟨A2, c2, l, rfl, hp2, _⟩ := open_refs_arg k1 h1
  obtain ⟨a, b, rfl⟩ := open_two k2 h2
  exact walk fixed_true c c2 a b W hp hp2 (Nat.le_refl _) rfl
end Go.Proofs.Ythmnaclmbglkdaa.ringTells
