/- Arguments that are programs, opened, with their reach. -/
import Derived.Test.YtdbmpcdianjaaaaDoorzPr1
import Derived.SizedLaws
namespace Go.Proofs.YtdbmpcdianjaaaaDoor
set_option linter.unusedVariables false
set_option linter.unusedSimpArgs false
open Go.RowKit Go.ChangeShapes Go.WideShapes Go.ChangeAt Go.Deep Go.Joins

theorem weights_all {H : Type} {P : Program} {e : TypeId} : ∀ {ds : List (DataW H)} {d : DataW H}, d ∈ ds → ∀ n ∈ d.weights P e, n ∈ DataW.weightsAll P e ds
  | x :: ds, d, h, n, hn => by
    rw [DataW.weightsAll, List.mem_append]
    rcases List.mem_cons.1 h with rfl | h
    · exact .inl hn
    · exact .inr (weights_all h n hn)
set_option maxRecDepth 100000 in
theorem open_code_s {H : Type} {enc : TypeId × Value → H} {W : World} {base : Nat} {sp : Nat → Bool} {hd : Bool} {fuel : Nat} {v : Value} {x : DataW H × List MemPlace}
    (h : DataW.trod enc Tryd.prog W base sp hd fuel 32 [v] = some x) {A : Option Addr} {n c : Nat} (hv : v = .slice A n c) (hw : ∀ n ∈ x.1.weights Tryd.prog 32, n ≤ reachBytes) : n * 24 ≤ reachBytes := by
  have hbe : Tryd.prog.bytesOf 36 = 24 := by kernel_rfl
  rcases open_slice Tryd.underlying32 h with ⟨hc, _⟩ | ⟨a, len, cap, m, n', D, Pl, hc, _, hl, hm, hmm, rfl, hx⟩
  · rw [hv] at hc
    simp at hc
    simp [hc.2.1, reachBytes]
  · rw [hv] at hc
    simp at hc
    have := hw ((len + (m - len)) * 24) (by simp [DataW.weights, Tryd.underlying32, hbe])
    have h2 : n = len := hc.2.1
    subst h2
    omega
set_option maxRecDepth 100000 in
theorem codes_sized {H : Type} {enc : TypeId × Value → H} {W : World} {v : Value} {d : DataW H} {p : List MemPlace}
    (h : DataW.Trod enc Tryd.prog W 0 (fun _ => true) true 23 v d p) {A : Option Addr} {c : Nat} {ps : List Fun} (hv : v = .slice A ps.length c) (hp : ProgAt W W.heap.size A ps)
    (hw : ∀ n ∈ d.weights Tryd.prog 23, n ≤ reachBytes) : ∀ f ∈ ps, f.code.length * 24 ≤ reachBytes := by
  intro f hf
  obtain ⟨j, hj, rfl⟩ := List.mem_iff_getElem.1 hf
  obtain ⟨fuel, hfu⟩ := h
  subst hv
  obtain ⟨b, off, rfl, _, hc⟩ := hp (by omega)
  obtain ⟨_, _, _, B, c3, k3, _⟩ := hc j hj
  rcases open_slice Tryd.underlying23 hfu with ⟨hcs, _⟩ | ⟨a, len, cap, m, n, D, Pl, hcs, _, hl, hm, hmm, hxx, hx⟩
  · simp [Value.cells] at hcs
  · simp [Value.cells] at hcs
    obtain ⟨rfl, rfl, rfl⟩ := hcs
    simp only [if_true] at hmm
    have ce : Tryd.prog.cellsOf 34 = 4 := by kernel_rfl
    obtain ⟨cs', h1, h2⟩ := hx j (by omega)
    rw [ce] at h1
    obtain ⟨_, hlen, hcell⟩ := World.cells?_some h1
    obtain ⟨y0, y1, y2, y3, n', hxe, _, g0, g1, g2, g3⟩ := trod_struct4 Tryd.underlying34 h2
    match cs', hlen with
    | [v0, v1, v2, v3], _ =>
      have ci : Tryd.prog.cellsOf 3 = 1 := by kernel_rfl
      have cc : Tryd.prog.cellsOf 32 = 1 := by kernel_rfl
      simp [ci, cc] at g3
      have c4 := hcell 3 (by omega)
      rw [add_add, addr_add] at c4
      have hv3 : v3 = .slice B ps[j].code.length c3 := by
        have e : W.cell? ⟨b, off + (j * 4 + 3), none⟩ = some v3 := by simpa using c4
        rw [show off + (j * 4 + 3) = off + j * 4 + 3 by omega, k3] at e
        exact (Option.some.inj e).symm
      refine open_code_s g3 hv3 fun n hn => hw n ?_
      simp only [Prod.mk.injEq] at hxx hxe
      rw [hxx.1]
      simp only [DataW.weights, Tryd.underlying23, List.mem_cons, List.mem_append]
      refine .inr (.inl (weights_all (d := D j) (List.mem_map.2 ⟨j, by simp; exact hj, rfl⟩) n ?_))
      rw [hxe.1]
      simp only [DataW.weights, Tryd.underlying34]
      simp [DataW.weightsEach, hn]
theorem sum_nat : ∀ (l : List Fun) (acc : Nat), acc + (l.map fun f => f.code.length).sum ≤ 4611686018427387904 → l.foldl (fun n f => wrap64 (n + f.code.length)) (acc : Int) = ((acc + (l.map fun f => f.code.length).sum : Nat) : Int)
  | [], acc, _ => by simp
  | f :: l, acc, h => by
    rw [List.map_cons, List.sum_cons] at h
    have e : wrap64 ((acc : Int) + f.code.length) = ((acc + f.code.length : Nat) : Int) := by
      rw [IntWalk.wrap64_in ((acc : Int) + f.code.length) (by omega)]
      omega
    rw [List.foldl_cons, e, sum_nat l (acc + f.code.length) (by omega), List.map_cons, List.sum_cons]
    congr 1
    omega
theorem sum_le (B : Nat) : ∀ (l : List Fun), (∀ f ∈ l, f.code.length ≤ B) → (l.map fun f => f.code.length).sum ≤ l.length * B
  | [], _ => by simp
  | f :: l, h => by
    have h1 := h f (by simp)
    have h2 := sum_le B l fun g hg => h g (by simp [hg])
    rw [List.map_cons, List.sum_cons, List.length_cons, Nat.succ_mul]
    omega
theorem mem_sum : ∀ (l : List Fun), ∀ f ∈ l, f.code.length ≤ (l.map fun f => f.code.length).sum
  | g :: l, f, hf => by
    rw [List.map_cons, List.sum_cons]
    rcases List.mem_cons.1 hf with rfl | hf
    · omega
    · have := mem_sum l f hf
      omega
/-- What is small is small, within Go's own reach. -/
theorem small_codes {p : List Fun} {m : Nat} (hm : m ≤ 1000) (h : smallP p m = true) (hs : ∀ f ∈ p, f.code.length * 24 ≤ reachBytes) : p.length ≤ 20 ∧ ∀ f ∈ p, f.code.length ≤ m := by
  simp only [smallP, Bool.and_eq_true, decide_eq_true_eq] at h
  obtain ⟨h1, h2⟩ := h
  have hb : ∀ f ∈ p, f.code.length ≤ 6000000000000 := fun f hf => by have := hs f hf; unfold reachBytes at this; omega
  have h3 := sum_le _ p hb
  have h4 : (p.map fun f => f.code.length).sum ≤ 20 * 6000000000000 := Nat.le_trans h3 (Nat.mul_le_mul_right _ h1)
  have h5 := sum_nat p 0 (by omega)
  unfold sumW at h2
  rw [show ((0 : Nat) : Int) = 0 from rfl] at h5
  rw [h5] at h2
  refine ⟨h1, fun f hf => ?_⟩
  have := mem_sum p f hf
  omega
end Go.Proofs.YtdbmpcdianjaaaaDoor

