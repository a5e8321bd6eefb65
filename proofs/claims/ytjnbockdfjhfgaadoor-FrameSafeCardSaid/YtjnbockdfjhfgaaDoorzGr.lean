/- Layer 8's code: the checker's reach, process. -/
import Derived.Test.YtjnbockdfjhfgaaDoorzGq
import Derived.Test.YtjnbockdfjhfgaaDoorzGa
namespace Go.Proofs.YtjnbockdfjhfgaaDoor
set_option linter.unusedVariables false
set_option linter.unusedSimpArgs false
open Go.RowKit Go.ChangeShapes Go.WideShapes Go.ChangeAt Go.Sort

theorem next1_out {b t : Int} {D : List Int} {V : List Bool} (h : (D.length : Int) ≤ t) : nextsS b [t] D V = (D, V, 81) := by unfold nextsS; rw [if_pos h]
theorem next1_new {b : Int} {t : Nat} {D : List Int} {V : List Bool} (h : t < D.length) (h1 : D[t] = -1) : nextsS b [(t : Int)] D V = (D.set t b, V.set t true, 0) := by
  unfold nextsS
  rw [if_neg (by omega), Int.toNat_natCast, List.getD_eq_getElem?_getD, List.getElem?_eq_getElem h, if_pos (by simpa using h1)]
  rfl
theorem next1_old {b : Int} {t : Nat} {D : List Int} {V : List Bool} (h : t < D.length) (h1 : D[t] ≠ -1) : nextsS b [(t : Int)] D V = (D, V, if (D[t] == b) = true then 0 else 84) := by
  unfold nextsS
  rw [if_neg (by omega), Int.toNat_natCast, List.getD_eq_getElem?_getD, List.getElem?_eq_getElem h, if_neg (by simpa using h1)]
  by_cases h2 : D[t] = b
  · rw [if_pos (by simpa using h2), if_pos (by simpa using h2)]; rfl
  · rw [if_neg (by simpa using h2), if_neg (by simpa using h2)]

end Go.Proofs.YtjnbockdfjhfgaaDoor

/- Layer 8's code: the checker's process. -/
namespace Go.Proofs.YtjnbockdfjhfgaaDoor
set_option linter.unusedVariables false
set_option linter.unusedSimpArgs false
open Go.RowKit Go.ChangeShapes Go.WideShapes Go.ChangeAt Go.Sort

theorem LstAt.only {w w' : World} {B d v : Nat} {x : Value} {l : List Int} (h : LstAt w B x l) (ho : Only d v w w') (hd : d < B) (hv : v < B) : LstAt w' B x l := by
  rcases h with h | ⟨b, h1, h2, h3⟩
  · exact .inl h
  · exact .inr ⟨b, h1, h2, h3.only ho (by omega) (by omega)⟩
theorem Only.cell {d v : Nat} {w w' : World} (h : Only d v w w') {k i : Nat} {x : Value} (hc : w.cell? ⟨k, i, none⟩ = some x) (hd : k ≠ d) (hv : k ≠ v) : w'.cell? ⟨k, i, none⟩ = some x := by
  have := h.block k (block_lt_of_cell hc) hd hv
  unfold World.cell? at *
  simp only at *
  rw [this]
  exact hc
theorem next_len (x : Int × Int × Int) (i : Int) : (nextI x i).length ≤ 2 := by
  unfold nextI
  split
  · simp
  · split
    · simp
    · split <;> simp
end Go.Proofs.YtjnbockdfjhfgaaDoor

/- Layer 8's code: the checker's flow. -/
namespace Go.Proofs.YtjnbockdfjhfgaaDoor
set_option linter.unusedVariables false
set_option linter.unusedSimpArgs false
open Go.RowKit Go.ChangeShapes Go.WideShapes Go.ChangeAt Go.Sort

def boolOf : Value → Bool
  | .bool b => b
  | _ => false
def rdI (w : World) (d : Nat) : List Int := match w.heap[d]? with
  | some (.cells cs _ _) => cs.toList.map intOf
  | _ => []
def rdB (w : World) (d : Nat) : List Bool := match w.heap[d]? with
  | some (.cells cs _ _) => cs.toList.map boolOf
  | _ => []
theorem rdI_of {w : World} {d : Nat} {t : TypeId} {D : List Int} (h : Held w d t (intA D)) : rdI w d = D := by
  unfold Held at h
  unfold rdI
  rw [h]
  simp [Function.comp_def, intOf]
theorem rdB_of {w : World} {d : Nat} {t : TypeId} {D : List Bool} (h : Held w d t (boolA D)) : rdB w d = D := by
  unfold Held at h
  unfold rdB
  rw [h]
  simp [Function.comp_def, boolOf]
theorem init_step {n : Nat} (hn : 0 < n) : nextsS 0 [0] (fillD n n) (List.replicate n false) = (initD n, initW n, 0) := by
  obtain ⟨m, rfl⟩ : ∃ m, n = m + 1 := ⟨n - 1, by omega⟩
  rw [fillD_all]
  unfold nextsS
  rw [if_neg (by simp), if_pos (by simp [List.replicate_succ])]
  simp [initD, initW, List.replicate_succ, nexts_nil]
end Go.Proofs.YtjnbockdfjhfgaaDoor

