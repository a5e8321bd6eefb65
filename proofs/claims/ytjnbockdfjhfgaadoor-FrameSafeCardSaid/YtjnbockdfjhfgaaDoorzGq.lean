/- Layer 8's code: the checker in memory. -/
import Derived.Test.YtjnbockdfjhfgaaDoorzHa
import Derived.Test.YtjnbockdfjhfgaaDoorzGh
import Derived.Test.YtjnbockdfjhfgaaDoorzHj
import Derived.Test.YtjnbockdfjhfgaaDoorzOps
import Derived.Test.YtjnbockdfjhfgaaDoorzGc
import Derived.OpenShut
import Derived.Lib.Hide
import Derived.WalkMore
import Derived.Handy
import Derived.BigQuiet
import Derived.Deep.QuietTactic
import Derived.RegionTactic
import Derived.Deep.OwnRows
import Derived.Deep.DeepCutAuto
import Derived.Deep.CutBlock
import Derived.Deep.RegionHeld3
namespace Go.Proofs.YtjnbockdfjhfgaaDoor
set_option linter.unusedVariables false
set_option linter.unusedSimpArgs false
open Go.RowKit Go.ChangeShapes Go.WideShapes Go.ChangeAt Go.Sort

abbrev intA (D : List Int) : Array Value := (D.map fun d => Value.int .i64 d).toArray
abbrev boolA (D : List Bool) : Array Value := (D.map fun d => Value.bool d).toArray
theorem intA_get (D : List Int) (i : Nat) : (intA D)[i]? = D[i]?.map fun d => Value.int .i64 d := by simp
theorem boolA_get (D : List Bool) (i : Nat) : (boolA D)[i]? = D[i]?.map fun d => Value.bool d := by simp

end Go.Proofs.YtjnbockdfjhfgaaDoor

/- Layer 8's code: begin. -/
namespace Go.Proofs.YtjnbockdfjhfgaaDoor
set_option linter.unusedVariables false
set_option linter.unusedSimpArgs false
open Go.RowKit Go.ChangeShapes Go.WideShapes Go.ChangeAt Go.Sort

theorem infoI : (Tryd.prog.info? 3).map (fun i => (i.zero, i.size, i.bytes)) = some (some (.int .i64 0), 1, 8) := by kernel_rfl
theorem infoB : (Tryd.prog.info? 4).map (fun i => (i.zero, i.size, i.bytes)) = some (some (.bool false), 1, 1) := by kernel_rfl
theorem made_int (n : Nat) : madeCells #[Value.int .i64 0] n = intA (List.replicate n 0) := by
  apply Array.ext'
  rw [toList_madeCells_one]
  simp
theorem made_bool (n : Nat) : madeCells #[Value.bool false] n = boolA (List.replicate n false) := by
  apply Array.ext'
  rw [toList_madeCells_one]
  simp
theorem make_ints {n : Nat} (hn : n ≤ 1000000) (w : World) : (Instr.makeSlice 43 (.int .i64 (n : Int)) (.int .i64 (n : Int))).run Tryd.prog w = .ok (.slice (some ⟨w.heap.size, 0, none⟩) n n) (w.alloc (.cells (intA (List.replicate n 0)) 3)) := by
  have := run_make_row' (P := Tryd.prog) 43 3 (.int .i64 0) 8 Tryd.underlying43 infoI rfl .i64 .i64 n (by omega) (by omega) w
  rwa [made_int] at this
theorem make_bools {n : Nat} (hn : n ≤ 1000000) (w : World) : (Instr.makeSlice 93 (.int .i64 (n : Int)) (.int .i64 (n : Int))).run Tryd.prog w = .ok (.slice (some ⟨w.heap.size, 0, none⟩) n n) (w.alloc (.cells (boolA (List.replicate n false)) 4)) := by
  have := run_make_row' (P := Tryd.prog) 93 4 (.bool false) 1 Tryd.underlying93 infoB rfl .i64 .i64 n (by omega) (by omega) w
  rwa [made_bool] at this
theorem intA_set (D : List Int) (i : Nat) (x : Int) : (intA D).setIfInBounds i (.int .i64 x) = intA (D.set i x) := by
  apply Array.ext'
  simp [List.map_set]
theorem boolA_set (D : List Bool) (i : Nat) (x : Bool) : (boolA D).setIfInBounds i (.bool x) = boolA (D.set i x) := by
  apply Array.ext'
  simp [List.map_set]

/-- Depths, as far as they were laid: none is reached. -/
def fillD (n j : Nat) : List Int := List.replicate j (-1) ++ List.replicate (n - j) 0
theorem fillD_zero (n : Nat) : List.replicate n 0 = fillD n 0 := by simp [fillD]
theorem fillD_all (n : Nat) : fillD n n = List.replicate n (-1) := by simp [fillD]
theorem fillD_len {n j : Nat} (h : j ≤ n) : (fillD n j).length = n := by simp [fillD]; omega
theorem fillD_set {n j : Nat} (h : j < n) : (fillD n j).set j (-1) = fillD n (j + 1) := by
  unfold fillD
  apply List.ext_getElem?
  intro i
  rw [List.getElem?_set]
  simp only [List.getElem?_append, List.getElem?_replicate, List.length_replicate, List.length_append]
  split <;> (repeat' split) <;> first | rfl | omega
theorem ints_set {W : World} {g : Nat} {t : TypeId} {D : List Int} (h : Held W g t (intA D)) (i : Nat) (x : Int) : Held (W.setCell ⟨g, i, none⟩ (.int .i64 x)) g t (intA (D.set i x)) := by
  have := h.set_at i (.int .i64 x)
  rwa [intA_set] at this
theorem bools_set {W : World} {g : Nat} {t : TypeId} {D : List Bool} (h : Held W g t (boolA D)) (i : Nat) (x : Bool) : Held (W.setCell ⟨g, i, none⟩ (.bool x)) g t (boolA (D.set i x)) := by
  have := h.set_at i (.bool x)
  rwa [boolA_set] at this
theorem ints_cell {W : World} {g : Nat} {t : TypeId} {D : List Int} (h : Held W g t (intA D)) {i : Nat} (hi : i < D.length) : W.cell? ⟨g, i, none⟩ = some (.int .i64 D[i]) := by
  rw [h.cell, intA_get, List.getElem?_eq_getElem hi]; rfl
theorem bools_cell {W : World} {g : Nat} {t : TypeId} {D : List Bool} (h : Held W g t (boolA D)) {i : Nat} (hi : i < D.length) : W.cell? ⟨g, i, none⟩ = some (.bool D[i]) := by
  rw [h.cell, boolA_get, List.getElem?_eq_getElem hi]; rfl

theorem set7 {W : World} {g : Nat} {t : TypeId} {a0 a1 a2 a3 a4 a5 a6 : Value} (h : Held W g t #[a0, a1, a2, a3, a4, a5, a6]) (x0 x1 x2 x3 x4 x5 x6 : Value) :
    Held (((((((W.setCell ⟨g, 0, none⟩ x0).setCell ⟨g, 1, none⟩ x1).setCell ⟨g, 2, none⟩ x2).setCell ⟨g, 3, none⟩ x3).setCell ⟨g, 4, none⟩ x4).setCell ⟨g, 5, none⟩ x5).setCell ⟨g, 6, none⟩ x6) g t #[x0, x1, x2, x3, x4, x5, x6] := by
  unfold Held at *
  simp [World.setCell, Array.getElem?_modify, h]
theorem far7 {W : World} {g k : Nat} {t : TypeId} {cs : Array Value} (h : Held W g t cs) (hk : g ≠ k) (x0 x1 x2 x3 x4 x5 x6 : Value) :
    Held (((((((W.setCell ⟨k, 0, none⟩ x0).setCell ⟨k, 1, none⟩ x1).setCell ⟨k, 2, none⟩ x2).setCell ⟨k, 3, none⟩ x3).setCell ⟨k, 4, none⟩ x4).setCell ⟨k, 5, none⟩ x5).setCell ⟨k, 6, none⟩ x6) g t cs :=
  ((((((h.far hk 0 x0).far hk 1 x1).far hk 2 x2).far hk 3 x3).far hk 4 x4).far hk 5 x5).far hk 6 x6
theorem set7b {w v : World} {B k : Nat} (hk : B ≤ k) (h : Below B w v) (x0 x1 x2 x3 x4 x5 x6 : Value) :
    Below B w (((((((v.setCell ⟨k, 0, none⟩ x0).setCell ⟨k, 1, none⟩ x1).setCell ⟨k, 2, none⟩ x2).setCell ⟨k, 3, none⟩ x3).setCell ⟨k, 4, none⟩ x4).setCell ⟨k, 5, none⟩ x5).setCell ⟨k, 6, none⟩ x6) :=
  ((((((h.setCell hk _).setCell hk _).setCell hk _).setCell hk _).setCell hk _).setCell hk _).setCell hk _
theorem new7 (W : World) (k : Nat) (x0 x1 x2 x3 x4 x5 x6 : Value) (t : TypeId) (cs : Array Value) :
    Held ((((((((W.setCell ⟨k, 0, none⟩ x0).setCell ⟨k, 1, none⟩ x1).setCell ⟨k, 2, none⟩ x2).setCell ⟨k, 3, none⟩ x3).setCell ⟨k, 4, none⟩ x4).setCell ⟨k, 5, none⟩ x5).setCell ⟨k, 6, none⟩ x6).alloc (.cells cs t)) W.heap.size t cs := by
  have := Held.new (((((((W.setCell ⟨k, 0, none⟩ x0).setCell ⟨k, 1, none⟩ x1).setCell ⟨k, 2, none⟩ x2).setCell ⟨k, 3, none⟩ x3).setCell ⟨k, 4, none⟩ x4).setCell ⟨k, 5, none⟩ x5).setCell ⟨k, 6, none⟩ x6) t cs
  simpa [World.setCell] using this

end Go.Proofs.YtjnbockdfjhfgaaDoor

/- Layer 8's code: the checker's parts. -/
namespace Go.Proofs.YtjnbockdfjhfgaaDoor
set_option linter.unusedVariables false
set_option linter.unusedSimpArgs false
open Go.RowKit Go.ChangeShapes Go.WideShapes Go.ChangeAt Go.Sort

theorem Otab.far {w : World} (h : Otab w) {k : Nat} (hk : 1 ≠ k) (i : Nat) (x : Value) : Otab (w.setCell ⟨k, i, none⟩ x) := by
  obtain ⟨ty, h⟩ := h
  exact ⟨ty, h.far hk i x⟩
section
variable {B g d v : Nat} {Ap : Option Addr} {cp : Nat} {p : List Fun} {f : Fun} {Ac : Option Addr} {cc : Nat} {D : List Int} {V : List Bool} {w w' : World}
end

/-- At most memory of one's own is made, and blocks d and v turned. -/
structure Only (d v : Nat) (w w' : World) : Prop where
  os : w'.os = w.os
  tape : w'.tape = w.tape
  output : w'.output = w.output
  size : w.heap.size ≤ w'.heap.size
  block : ∀ k, k < w.heap.size → k ≠ d → k ≠ v → w'.heap[k]? = w.heap[k]?
theorem Only.refl (d v : Nat) (w : World) : Only d v w w := ⟨rfl, rfl, rfl, Nat.le_refl _, fun _ _ _ _ => rfl⟩
theorem Only.trans {d v : Nat} {a b c : World} (h : Only d v a b) (h1 : Only d v b c) : Only d v a c :=
  ⟨h1.os.trans h.os, h1.tape.trans h.tape, h1.output.trans h.output, Nat.le_trans h.size h1.size, fun k hk hd hv => (h1.block k (Nat.lt_of_lt_of_le hk h.size) hd hv).trans (h.block k hk hd hv)⟩
theorem Only.of_below {d v : Nat} {w w' : World} (h : Below w.heap.size w w') : Only d v w w' := ⟨h.os, h.tape, h.output, h.size, fun k hk _ _ => h.block k hk⟩
theorem Only.to_below {d v B : Nat} {w w' : World} (h : Only d v w w') (hB : B ≤ w.heap.size) (hd : B ≤ d) (hv : B ≤ v) : Below B w w' := ⟨h.os, h.tape, h.output, h.size, fun k hk => h.block k (by omega) (by omega) (by omega)⟩
theorem Only.set {d v : Nat} {w w' : World} (h : Only d v w w') {k : Nat} (hk : k = d ∨ k = v) (i : Nat) (x : Value) : Only d v w (w'.setCell ⟨k, i, none⟩ x) :=
  ⟨h.os, h.tape, h.output, by simpa [World.setCell] using h.size, fun j hj hd hv => (Below.heap_setCell w' ⟨k, i, none⟩ x j (by show j ≠ k; rcases hk with rfl | rfl <;> assumption)).trans (h.block j hj hd hv)⟩
theorem Only.drew {d v : Nat} {w w' : World} (h : Only d v w w') : Only d v w w'.drew := ⟨h.os, h.tape, h.output, h.size, h.block⟩
theorem Only.drewN {d v : Nat} {w w' : World} (h : Only d v w w') (n : Nat) : Only d v w (w'.drewN n) := h.trans (Only.of_below (below_drewN (Below.refl _ _) n))
theorem Held.only {d v : Nat} {w w' : World} {g : Nat} {t : TypeId} {cs : Array Value} (h : Held w g t cs) (ho : Only d v w w') (hd : g ≠ d) (hv : g ≠ v) : Held w' g t cs := (ho.block g h.lt hd hv).trans h

/-- A value that is a list of ints of a block of its own. -/
def LstAt (w : World) (B : Nat) (x : Value) (l : List Int) : Prop := (l = [] ∧ x = .slice none 0 0) ∨ ∃ b, x = .slice (some ⟨b, 0, none⟩) l.length l.length ∧ B ≤ b ∧ Held w b 3 (intA l)
theorem LstAt.slice {w : World} {B : Nat} {x : Value} {l : List Int} (h : LstAt w B x l) : ∃ A c, x = .slice A l.length c ∧ ∀ i (hi : i < l.length), ∃ b, A = some ⟨b, 0, none⟩ ∧ B ≤ b ∧ w.cell? ⟨b, i, none⟩ = some (.int .i64 l[i]) := by
  rcases h with ⟨rfl, rfl⟩ | ⟨b, rfl, hB, h⟩
  · exact ⟨none, 0, rfl, fun i hi => by simp at hi⟩
  · exact ⟨_, _, rfl, fun i hi => ⟨b, rfl, hB, ints_cell h hi⟩⟩
theorem LstAt.below {w w' : World} {B : Nat} {x : Value} {l : List Int} (h : LstAt w B x l) (hb : Below w.heap.size w w') : LstAt w' B x l := by
  rcases h with h | ⟨b, h1, h2, h3⟩
  · exact .inl h
  · exact .inr ⟨b, h1, h2, h3.below hb⟩

end Go.Proofs.YtjnbockdfjhfgaaDoor

/- Layer 8's code: the checker's fields. -/
namespace Go.Proofs.YtjnbockdfjhfgaaDoor
set_option linter.unusedVariables false
set_option linter.unusedSimpArgs false
open Go.RowKit Go.ChangeShapes Go.WideShapes Go.ChangeAt Go.Sort

theorem Cs.quiet {P : Program} {f : Nat} {args : Array Value} {v : Value} (h : Cs P f args v) (W : World) (n : Nat) : Calls P f args (W.drewN n) fun e w' => e = .returned v ∧ ∃ m, w' = W.drewN m :=
  (h (W.drewN n)).mono fun e w' ⟨he, hw⟩ => ⟨he, n, hw.symm⟩
theorem field_load {p : List Fun} {f : Fun} {o a b : Int} (h : o = 1 ∨ o = 2) : fieldI p f (o, a, b) = if decide (a < f.lo) = true then 0 else 82 := by
  unfold fieldI
  simp only
  by_cases h1 : a < f.lo
  · rw [if_neg (by omega), if_neg (by omega), if_pos (by simpa using h1)]
  · rw [if_pos (by omega), if_neg (by simpa using h1)]
theorem field_join {p : List Fun} {f : Fun} {o a b : Int} (h : o = 14) : fieldI p f (o, a, b) = if decide (a < f.sl) = true then 0 else 82 := by
  unfold fieldI
  simp only
  by_cases h1 : a < f.sl
  · rw [if_neg (by omega), if_neg (by omega), if_pos (by simpa using h1)]
  · rw [if_pos (by omega), if_neg (by simpa using h1)]
theorem field_spawn {p : List Fun} {f : Fun} {o a b : Int} (h : o = 13) : fieldI p f (o, a, b) = if (decide (a < p.length) && decide (b < f.sl)) = true then 0 else 82 := by
  unfold fieldI
  simp only
  by_cases h1 : a < p.length ∧ b < f.sl
  · rw [if_neg (by omega), if_neg (by omega), if_pos (by simpa using h1)]
  · rw [if_pos (by omega), if_neg (by simp only [Bool.and_eq_true, decide_eq_true_eq]; exact h1)]
theorem field_jump {p : List Fun} {f : Fun} {o a b : Int} (h : o = 10 ∨ o = 11) : fieldI p f (o, a, b) = if decide (a < (f.code.length : Int)) = true then 0 else 83 := by
  unfold fieldI
  simp only
  by_cases h1 : a < (f.code.length : Int)
  · rw [if_neg (by omega), if_neg (by omega), if_pos (by simpa using h1)]
  · rw [if_neg (by omega), if_pos (by omega), if_neg (by simpa using h1)]
theorem field_none {p : List Fun} {f : Fun} {o a b : Int} (h : ¬ (o = 1 ∨ o = 2 ∨ o = 14 ∨ o = 13 ∨ o = 10 ∨ o = 11)) : fieldI p f (o, a, b) = 0 := by
  unfold fieldI
  simp only
  rw [if_neg (by omega), if_neg (by omega)]

end Go.Proofs.YtjnbockdfjhfgaaDoor

