/- Layer 9, plain: the frame that spawns, and joins. -/
import Derived.Test.YtjnbockdfjhfgaaDoorzHa
import Derived.Test.YtjnbockdfjhfgaaDoorzFnw
namespace Go.Proofs.YtjnbockdfjhfgaaDoor
set_option linter.unusedVariables false
set_option linter.unusedSimpArgs false
open Gm Go Go.RowKit

def p10 : List Fun := [⟨1, 1, 1, [(1, 0, 0), (13, 0, 0), (14, 0, 0), (14, 0, 0), (15, 0, 0)]⟩]
def t10 : List UInt8 := [102, 117, 110, 99, 32, 49, 32, 49, 32, 49, 10, 108, 111, 97, 100, 32, 48, 10, 115, 112, 97, 119, 110, 32, 48, 32, 48, 10, 106, 111, 105, 110, 32, 48, 10, 106, 111, 105, 110, 32, 48, 10, 114, 101, 116, 10]
theorem p10_of : (parseP t10).1 = p10 := by kernel_rfl
def j0 (v : V) : Frm := ⟨0, 0, [], [v], [slt0], 1, 0, 0, 0, 0, 0, 0, 0, -1, 0, 0⟩
def j1 (v : V) : Frm := ⟨0, 1, [v], [v], [slt0], 1, 0, 0, 0, 0, 0, 0, 0, -1, 0, 0⟩
def j2 (v : V) : Frm := ⟨0, 2, [], [v], [⟨1, -1, 0, 0, 0, 0⟩], 1, 1, 0, 0, 0, 0, 0, 0, -1, 0, 0⟩
def j3 (v : V) : Frm := ⟨0, 2, [], [v], [⟨1, -1, 0, 0, 0, 0⟩], 1, 1, 0, 1, 0, 0, 0, 0, -1, 0, 0⟩
def j4 (v : V) (t x y : Int) : Frm := ⟨0, 2, [], [v], [⟨2, -1, 0, t, x, y⟩], 1, 1, 0, 0, 0, 0, 0, 0, -1, 0, 0⟩
def j5 (v : V) (t : Int) : Frm := ⟨0, 2, [], [v], [slt0], 1, 1, 0, 2, 0, t, 0, 0, -1, 0, 0⟩
def j6 (v : V) (x y : Int) : Frm := ⟨0, 3, [(x, y)], [v], [slt0], 1, 1, 0, 0, 0, 0, 0, 0, -1, 0, 0⟩
def j7 (v : V) (x y : Int) : Frm := ⟨0, 3, [(x, y)], [v], [slt0], 1, 1, 0, 2, 0, 2, 0, 0, -1, 0, 0⟩
def a10 (v : V) : ActP := ⟨2, 0, 0, useZ 1 1 0, [v]⟩
theorem may10 : mayP p10 = true := by decide +kernel
theorem new10 (a b : Int) (h : mayB a b = true) : newF p10 0 [(a, b)] 1 = (j0 (a, b), true) := by
  rw [newF_at may10 (by decide) (by decide) (g := ⟨1, 1, 1, [(1, 0, 0), (13, 0, 0), (14, 0, 0), (14, 0, 0), (15, 0, 0)]⟩) rfl, if_pos ⟨by decide, by simp, by simpa using h⟩]
  rfl
theorem new10_no (a b : Int) (h : mayB a b = false) : newF p10 0 [(a, b)] 1 = (frm0, false) := by
  rw [newF_at may10 (by decide) (by decide) (g := ⟨1, 1, 1, [(1, 0, 0), (13, 0, 0), (14, 0, 0), (14, 0, 0), (15, 0, 0)]⟩) rfl, if_neg]
  rintro ⟨_, _, e⟩
  simp [h] at e
theorem do10a (v : V) : doF p10 (j0 v) = (j1 v, actK 1) := by kernel_rfl
theorem do10b (v : V) : doF p10 (j1 v) = (j2 v, a10 v) := by kernel_rfl
theorem do10c (v : V) : doF p10 (j2 v) = (j3 v, actK 3) := by kernel_rfl
theorem give10 (v : V) (t x y : Int) : giveF (j3 v) 0 t (x, y) = (j4 v t x y, true) := by kernel_rfl
theorem do10d (v : V) (t x y : Int) : doF p10 (j4 v t x y) = if t ≠ 0 then (j5 v t, actK 4) else (j6 v x y, actK 1) := by
  have hf : fetchF p10 (j4 v t x y) = ((14, 0, 0), 0) := by kernel_rfl
  have hd : depthF p10 (j4 v t x y) (14, 0, 0) = 0 := by kernel_rfl
  have he : execF p10 (j4 v t x y) (14, 0, 0) = if t ≠ 0 then ({ j4 v t x y with slt := [slt0] }, act0, t) else (goF (pushF { j4 v t x y with slt := [slt0] } [(x, y)]) 3, actK 1, 0) := by kernel_rfl
  have h0 : doF p10 (j4 v t x y) = runF p10 (j4 v t x y) := by kernel_rfl
  rw [h0]
  unfold runF
  rw [hf]
  simp only
  rw [if_neg (by simp), hd, if_neg (by simp), he]
  by_cases h : t = 0
  · subst h
    rfl
  · rw [if_pos h, if_pos h]
    simp only
    rw [if_pos h]
    rfl
theorem do10e (v : V) (x y : Int) : doF p10 (j6 v x y) = (j7 v x y, actK 4) := by kernel_rfl
theorem fin10a (v : V) (t : Int) (h : t ≠ 0) : finF (j5 v t) = (t, (0, 0), true) := by
  unfold finF
  rw [if_neg (by simp [j5, slt0]), if_pos (by simpa [j5] using h)]
  rfl
theorem fin10b (v : V) (x y : Int) : finF (j7 v x y) = (2, (0, 0), true) := by kernel_rfl
end Go.Proofs.YtjnbockdfjhfgaaDoor

