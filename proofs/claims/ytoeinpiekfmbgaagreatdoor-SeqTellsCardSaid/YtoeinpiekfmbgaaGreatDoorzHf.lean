/- Layer 9: blocks of sixteen cells, two results. -/
import Derived.Test.YtoeinpiekfmbgaaGreatDoorzFdo
namespace Go.Proofs.YtoeinpiekfmbgaaGreatDoor
set_option linter.unusedVariables false
set_option linter.unusedSimpArgs false
open Gm Go.RowKit Go.ChangeShapes Go.WideShapes Go.ChangeAt Go.Sort

theorem set16 {W : World} {g : Nat} {t : TypeId} {a0 a1 a2 a3 a4 a5 a6 a7 a8 a9 a10 a11 a12 a13 a14 a15 : Value} (h : Held W g t #[a0, a1, a2, a3, a4, a5, a6, a7, a8, a9, a10, a11, a12, a13, a14, a15]) (x0 x1 x2 x3 x4 x5 x6 x7 x8 x9 x10 x11 x12 x13 x14 x15 : Value) :
    Held ((((((((((((((((W.setCell ⟨g, 0, none⟩ x0).setCell ⟨g, 1, none⟩ x1).setCell ⟨g, 2, none⟩ x2).setCell ⟨g, 3, none⟩ x3).setCell ⟨g, 4, none⟩ x4).setCell ⟨g, 5, none⟩ x5).setCell ⟨g, 6, none⟩ x6).setCell ⟨g, 7, none⟩ x7).setCell ⟨g, 8, none⟩ x8).setCell ⟨g, 9, none⟩ x9).setCell ⟨g, 10, none⟩ x10).setCell ⟨g, 11, none⟩ x11).setCell ⟨g, 12, none⟩ x12).setCell ⟨g, 13, none⟩ x13).setCell ⟨g, 14, none⟩ x14).setCell ⟨g, 15, none⟩ x15) g t #[x0, x1, x2, x3, x4, x5, x6, x7, x8, x9, x10, x11, x12, x13, x14, x15] := by
  have h1 : Held (W.setCell ⟨g, 0, none⟩ x0) g t #[x0, a1, a2, a3, a4, a5, a6, a7, a8, a9, a10, a11, a12, a13, a14, a15] := h.set_at 0 x0
  have h2 : Held ((W.setCell ⟨g, 0, none⟩ x0).setCell ⟨g, 1, none⟩ x1) g t #[x0, x1, a2, a3, a4, a5, a6, a7, a8, a9, a10, a11, a12, a13, a14, a15] := h1.set_at 1 x1
  have h3 : Held (((W.setCell ⟨g, 0, none⟩ x0).setCell ⟨g, 1, none⟩ x1).setCell ⟨g, 2, none⟩ x2) g t #[x0, x1, x2, a3, a4, a5, a6, a7, a8, a9, a10, a11, a12, a13, a14, a15] := h2.set_at 2 x2
  have h4 : Held ((((W.setCell ⟨g, 0, none⟩ x0).setCell ⟨g, 1, none⟩ x1).setCell ⟨g, 2, none⟩ x2).setCell ⟨g, 3, none⟩ x3) g t #[x0, x1, x2, x3, a4, a5, a6, a7, a8, a9, a10, a11, a12, a13, a14, a15] := h3.set_at 3 x3
  have h5 : Held (((((W.setCell ⟨g, 0, none⟩ x0).setCell ⟨g, 1, none⟩ x1).setCell ⟨g, 2, none⟩ x2).setCell ⟨g, 3, none⟩ x3).setCell ⟨g, 4, none⟩ x4) g t #[x0, x1, x2, x3, x4, a5, a6, a7, a8, a9, a10, a11, a12, a13, a14, a15] := h4.set_at 4 x4
  have h6 : Held ((((((W.setCell ⟨g, 0, none⟩ x0).setCell ⟨g, 1, none⟩ x1).setCell ⟨g, 2, none⟩ x2).setCell ⟨g, 3, none⟩ x3).setCell ⟨g, 4, none⟩ x4).setCell ⟨g, 5, none⟩ x5) g t #[x0, x1, x2, x3, x4, x5, a6, a7, a8, a9, a10, a11, a12, a13, a14, a15] := h5.set_at 5 x5
  have h7 : Held (((((((W.setCell ⟨g, 0, none⟩ x0).setCell ⟨g, 1, none⟩ x1).setCell ⟨g, 2, none⟩ x2).setCell ⟨g, 3, none⟩ x3).setCell ⟨g, 4, none⟩ x4).setCell ⟨g, 5, none⟩ x5).setCell ⟨g, 6, none⟩ x6) g t #[x0, x1, x2, x3, x4, x5, x6, a7, a8, a9, a10, a11, a12, a13, a14, a15] := h6.set_at 6 x6
  have h8 : Held ((((((((W.setCell ⟨g, 0, none⟩ x0).setCell ⟨g, 1, none⟩ x1).setCell ⟨g, 2, none⟩ x2).setCell ⟨g, 3, none⟩ x3).setCell ⟨g, 4, none⟩ x4).setCell ⟨g, 5, none⟩ x5).setCell ⟨g, 6, none⟩ x6).setCell ⟨g, 7, none⟩ x7) g t #[x0, x1, x2, x3, x4, x5, x6, x7, a8, a9, a10, a11, a12, a13, a14, a15] := h7.set_at 7 x7
  have h9 : Held (((((((((W.setCell ⟨g, 0, none⟩ x0).setCell ⟨g, 1, none⟩ x1).setCell ⟨g, 2, none⟩ x2).setCell ⟨g, 3, none⟩ x3).setCell ⟨g, 4, none⟩ x4).setCell ⟨g, 5, none⟩ x5).setCell ⟨g, 6, none⟩ x6).setCell ⟨g, 7, none⟩ x7).setCell ⟨g, 8, none⟩ x8) g t #[x0, x1, x2, x3, x4, x5, x6, x7, x8, a9, a10, a11, a12, a13, a14, a15] := h8.set_at 8 x8
  have h10 : Held ((((((((((W.setCell ⟨g, 0, none⟩ x0).setCell ⟨g, 1, none⟩ x1).setCell ⟨g, 2, none⟩ x2).setCell ⟨g, 3, none⟩ x3).setCell ⟨g, 4, none⟩ x4).setCell ⟨g, 5, none⟩ x5).setCell ⟨g, 6, none⟩ x6).setCell ⟨g, 7, none⟩ x7).setCell ⟨g, 8, none⟩ x8).setCell ⟨g, 9, none⟩ x9) g t #[x0, x1, x2, x3, x4, x5, x6, x7, x8, x9, a10, a11, a12, a13, a14, a15] := h9.set_at 9 x9
  have h11 : Held (((((((((((W.setCell ⟨g, 0, none⟩ x0).setCell ⟨g, 1, none⟩ x1).setCell ⟨g, 2, none⟩ x2).setCell ⟨g, 3, none⟩ x3).setCell ⟨g, 4, none⟩ x4).setCell ⟨g, 5, none⟩ x5).setCell ⟨g, 6, none⟩ x6).setCell ⟨g, 7, none⟩ x7).setCell ⟨g, 8, none⟩ x8).setCell ⟨g, 9, none⟩ x9).setCell ⟨g, 10, none⟩ x10) g t #[x0, x1, x2, x3, x4, x5, x6, x7, x8, x9, x10, a11, a12, a13, a14, a15] := h10.set_at 10 x10
  have h12 : Held ((((((((((((W.setCell ⟨g, 0, none⟩ x0).setCell ⟨g, 1, none⟩ x1).setCell ⟨g, 2, none⟩ x2).setCell ⟨g, 3, none⟩ x3).setCell ⟨g, 4, none⟩ x4).setCell ⟨g, 5, none⟩ x5).setCell ⟨g, 6, none⟩ x6).setCell ⟨g, 7, none⟩ x7).setCell ⟨g, 8, none⟩ x8).setCell ⟨g, 9, none⟩ x9).setCell ⟨g, 10, none⟩ x10).setCell ⟨g, 11, none⟩ x11) g t #[x0, x1, x2, x3, x4, x5, x6, x7, x8, x9, x10, x11, a12, a13, a14, a15] := h11.set_at 11 x11
  have h13 : Held (((((((((((((W.setCell ⟨g, 0, none⟩ x0).setCell ⟨g, 1, none⟩ x1).setCell ⟨g, 2, none⟩ x2).setCell ⟨g, 3, none⟩ x3).setCell ⟨g, 4, none⟩ x4).setCell ⟨g, 5, none⟩ x5).setCell ⟨g, 6, none⟩ x6).setCell ⟨g, 7, none⟩ x7).setCell ⟨g, 8, none⟩ x8).setCell ⟨g, 9, none⟩ x9).setCell ⟨g, 10, none⟩ x10).setCell ⟨g, 11, none⟩ x11).setCell ⟨g, 12, none⟩ x12) g t #[x0, x1, x2, x3, x4, x5, x6, x7, x8, x9, x10, x11, x12, a13, a14, a15] := h12.set_at 12 x12
  have h14 : Held ((((((((((((((W.setCell ⟨g, 0, none⟩ x0).setCell ⟨g, 1, none⟩ x1).setCell ⟨g, 2, none⟩ x2).setCell ⟨g, 3, none⟩ x3).setCell ⟨g, 4, none⟩ x4).setCell ⟨g, 5, none⟩ x5).setCell ⟨g, 6, none⟩ x6).setCell ⟨g, 7, none⟩ x7).setCell ⟨g, 8, none⟩ x8).setCell ⟨g, 9, none⟩ x9).setCell ⟨g, 10, none⟩ x10).setCell ⟨g, 11, none⟩ x11).setCell ⟨g, 12, none⟩ x12).setCell ⟨g, 13, none⟩ x13) g t #[x0, x1, x2, x3, x4, x5, x6, x7, x8, x9, x10, x11, x12, x13, a14, a15] := h13.set_at 13 x13
  have h15 : Held (((((((((((((((W.setCell ⟨g, 0, none⟩ x0).setCell ⟨g, 1, none⟩ x1).setCell ⟨g, 2, none⟩ x2).setCell ⟨g, 3, none⟩ x3).setCell ⟨g, 4, none⟩ x4).setCell ⟨g, 5, none⟩ x5).setCell ⟨g, 6, none⟩ x6).setCell ⟨g, 7, none⟩ x7).setCell ⟨g, 8, none⟩ x8).setCell ⟨g, 9, none⟩ x9).setCell ⟨g, 10, none⟩ x10).setCell ⟨g, 11, none⟩ x11).setCell ⟨g, 12, none⟩ x12).setCell ⟨g, 13, none⟩ x13).setCell ⟨g, 14, none⟩ x14) g t #[x0, x1, x2, x3, x4, x5, x6, x7, x8, x9, x10, x11, x12, x13, x14, a15] := h14.set_at 14 x14
  have h16 : Held ((((((((((((((((W.setCell ⟨g, 0, none⟩ x0).setCell ⟨g, 1, none⟩ x1).setCell ⟨g, 2, none⟩ x2).setCell ⟨g, 3, none⟩ x3).setCell ⟨g, 4, none⟩ x4).setCell ⟨g, 5, none⟩ x5).setCell ⟨g, 6, none⟩ x6).setCell ⟨g, 7, none⟩ x7).setCell ⟨g, 8, none⟩ x8).setCell ⟨g, 9, none⟩ x9).setCell ⟨g, 10, none⟩ x10).setCell ⟨g, 11, none⟩ x11).setCell ⟨g, 12, none⟩ x12).setCell ⟨g, 13, none⟩ x13).setCell ⟨g, 14, none⟩ x14).setCell ⟨g, 15, none⟩ x15) g t #[x0, x1, x2, x3, x4, x5, x6, x7, x8, x9, x10, x11, x12, x13, x14, x15] := h15.set_at 15 x15
  exact h16

theorem far16 (W : World) (g : Nat) (x0 x1 x2 x3 x4 x5 x6 x7 x8 x9 x10 x11 x12 x13 x14 x15 : Value) (k : Nat) (hk : k ≠ g) : ((((((((((((((((W.setCell ⟨g, 0, none⟩ x0).setCell ⟨g, 1, none⟩ x1).setCell ⟨g, 2, none⟩ x2).setCell ⟨g, 3, none⟩ x3).setCell ⟨g, 4, none⟩ x4).setCell ⟨g, 5, none⟩ x5).setCell ⟨g, 6, none⟩ x6).setCell ⟨g, 7, none⟩ x7).setCell ⟨g, 8, none⟩ x8).setCell ⟨g, 9, none⟩ x9).setCell ⟨g, 10, none⟩ x10).setCell ⟨g, 11, none⟩ x11).setCell ⟨g, 12, none⟩ x12).setCell ⟨g, 13, none⟩ x13).setCell ⟨g, 14, none⟩ x14).setCell ⟨g, 15, none⟩ x15).heap[k]? = W.heap[k]? := by
  exact (Below.heap_setCell (((((((((((((((W.setCell ⟨g, 0, none⟩ x0).setCell ⟨g, 1, none⟩ x1).setCell ⟨g, 2, none⟩ x2).setCell ⟨g, 3, none⟩ x3).setCell ⟨g, 4, none⟩ x4).setCell ⟨g, 5, none⟩ x5).setCell ⟨g, 6, none⟩ x6).setCell ⟨g, 7, none⟩ x7).setCell ⟨g, 8, none⟩ x8).setCell ⟨g, 9, none⟩ x9).setCell ⟨g, 10, none⟩ x10).setCell ⟨g, 11, none⟩ x11).setCell ⟨g, 12, none⟩ x12).setCell ⟨g, 13, none⟩ x13).setCell ⟨g, 14, none⟩ x14) ⟨g, 15, none⟩ x15 k hk).trans ((Below.heap_setCell ((((((((((((((W.setCell ⟨g, 0, none⟩ x0).setCell ⟨g, 1, none⟩ x1).setCell ⟨g, 2, none⟩ x2).setCell ⟨g, 3, none⟩ x3).setCell ⟨g, 4, none⟩ x4).setCell ⟨g, 5, none⟩ x5).setCell ⟨g, 6, none⟩ x6).setCell ⟨g, 7, none⟩ x7).setCell ⟨g, 8, none⟩ x8).setCell ⟨g, 9, none⟩ x9).setCell ⟨g, 10, none⟩ x10).setCell ⟨g, 11, none⟩ x11).setCell ⟨g, 12, none⟩ x12).setCell ⟨g, 13, none⟩ x13) ⟨g, 14, none⟩ x14 k hk).trans ((Below.heap_setCell (((((((((((((W.setCell ⟨g, 0, none⟩ x0).setCell ⟨g, 1, none⟩ x1).setCell ⟨g, 2, none⟩ x2).setCell ⟨g, 3, none⟩ x3).setCell ⟨g, 4, none⟩ x4).setCell ⟨g, 5, none⟩ x5).setCell ⟨g, 6, none⟩ x6).setCell ⟨g, 7, none⟩ x7).setCell ⟨g, 8, none⟩ x8).setCell ⟨g, 9, none⟩ x9).setCell ⟨g, 10, none⟩ x10).setCell ⟨g, 11, none⟩ x11).setCell ⟨g, 12, none⟩ x12) ⟨g, 13, none⟩ x13 k hk).trans ((Below.heap_setCell ((((((((((((W.setCell ⟨g, 0, none⟩ x0).setCell ⟨g, 1, none⟩ x1).setCell ⟨g, 2, none⟩ x2).setCell ⟨g, 3, none⟩ x3).setCell ⟨g, 4, none⟩ x4).setCell ⟨g, 5, none⟩ x5).setCell ⟨g, 6, none⟩ x6).setCell ⟨g, 7, none⟩ x7).setCell ⟨g, 8, none⟩ x8).setCell ⟨g, 9, none⟩ x9).setCell ⟨g, 10, none⟩ x10).setCell ⟨g, 11, none⟩ x11) ⟨g, 12, none⟩ x12 k hk).trans ((Below.heap_setCell (((((((((((W.setCell ⟨g, 0, none⟩ x0).setCell ⟨g, 1, none⟩ x1).setCell ⟨g, 2, none⟩ x2).setCell ⟨g, 3, none⟩ x3).setCell ⟨g, 4, none⟩ x4).setCell ⟨g, 5, none⟩ x5).setCell ⟨g, 6, none⟩ x6).setCell ⟨g, 7, none⟩ x7).setCell ⟨g, 8, none⟩ x8).setCell ⟨g, 9, none⟩ x9).setCell ⟨g, 10, none⟩ x10) ⟨g, 11, none⟩ x11 k hk).trans ((Below.heap_setCell ((((((((((W.setCell ⟨g, 0, none⟩ x0).setCell ⟨g, 1, none⟩ x1).setCell ⟨g, 2, none⟩ x2).setCell ⟨g, 3, none⟩ x3).setCell ⟨g, 4, none⟩ x4).setCell ⟨g, 5, none⟩ x5).setCell ⟨g, 6, none⟩ x6).setCell ⟨g, 7, none⟩ x7).setCell ⟨g, 8, none⟩ x8).setCell ⟨g, 9, none⟩ x9) ⟨g, 10, none⟩ x10 k hk).trans ((Below.heap_setCell (((((((((W.setCell ⟨g, 0, none⟩ x0).setCell ⟨g, 1, none⟩ x1).setCell ⟨g, 2, none⟩ x2).setCell ⟨g, 3, none⟩ x3).setCell ⟨g, 4, none⟩ x4).setCell ⟨g, 5, none⟩ x5).setCell ⟨g, 6, none⟩ x6).setCell ⟨g, 7, none⟩ x7).setCell ⟨g, 8, none⟩ x8) ⟨g, 9, none⟩ x9 k hk).trans ((Below.heap_setCell ((((((((W.setCell ⟨g, 0, none⟩ x0).setCell ⟨g, 1, none⟩ x1).setCell ⟨g, 2, none⟩ x2).setCell ⟨g, 3, none⟩ x3).setCell ⟨g, 4, none⟩ x4).setCell ⟨g, 5, none⟩ x5).setCell ⟨g, 6, none⟩ x6).setCell ⟨g, 7, none⟩ x7) ⟨g, 8, none⟩ x8 k hk).trans ((Below.heap_setCell (((((((W.setCell ⟨g, 0, none⟩ x0).setCell ⟨g, 1, none⟩ x1).setCell ⟨g, 2, none⟩ x2).setCell ⟨g, 3, none⟩ x3).setCell ⟨g, 4, none⟩ x4).setCell ⟨g, 5, none⟩ x5).setCell ⟨g, 6, none⟩ x6) ⟨g, 7, none⟩ x7 k hk).trans ((Below.heap_setCell ((((((W.setCell ⟨g, 0, none⟩ x0).setCell ⟨g, 1, none⟩ x1).setCell ⟨g, 2, none⟩ x2).setCell ⟨g, 3, none⟩ x3).setCell ⟨g, 4, none⟩ x4).setCell ⟨g, 5, none⟩ x5) ⟨g, 6, none⟩ x6 k hk).trans ((Below.heap_setCell (((((W.setCell ⟨g, 0, none⟩ x0).setCell ⟨g, 1, none⟩ x1).setCell ⟨g, 2, none⟩ x2).setCell ⟨g, 3, none⟩ x3).setCell ⟨g, 4, none⟩ x4) ⟨g, 5, none⟩ x5 k hk).trans ((Below.heap_setCell ((((W.setCell ⟨g, 0, none⟩ x0).setCell ⟨g, 1, none⟩ x1).setCell ⟨g, 2, none⟩ x2).setCell ⟨g, 3, none⟩ x3) ⟨g, 4, none⟩ x4 k hk).trans ((Below.heap_setCell (((W.setCell ⟨g, 0, none⟩ x0).setCell ⟨g, 1, none⟩ x1).setCell ⟨g, 2, none⟩ x2) ⟨g, 3, none⟩ x3 k hk).trans ((Below.heap_setCell ((W.setCell ⟨g, 0, none⟩ x0).setCell ⟨g, 1, none⟩ x1) ⟨g, 2, none⟩ x2 k hk).trans ((Below.heap_setCell (W.setCell ⟨g, 0, none⟩ x0) ⟨g, 1, none⟩ x1 k hk).trans (Below.heap_setCell W ⟨g, 0, none⟩ x0 k hk)))))))))))))))
theorem below16 {w W : World} {g : Nat} (x0 x1 x2 x3 x4 x5 x6 x7 x8 x9 x10 x11 x12 x13 x14 x15 : Value) (hg : w.heap.size ≤ g) (hb : Below w.heap.size w W) : Below w.heap.size w ((((((((((((((((W.setCell ⟨g, 0, none⟩ x0).setCell ⟨g, 1, none⟩ x1).setCell ⟨g, 2, none⟩ x2).setCell ⟨g, 3, none⟩ x3).setCell ⟨g, 4, none⟩ x4).setCell ⟨g, 5, none⟩ x5).setCell ⟨g, 6, none⟩ x6).setCell ⟨g, 7, none⟩ x7).setCell ⟨g, 8, none⟩ x8).setCell ⟨g, 9, none⟩ x9).setCell ⟨g, 10, none⟩ x10).setCell ⟨g, 11, none⟩ x11).setCell ⟨g, 12, none⟩ x12).setCell ⟨g, 13, none⟩ x13).setCell ⟨g, 14, none⟩ x14).setCell ⟨g, 15, none⟩ x15) := by
  exact ((((((((((((((((hb.setCell (p := ⟨g, 0, none⟩) hg x0).setCell (p := ⟨g, 1, none⟩) hg x1).setCell (p := ⟨g, 2, none⟩) hg x2).setCell (p := ⟨g, 3, none⟩) hg x3).setCell (p := ⟨g, 4, none⟩) hg x4).setCell (p := ⟨g, 5, none⟩) hg x5).setCell (p := ⟨g, 6, none⟩) hg x6).setCell (p := ⟨g, 7, none⟩) hg x7).setCell (p := ⟨g, 8, none⟩) hg x8).setCell (p := ⟨g, 9, none⟩) hg x9).setCell (p := ⟨g, 10, none⟩) hg x10).setCell (p := ⟨g, 11, none⟩) hg x11).setCell (p := ⟨g, 12, none⟩) hg x12).setCell (p := ⟨g, 13, none⟩) hg x13).setCell (p := ⟨g, 14, none⟩) hg x14).setCell (p := ⟨g, 15, none⟩) hg x15)

theorem Held.row {W : World} {g k : Nat} {t : TypeId} {cs : Array Value} (h : Held W g t cs) (hk : g ≠ k) (cs' : Array Value) : Held (W.setRow k cs') g t cs := (setRow_far W k cs' g hk).trans h
theorem Held.rowSelf {W : World} {g : Nat} {t : TypeId} {cs : Array Value} (h : Held W g t cs) (cs' : Array Value) : Held (W.setRow g cs') g t cs' := setRow_heap W g cs cs' t (0, 0) h
theorem RunAt.row {w : World} {B r : Nat} {pv l o s : Value} {f : Frm} (h : RunAt w B r pv l o f s) {k : Nat} (hk : Off4 r s l o k) (cs : Array Value) : RunAt (w.setRow k cs) B r pv l o f s := h.keep fun g e => setRow_far w k cs g (by
  rintro rfl
  rcases e with e | e | e | e
  · exact hk.r e
  · exact hk.s e
  · exact hk.l e
  · exact hk.o e)
theorem RunAt.own {w : World} {B r : Nat} {pv l o s : Value} {f : Frm} (h : RunAt w B r pv l o f s) : OwnF w B (fv f s l o) f := ⟨s, l, o, rfl, h.os, h.ol, h.oo⟩
/-- Two results in cells. -/
theorem results_two {P : Program} {fn : Func} {p q : Tmp} {ty1 ty2 : TypeId} (h : fn.results = #[.cell p ty1, .cell q ty2]) (tmps : Array Value) (w : World) {a1 a2 : Addr} {v1 v2 : Value} (hp : tmps.getD p undef = .pointer (some a1)) (hq : tmps.getD q undef = .pointer (some a2))
    (l1 : (loadVar ty1 a1).run P w = .ok v1 w) (l2 : (loadVar ty2 a2).run P w = .ok v2 w) : (results fn tmps).run P w = .ok (.tuple #[v1, v2]) w := by
  have hp' : tmps[p]?.getD undef = .pointer (some a1) := by simpa using hp
  have hq' : tmps[q]?.getD undef = .pointer (some a2) := by simpa using hq
  simp [results, h, hp', hq', asAddr, l1, l2]
end Go.Proofs.YtoeinpiekfmbgaaGreatDoor

/- Layer 9: frames, acts, ends that lie in variables' blocks. -/
namespace Go.Proofs.YtoeinpiekfmbgaaGreatDoor
set_option linter.unusedVariables false
set_option linter.unusedSimpArgs false
open Gm Go.RowKit Go.ChangeShapes Go.WideShapes Go.ChangeAt Go.Sort

/-- The cells of a frame. -/
structure FC (cs : Array Value) (F : Frm) : Prop where
  size : cs.size = 16
  one : cs.all (·.oneCell') = true
  c0 : cs[0]? = some (.int .i64 F.fn)
  c1 : cs[1]? = some (.int .i64 F.pc)
  c2 : ∃ A c, cs[2]? = some (.slice A F.stk.length c)
  c3 : ∃ A c, cs[3]? = some (.slice A F.loc.length c)
  c4 : ∃ A c, cs[4]? = some (.slice A F.slt.length c)
  c5 : cs[5]? = some (.int .i64 F.seed)
  c6 : cs[6]? = some (.int .i64 F.spn)
  c7 : cs[7]? = some (.int .i64 F.drw)
  c8 : cs[8]? = some (.int .i64 F.st)
  c9 : cs[9]? = some (.int .i64 F.wt)
  c13 : cs[13]? = some (.int .i64 F.uat)
  c14 : cs[14]? = some (.int .i64 F.ugn)
  c15 : cs[15]? = some (.int .i64 F.usl)
theorem FrmAt.cells {w : World} {B : Nat} {v : Value} {F : Frm} (h : FrmAt w B v F) : ∃ cs, v = .agg cs ∧ FC cs F := by
  obtain ⟨A1, c1, A2, c2, A3, c3, rfl, _, _, _⟩ := h
  exact ⟨_, rfl, rfl, by simp [Value.oneCell'], rfl, rfl, ⟨_, _, rfl⟩, ⟨_, _, rfl⟩, ⟨_, _, rfl⟩, rfl, rfl, rfl, rfl, rfl, rfl, rfl, rfl⟩
theorem OwnF.cells {w : World} {B : Nat} {v : Value} {F : Frm} (h : OwnF w B v F) : ∃ cs, v = .agg cs ∧ FC cs F := h.at.cells
theorem OwnF.mono {w : World} {B C : Nat} {v : Value} {F : Frm} (h : OwnF w B v F) (hC : C ≤ B) : OwnF w C v F := by
  obtain ⟨s, l, o, e, h1, h2, h3⟩ := h
  exact ⟨s, l, o, e, row_mono h1 hC, row_mono h2 hC, row_mono h3 hC⟩
/-- No block is turned but block k, which is no list's. -/
structure KB (w w' : World) (k : Nat) : Prop where
  size : w.heap.size ≤ w'.heap.size
  block : ∀ g, g < w.heap.size → g ≠ k → w'.heap[g]? = w.heap[g]?
theorem KB.of_below {w w' : World} (h : Below w.heap.size w w') (k : Nat) : KB w w' k := ⟨h.size, fun g hg _ => h.block g hg⟩
theorem KB.row {w w' : World} {k : Nat} (h : KB w w' k) (cs : Array Value) : KB w (w'.setRow k cs) k := ⟨by simpa [World.setRow] using h.size, fun g hg hk => (setRow_far w' k cs g hk).trans (h.block g hg hk)⟩
theorem KB.new {w w' : World} {k j : Nat} (h : KB w w' k) (hj : w.heap.size ≤ j) (cs : Array Value) : KB w (w'.setRow j cs) k := ⟨by simpa [World.setRow] using h.size, fun g hg hk => (setRow_far w' j cs g (by omega)).trans (h.block g hg hk)⟩
theorem KB.alloc {w w' : World} {k : Nat} (h : KB w w' k) (o : Obj) : KB w (w'.alloc o) k := ⟨Nat.le_trans h.size (by simp), fun g hg hk => (Below.heap_alloc w' o g (Nat.lt_of_lt_of_le hg h.size)).trans (h.block g hg hk)⟩
theorem KB.held {w w' : World} {k g : Nat} {t : TypeId} {cs : Array Value} (h : KB w w' k) (hh : Held w g t cs) (hne : g ≠ k) : Held w' g t cs := (h.block g hh.lt hne).trans hh
/-- A block of another type is no list's. -/
theorem row_apart {w : World} {B n size k : Nat} {e t : TypeId} {v : Value} {xs : List Value} {cs : Array Value} (h : w.ownsRow B e size v n xs) (hk : Held w k t cs) (ht : t ≠ e) : ∀ g, v.ownBlock = some g → g ≠ k := by
  rintro g hg rfl
  rcases h.2 with ⟨rfl, _⟩ | ⟨g', cap, cur, rfl, _, hh, _⟩
  · simp [Value.ownBlock] at hg
  · simp only [Value.ownBlock, Option.some.injEq] at hg
    subst hg
    rw [Held] at hk
    rw [hk] at hh
    simp at hh
    exact ht hh.2
theorem OwnF.kb {w w' : World} {B k : Nat} {v : Value} {F : Frm} {t : TypeId} {cs : Array Value} (h : OwnF w B v F) (hk : Held w k t cs) (ht : t ≠ 30) (ht2 : t ≠ 75) (hb : KB w w' k) : OwnF w' B v F := by
  obtain ⟨s, l, o, rfl, h1, h2, h3⟩ := h
  exact ⟨s, l, o, rfl, row_same h1 fun g e => hb.block g (h1.lt g e).2 (row_apart h1 hk ht g e), row_same h2 fun g e => hb.block g (h2.lt g e).2 (row_apart h2 hk ht g e), row_same h3 fun g e => hb.block g (h3.lt g e).2 (row_apart h3 hk ht2 g e)⟩
theorem ActO.kb {w w' : World} {B k : Nat} {v : Value} {a : ActP} {t : TypeId} {cs : Array Value} (h : ActO w B v a) (hk : Held w k t cs) (ht : t ≠ 30) (hb : KB w w' k) : ActO w' B v a := by
  obtain ⟨A, c, rfl, h1⟩ := h
  exact ⟨A, c, rfl, row_same h1 fun g e => hb.block g (h1.lt g e).2 (row_apart h1 hk ht g e)⟩
theorem OwnF.below {w w' : World} {B : Nat} {v : Value} {F : Frm} (h : OwnF w B v F) (hb : Below w.heap.size w w') : OwnF w' B v F := by
  obtain ⟨s, l, o, rfl, h1, h2, h3⟩ := h
  exact ⟨s, l, o, rfl, row_same h1 fun g e => hb.block g (h1.lt g e).2, row_same h2 fun g e => hb.block g (h2.lt g e).2, row_same h3 fun g e => hb.block g (h3.lt g e).2⟩
theorem ActO.below {w w' : World} {B : Nat} {v : Value} {a : ActP} (h : ActO w B v a) (hb : Below w.heap.size w w') : ActO w' B v a := by
  obtain ⟨A, c, rfl, h1⟩ := h
  exact ⟨A, c, rfl, row_same h1 fun g e => hb.block g (h1.lt g e).2⟩
/-- The cells of an act. -/
structure AC (cs : Array Value) (a : ActP) : Prop where
  size : cs.size = 5
  one : cs.all (·.oneCell') = true
  c0 : cs[0]? = some (.int .i64 a.kd)
  c1 : cs[1]? = some (.int .i64 a.fn)
  c2 : cs[2]? = some (.int .i64 a.sl)
  c3 : cs[3]? = some (.int .i64 a.sd)
  c4 : ∃ A c, cs[4]? = some (.slice A a.ar.length c)
theorem ActO.cells {w : World} {B : Nat} {v : Value} {a : ActP} (h : ActO w B v a) : ∃ cs, v = .agg cs ∧ AC cs a := by
  obtain ⟨A, c, rfl, _⟩ := h
  exact ⟨_, rfl, rfl, by simp [Value.oneCell'], rfl, rfl, rfl, rfl, ⟨_, _, rfl⟩⟩
/-- Block g is a variable that holds this frame, this act. -/
structure FB (W : World) (B g : Nat) (cs : Array Value) (F : Frm) : Prop where
  held : Held W g 45 cs
  own : OwnF W 0 (.agg cs) F
  fc : FC cs F
  ge : B ≤ g
structure AB (W : World) (B g : Nat) (cs : Array Value) (a : ActP) : Prop where
  held : Held W g 77 cs
  own : ActO W 0 (.agg cs) a
  ac : AC cs a
  ge : B ≤ g
theorem FB.kb {W W' : World} {B g k : Nat} {cs cs0 : Array Value} {F : Frm} {t : TypeId} (h : FB W B g cs F) (hk : Held W k t cs0) (ht : t ≠ 30) (ht2 : t ≠ 75) (hb : KB W W' k) (hne : g ≠ k) : FB W' B g cs F := ⟨hb.held h.held hne, h.own.kb hk ht ht2 hb, h.fc, h.ge⟩
theorem AB.kb {W W' : World} {B g k : Nat} {cs cs0 : Array Value} {a : ActP} {t : TypeId} (h : AB W B g cs a) (hk : Held W k t cs0) (ht : t ≠ 30) (hb : KB W W' k) (hne : g ≠ k) : AB W' B g cs a := ⟨hb.held h.held hne, h.own.kb hk ht hb, h.ac, h.ge⟩
theorem FB.below {W W' : World} {B g : Nat} {cs : Array Value} {F : Frm} (h : FB W B g cs F) (hb : Below W.heap.size W W') : FB W' B g cs F := ⟨h.held.below hb, h.own.below hb, h.fc, h.ge⟩
theorem AB.below {W W' : World} {B g : Nat} {cs : Array Value} {a : ActP} (h : AB W B g cs a) (hb : Below W.heap.size W W') : AB W' B g cs a := ⟨h.held.below hb, h.own.below hb, h.ac, h.ge⟩
theorem FB.lt {W : World} {B g : Nat} {cs : Array Value} {F : Frm} (h : FB W B g cs F) : g < W.heap.size := h.held.lt
theorem AB.lt {W : World} {B g : Nat} {cs : Array Value} {a : ActP} (h : AB W B g cs a) : g < W.heap.size := h.held.lt
theorem tyFV : 45 ≠ 30 := by decide
theorem tyFS : 45 ≠ 75 := by decide
theorem tyAV : 77 ≠ 30 := by decide
theorem tyAS : 77 ≠ 75 := by decide
theorem tyAF : 77 ≠ 45 := by decide
theorem held_ne {W : World} {g k : Nat} {t u : TypeId} {a b : Array Value} (h : Held W g t a) (h2 : Held W k u b) (hne : t ≠ u) : g ≠ k := by
  rintro rfl
  rw [Held] at h h2
  rw [h] at h2
  simp at h2
  exact hne h2.2
theorem fb_info {cs : Array Value} {F : Frm} (h : FC cs F) : (Tryz.prog.info? 45).map (·.size) = some cs.size := by rw [h.size]; kernel_rfl
theorem ab_info {cs : Array Value} {a : ActP} (h : AC cs a) : (Tryz.prog.info? 77).map (·.size) = some cs.size := by rw [h.size]; kernel_rfl
theorem below_row {B : Nat} {w W : World} (h : Below B w W) {k : Nat} (hk : B ≤ k) (cs : Array Value) : Below B w (W.setRow k cs) := below_setRow h hk cs
theorem FB.top {W : World} {B g : Nat} {cs : Array Value} {F : Frm} (h : FB W B g cs F) {x : V} (hx : F.stk = [x]) : ∃ b c, cs[2]? = some (.slice (some ⟨b, 0, none⟩) 1 c) ∧ W.cell? ⟨b, 0, none⟩ = some (.int .i64 x.1) ∧ W.cell? ⟨b, 1, none⟩ = some (.int .i64 x.2) := by
  obtain ⟨s, l, o, e, h1, _, _⟩ := h.own
  rw [hx] at h1
  obtain ⟨b, c', e2⟩ := own_form h1 (by simp)
  rw [e2] at h1 e
  have k := own_vs h1 (k := 0) (by simp)
  simp only [Value.agg.injEq] at e
  subst e
  exact ⟨b, c', rfl, k.1, k.2.1⟩
/-- Block g is a parameter that is this frame, whose lists lie below B. -/
structure PB (W : World) (B g : Nat) (cs : Array Value) (F : Frm) : Prop where
  held : Held W g 45 cs
  at_ : FrmAt W B (.agg cs) F
  fc : FC cs F
  le : B ≤ W.heap.size
theorem PB.below {W W' : World} {B g : Nat} {cs : Array Value} {F : Frm} (h : PB W B g cs F) (hb : Below W.heap.size W W') : PB W' B g cs F := ⟨h.held.below hb, h.at_.below hb h.le, h.fc, Nat.le_trans h.le hb.size⟩
theorem wpList_box_arr {P : Program} {ops : Array Oper} {rest : List Oper} {o : Oper} {a : Act} {w : World} {Q : Exit → Act → World → Prop} (hg : o.guard = none) (t : TypeId) (x : Operand) (ho : o.op = .box t x)
    (cells : Array Value) (hx : a.eval x = .agg cells) (h : wpList P ops Q rest (a.put o.dst (.pointer (some ⟨w.heap.size, 0, none⟩))) (w.alloc (.cells cells t))) : wpList P ops Q (o :: rest) a w := by
  refine wpList_plain hg fun K hK => ?_
  unfold Oper.wp execOp
  simp only [ho, Sem.run_bind, Instr.box, newVar, newRow, run_newObj_alloc, Sem.run_pure, Result.andThen_ok, hx, Value.cells]
  exact hK _ _ h
end Go.Proofs.YtoeinpiekfmbgaaGreatDoor

