/- Layer 1: the reader. -/
import Derived.Test.YteikmkbaokfgeaaWx
import Derived.Deep.QuietTactic
import Derived.BigQuiet
import Derived.Deep.Draws
import Derived.Deep.OwnRows
import Derived.WalkSpells
namespace Go.Proofs.Yteikmkbaokfgeaa
set_option linter.unusedVariables false
set_option linter.unusedSimpArgs false
open Go.RowKit Go.ChangeShapes Go.WideShapes Go.ChangeAt

/-- A reader lies in block b: its text, where it stands, its error. -/
def Rd (w : World) (b : Nat) (s : ByteArray) (a e : Int) : Prop := w.heap[b]? = some (.cells #[.string s, .int .i64 a, .int .i64 e] 65)

theorem Rd.lt {w : World} {b : Nat} {s : ByteArray} {a e : Int} (h : Rd w b s a e) : b < w.heap.size := by
  rcases Nat.lt_or_ge b w.heap.size with hlt | hge
  · exact hlt
  · unfold Rd at h; rw [Array.getElem?_eq_none hge] at h; cases h
theorem Rd.c0 {w : World} {b : Nat} {s : ByteArray} {a e : Int} (h : Rd w b s a e) : w.cell? ⟨b, 0, none⟩ = some (.string s) := by unfold Rd at h; simp [World.cell?, h]
theorem Rd.c1 {w : World} {b : Nat} {s : ByteArray} {a e : Int} (h : Rd w b s a e) : w.cell? ⟨b, 1, none⟩ = some (.int .i64 a) := by unfold Rd at h; simp [World.cell?, h]
theorem Rd.c2 {w : World} {b : Nat} {s : ByteArray} {a e : Int} (h : Rd w b s a e) : w.cell? ⟨b, 2, none⟩ = some (.int .i64 e) := by unfold Rd at h; simp [World.cell?, h]
theorem Rd.fz {w : World} {b : Nat} {s : ByteArray} {a e : Int} (h : Rd w b s a e) (i : Nat) : w.frozen? ⟨b, i, none⟩ = false := by unfold Rd at h; simp [World.frozen?, h]
theorem Rd.set1 {w : World} {b : Nat} {s : ByteArray} {a e : Int} (h : Rd w b s a e) (a' : Int) : Rd (w.setCell ⟨b, 1, none⟩ (.int .i64 a')) b s a' e := by
  unfold Rd at h ⊢; simp [World.setCell, Array.getElem?_modify, h]
theorem Rd.set2 {w : World} {b : Nat} {s : ByteArray} {a e : Int} (h : Rd w b s a e) (e' : Int) : Rd (w.setCell ⟨b, 2, none⟩ (.int .i64 e')) b s a e' := by
  unfold Rd at h ⊢; simp [World.setCell, Array.getElem?_modify, h]
theorem Rd.drewN {w : World} {b : Nat} {s : ByteArray} {a e : Int} (h : Rd w b s a e) (n : Nat) : Rd (w.drewN n) b s a e := h
theorem Rd.below {w w' : World} {b : Nat} {s : ByteArray} {a e : Int} {B : Nat} (h : Rd w b s a e) (hb : Below B w w') (hB : b < B) : Rd w' b s a e := (hb.block b hB).trans h

theorem only_refl (w : World) (row : Option Nat) : w.grownBy w row := ⟨rfl, rfl, rfl, Nat.le_refl _, fun _ _ _ => rfl⟩
theorem only_trans {a b c : World} {row : Option Nat} (h : a.grownBy b row) (k : b.grownBy c row) : a.grownBy c row :=
  ⟨k.os.trans h.os, k.tape.trans h.tape, k.output.trans h.output, Nat.le_trans h.size k.size, fun i hi hn => (k.block i (Nat.lt_of_lt_of_le hi h.size) hn).trans (h.block i hi hn)⟩
theorem only_drewN {a w : World} {row : Option Nat} (h : a.grownBy w row) (n : Nat) : a.grownBy (w.drewN n) row := ⟨h.os, h.tape, h.output, h.size, h.block⟩
theorem only_drew {a w : World} {row : Option Nat} (h : a.grownBy w row) : a.grownBy w.drew row := ⟨h.os, h.tape, h.output, h.size, h.block⟩
theorem only_alloc {a w : World} {row : Option Nat} (h : a.grownBy w row) (o : Obj) : a.grownBy (w.alloc o) row :=
  ⟨h.os, h.tape, h.output, Nat.le_trans h.size (by simp), fun i hi hne => (Below.heap_alloc w o i (Nat.lt_of_lt_of_le hi h.size)).trans (h.block i hi hne)⟩
theorem only_setCell {a w : World} {g : Nat} (h : a.grownBy w (some g)) {p : Addr} (hp : p.block = g ∨ a.heap.size ≤ p.block) (u : Value) : a.grownBy (w.setCell p u) (some g) :=
  ⟨h.os, h.tape, h.output, by simpa [World.setCell] using h.size, fun i hi hne => (Below.heap_setCell w p u i (by
    rintro rfl
    rcases hp with hp | hp
    · exact hne (by rw [hp])
    · omega)).trans (h.block i hi hne)⟩
theorem only_of_below {a w : World} (h : Below a.heap.size a w) (row : Option Nat) : a.grownBy w row := ⟨h.os, h.tape, h.output, h.size, fun i hi _ => h.block i hi⟩

set_option maxHeartbeats 400000 in
theorem reads_any {w : World} {b : Nat} {s : ByteArray} {a e : Int} (h : Rd w b s a e) :
    Calls Try.prog 37 #[.pointer (some ⟨b, 0, none⟩)] w fun en w' => en = .returned (.bool (e == 0)) ∧ w = w' := by
  have h2 := h.c2
  clear h
  go_enter Try.func37, Try.ntmps37
  go_wp2
  go_ret
  exact ⟨rfl, rfl⟩
set_option maxHeartbeats 400000 in
theorem reads_nil (w : World) :
    Calls Try.prog 37 #[.pointer none] w fun en w' => en = .returned (.bool false) ∧ w = w' := by
  go_enter Try.func37, Try.ntmps37
  go_wp2
  go_ret
  exact ⟨rfl, rfl⟩

set_option maxHeartbeats 400000 in
theorem take_ok {w : World} {b : Nat} {s : ByteArray} {a e : Int} (h : Rd w b s a e) (n after : Int) :
    Calls Try.prog 39 #[.pointer (some ⟨b, 0, none⟩), .int .i64 n, .int .i64 after, .int .i64 0] w fun en w' => en = .returned (.int .i64 n) ∧ Rd w' b s after e ∧ w.grownBy w' (some b) := by
  have h1 := h.c1
  have f1 := h.fz 1
  have H := Lib.hid h; clear h
  go_enter Try.func39, Try.ntmps39
  go_wp2
  go_ret
  exact ⟨rfl, H.out.set1 after, only_setCell (only_refl _ _) (.inl rfl) _⟩
set_option maxHeartbeats 400000 in
theorem take_err {w : World} {b : Nat} {s : ByteArray} {a e : Int} (h : Rd w b s a e) (n after e' : Int) (he : (e' != 0) = true) :
    Calls Try.prog 39 #[.pointer (some ⟨b, 0, none⟩), .int .i64 n, .int .i64 after, .int .i64 e'] w fun en w' => en = .returned (.int .i64 0) ∧ Rd w' b s a e' ∧ w.grownBy w' (some b) := by
  have h1 := h.c2
  have f1 := h.fz 2
  have H := Lib.hid h; clear h
  go_enter Try.func39, Try.ntmps39
  go_wp2
  go_ret
  exact ⟨rfl, H.out.set2 e', only_setCell (only_refl _ _) (.inl rfl) _⟩
end Go.Proofs.Yteikmkbaokfgeaa
