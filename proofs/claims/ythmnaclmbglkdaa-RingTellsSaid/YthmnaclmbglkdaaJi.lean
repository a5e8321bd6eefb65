/- Layer 11: rings and refs in variables' blocks. -/
import Derived.Test.YthmnaclmbglkdaaJh
import Derived.Test.YthmnaclmbglkdaaNv
namespace Go.Proofs.Ythmnaclmbglkdaa
set_option linter.unusedVariables false
set_option linter.unusedSimpArgs false
open Go.RowKit Go.ChangeShapes Go.WideShapes Go.ChangeAt Go.Sort

abbrev rf0 : Array Value := #[.int .i64 0, .int .i64 0]
abbrev rfc (x : P2) : Array Value := #[.int .i64 x.1, .int .i64 x.2]
/-- A variable's ring, its places read. -/
structure RgV (W : World) (g : Nat) (r : Rng) (A : Option Addr) (c : Nat) : Prop where
  x : Held W g 24 (rgc A r.buf.length c r.head r.many r.most)
  p : PAt W W.heap.size A r.buf
/-- A variable's ring, its places the call's own. -/
structure RgO (W : World) (g : Nat) (r : Rng) (A : Option Addr) (c : Nat) : Prop where
  x : Held W g 24 (rgc A r.buf.length c r.head r.many r.most)
  o : OwnR W 0 (.slice A r.buf.length c) r.buf
theorem RgV.below {W W' : World} {g : Nat} {r : Rng} {A : Option Addr} {c : Nat} (h : RgV W g r A c) (hb : Below W.heap.size W W') : RgV W' g r A c := ⟨h.x.below hb, (h.p.below hb (Nat.le_refl _)).more hb.size⟩
theorem RgO.below {W W' : World} {g : Nat} {r : Rng} {A : Option Addr} {c : Nat} (h : RgO W g r A c) (hb : Below W.heap.size W W') : RgO W' g r A c := ⟨h.x.below hb, r_later h.o hb⟩
theorem RgO.read {W : World} {g : Nat} {r : Rng} {A : Option Addr} {c : Nat} (h : RgO W g r A c) : RgV W g r A c := ⟨h.x, own2_at h.o⟩
theorem RgO.row {W : World} {g k : Nat} {r : Rng} {A : Option Addr} {c : Nat} {cs : Array Value} (h : RgO W g r A c) (hk : Held W k 24 cs) (hne : g ≠ k) (cs' : Array Value) : RgO (W.setRow k cs') g r A c :=
  ⟨held_row h.x hne cs', r_same h.o fun q e => row_far0 W k cs' q (r_apart h.o hk tyG q e)⟩
/-- Stored into a variable that there is. -/
theorem rgo_set {W : World} {k : Nat} {r : Rng} {A : Option Addr} {c B : Nat} {cs : Array Value} (hk : Held W k 24 cs) (ho : OwnR W B (.slice A r.buf.length c) r.buf) : RgO (W.setRow k (rgc A r.buf.length c r.head r.many r.most)) k r A c :=
  ⟨held_rowSelf hk _, r_mono (r_same ho fun q e => row_far0 W k _ q (r_apart ho hk tyG q e)) (Nat.zero_le _)⟩
theorem own_row {W : World} {k n c B : Nat} {A : Option Addr} {l : List P2} {cs : Array Value} (h : OwnR W B (.slice A n c) l) (hk : Held W k 24 cs) (cs' : Array Value) : OwnR (W.setRow k cs') B (.slice A n c) l := r_same h fun q e => row_far0 W k cs' q (r_apart h hk tyG q e)
theorem own_later {W W' : World} {n c B : Nat} {A : Option Addr} {l : List P2} (h : OwnR W B (.slice A n c) l) (hb : Below W.heap.size W W') : OwnR W' B (.slice A n c) l := r_later h hb
theorem pat_later {W W' : World} {A : Option Addr} {l : List P2} (h : PAt W W.heap.size A l) (hb : Below W.heap.size W W') : PAt W' W'.heap.size A l := (h.below hb (Nat.le_refl _)).more hb.size
theorem below_new1 {W u : World} (hb : Below W.heap.size W u) (z cs : Array Value) (t : TypeId) : Below W.heap.size W ((u.alloc (.cells z t)).setRow u.heap.size cs) := below_setRow (hb.alloc hb.size _) hb.size _
theorem below_new2 {W u : World} (hb : Below W.heap.size W u) (z cs z2 cs2 : Array Value) (t t2 : TypeId) : Below W.heap.size W ((((u.alloc (.cells z t)).alloc (.cells z2 t2)).setRow u.heap.size cs).setRow (u.heap.size + 1) cs2) :=
  below_setRow (below_setRow ((hb.alloc hb.size _).alloc (by have := hb.size; simp; omega) _) hb.size _) (Nat.le_succ_of_le hb.size) _
theorem held_new1 (u : World) (z cs : Array Value) (t : TypeId) : Held ((u.alloc (.cells z t)).setRow u.heap.size cs) u.heap.size t cs := held_rowSelf (Held.new u t z) cs
theorem held_new2 (u : World) (z cs z2 cs2 : Array Value) (t t2 : TypeId) : Held ((((u.alloc (.cells z t)).alloc (.cells z2 t2)).setRow u.heap.size cs).setRow (u.heap.size + 1) cs2) u.heap.size t cs ∧ Held ((((u.alloc (.cells z t)).alloc (.cells z2 t2)).setRow u.heap.size cs).setRow (u.heap.size + 1) cs2) (u.heap.size + 1) t2 cs2 := by
  have h1 := (Held.new u t z).alloc (.cells z2 t2)
  have h2 := Held.new1 u (.cells z t) t2 z2
  exact ⟨held_row (held_rowSelf h1 cs) (by omega) cs2, held_rowSelf (held_row h2 (by omega) cs) cs2⟩
/-- A ring told, laid into a variable of its own. -/
theorem new_o1 {W u : World} {r : Rng} {A : Option Addr} {c : Nat} (hb : Below W.heap.size W u) (ho : OwnR u W.heap.size (.slice A r.buf.length c) r.buf) :
    RgO ((u.alloc (.cells rz0 24)).setRow u.heap.size (rgc A r.buf.length c r.head r.many r.most)) u.heap.size r A c ∧ Below W.heap.size W ((u.alloc (.cells rz0 24)).setRow u.heap.size (rgc A r.buf.length c r.head r.many r.most)) :=
  ⟨⟨held_new1 u rz0 _ 24, r_mono (r_later ho (below_new1 (Below.refl _ _) rz0 _ _)) (Nat.zero_le _)⟩, below_new1 hb _ _ _⟩
theorem new_v1 {W u : World} {r : Rng} {A : Option Addr} {c : Nat} (hb : Below W.heap.size W u) (hp : PAt u u.heap.size A r.buf) :
    RgV ((u.alloc (.cells rz0 24)).setRow u.heap.size (rgc A r.buf.length c r.head r.many r.most)) u.heap.size r A c ∧ Below W.heap.size W ((u.alloc (.cells rz0 24)).setRow u.heap.size (rgc A r.buf.length c r.head r.many r.most)) :=
  ⟨⟨held_new1 u rz0 _ 24, pat_later hp (below_new1 (Below.refl _ _) rz0 _ _)⟩, below_new1 hb _ _ _⟩
/-- And a ref with it. -/
theorem new_o2 {W u : World} {r : Rng} {x : P2} {A : Option Addr} {c : Nat} (hb : Below W.heap.size W u) (ho : OwnR u W.heap.size (.slice A r.buf.length c) r.buf) :
    RgO ((((u.alloc (.cells rz0 24)).alloc (.cells rf0 33)).setRow u.heap.size (rgc A r.buf.length c r.head r.many r.most)).setRow (u.heap.size + 1) (rfc x)) u.heap.size r A c ∧
    Held ((((u.alloc (.cells rz0 24)).alloc (.cells rf0 33)).setRow u.heap.size (rgc A r.buf.length c r.head r.many r.most)).setRow (u.heap.size + 1) (rfc x)) (u.heap.size + 1) 33 (rfc x) ∧
    Below W.heap.size W ((((u.alloc (.cells rz0 24)).alloc (.cells rf0 33)).setRow u.heap.size (rgc A r.buf.length c r.head r.many r.most)).setRow (u.heap.size + 1) (rfc x)) :=
  ⟨⟨(held_new2 u rz0 _ rf0 _ 24 33).1, r_mono (r_later ho (below_new2 (Below.refl _ _) rz0 _ rf0 _ _ _)) (Nat.zero_le _)⟩, (held_new2 u rz0 _ rf0 _ 24 33).2, below_new2 hb _ _ _ _ _ _⟩
theorem new_v2 {W u : World} {r : Rng} {x : P2} {A : Option Addr} {c : Nat} (hb : Below W.heap.size W u) (hp : PAt u u.heap.size A r.buf) :
    RgV ((((u.alloc (.cells rz0 24)).alloc (.cells rf0 33)).setRow u.heap.size (rgc A r.buf.length c r.head r.many r.most)).setRow (u.heap.size + 1) (rfc x)) u.heap.size r A c ∧
    Held ((((u.alloc (.cells rz0 24)).alloc (.cells rf0 33)).setRow u.heap.size (rgc A r.buf.length c r.head r.many r.most)).setRow (u.heap.size + 1) (rfc x)) (u.heap.size + 1) 33 (rfc x) ∧
    Below W.heap.size W ((((u.alloc (.cells rz0 24)).alloc (.cells rf0 33)).setRow u.heap.size (rgc A r.buf.length c r.head r.many r.most)).setRow (u.heap.size + 1) (rfc x)) :=
  ⟨⟨(held_new2 u rz0 _ rf0 _ 24 33).1, pat_later hp (below_new2 (Below.refl _ _) rz0 _ rf0 _ _ _)⟩, (held_new2 u rz0 _ rf0 _ 24 33).2, below_new2 hb _ _ _ _ _ _⟩
/-- Refs in a block that is known whole. -/
theorem pat_held {W : World} {g : Nat} {t : TypeId} {l : List P2} (h : Held W g t (flatP l).toArray) : PAt W W.heap.size (some ⟨g, 0, none⟩) l := fun _ => by
  refine ⟨g, 0, rfl, h.lt, fun j hj => ?_⟩
  obtain ⟨e0, e1⟩ := flatP_at l j hj
  have c0 := h.cell (j * 2)
  have c1 := h.cell (j * 2 + 1)
  simp only [List.getElem?_toArray] at c0 c1
  rw [e0] at c0
  rw [e1] at c1
  exact ⟨by rw [Nat.zero_add]; exact c0, by rw [Nat.zero_add]; exact c1⟩
/-- A guarded operation that is done. -/
theorem wpList_doneR {P : Program} {w : World} {ops : Array Oper} {rest : List Oper} {o : Oper} {a : Act} {Q : Exit → Act → World → Prop}
    (hw : Region.wanted o (yielded ops a.tmps) = true) (h : wpList P ops Q ({ o with guard := none } :: rest) a w) : wpList P ops Q (o :: rest) a w := by
  unfold wpList at h ⊢
  rw [if_pos hw]
  rw [if_pos (by simp [Region.wanted])] at h
  exact h
end Go.Proofs.Ythmnaclmbglkdaa
