/- Worlds that grow by one block of old ones; blocks held. -/
import Derived.Test.YtoeinpiekfmbgaaGreatDoorzGc
import Derived.Test.YtoeinpiekfmbgaaGreatDoorzHa
import Derived.Test.YtoeinpiekfmbgaaGreatDoorzGh
import Derived.Deep.AppendLies
import Derived.Laws.OwnMore
import Derived.Test.YtoeinpiekfmbgaaGreatDoorzGd
namespace Go.Proofs.YtoeinpiekfmbgaaGreatDoor
set_option linter.unusedVariables false
set_option linter.unusedSimpArgs false
open Go.RowKit Go.ChangeShapes Go.WideShapes Go.ChangeAt Go.Sort

theorem grown_of_below {w w' : World} (h : Below w.heap.size w w') (g : Option Nat) : w.grownBy w' g := ⟨h.os, h.tape, h.output, h.size, fun k hk _ => h.block k hk⟩
theorem grown_trans {a b c : World} {g : Option Nat} (h : a.grownBy b g) (h1 : b.grownBy c g) : a.grownBy c g :=
  ⟨h1.os.trans h.os, h1.tape.trans h.tape, h1.output.trans h.output, Nat.le_trans h.size h1.size, fun k hk hn => (h1.block k (Nat.lt_of_lt_of_le hk h.size) hn).trans (h.block k hk hn)⟩
theorem Held.set_at {W : World} {g : Nat} {t : TypeId} {cs : Array Value} (h : Held W g t cs) (i : Nat) (x : Value) : Held (W.setCell ⟨g, i, none⟩ x) g t (cs.setIfInBounds i x) := by
  unfold Held at *
  simp [World.setCell, Array.getElem?_modify, h]
theorem grown_set1 (W : World) (g i : Nat) (x : Value) : W.grownBy (W.setCell ⟨g, i, none⟩ x) (some g) := ⟨rfl, rfl, rfl, by simp [World.setCell], fun k _ hne => Below.heap_setCell W ⟨g, i, none⟩ x k (fun e => hne (by rw [e]))⟩

theorem grown_far {w u : World} {g : Option Nat} (h : w.grownBy u g) {r : Nat} (hr : w.heap.size ≤ r) (i : Nat) (x : Value) : w.grownBy (u.setCell ⟨r, i, none⟩ x) g :=
  ⟨h.os, h.tape, h.output, by simpa [World.setCell] using h.size, fun k hk hn => (Below.heap_setCell u ⟨r, i, none⟩ x k (by show k ≠ r; omega)).trans (h.block k hk hn)⟩
theorem held_drew {W : World} {g : Nat} {t : TypeId} {cs : Array Value} (h : Held W g t cs) : Held W.drew g t cs := h
end Go.Proofs.YtoeinpiekfmbgaaGreatDoor

/- Layer 9: lists of values and of slots in memory, read and of one's own; frames in memory. -/
namespace Go.Proofs.YtoeinpiekfmbgaaGreatDoor
set_option linter.unusedVariables false
set_option linter.unusedSimpArgs false
open Gm Go.RowKit Go.ChangeShapes Go.WideShapes Go.ChangeAt Go.Sort

/-- The slice at A holds these values, below block B. -/
def VAt (w : World) (B : Nat) (A : Option Addr) (l : List V) : Prop :=
  0 < l.length → ∃ b off, A = some ⟨b, off, none⟩ ∧ b < B ∧ ∀ j (h : j < l.length), w.cell? ⟨b, off + j * 2, none⟩ = some (.int .i64 l[j].1) ∧ w.cell? ⟨b, off + j * 2 + 1, none⟩ = some (.int .i64 l[j].2)
/-- The slice at A holds these slots, below block B. -/
def SAt (w : World) (B : Nat) (A : Option Addr) (l : List Slt) : Prop :=
  0 < l.length → ∃ b off, A = some ⟨b, off, none⟩ ∧ b < B ∧ ∀ j (h : j < l.length), w.cell? ⟨b, off + j * 6, none⟩ = some (.int .i64 l[j].st) ∧ w.cell? ⟨b, off + j * 6 + 1, none⟩ = some (.int .i64 l[j].kat) ∧ w.cell? ⟨b, off + j * 6 + 2, none⟩ = some (.int .i64 l[j].kgn) ∧
    w.cell? ⟨b, off + j * 6 + 3, none⟩ = some (.int .i64 l[j].tr) ∧ w.cell? ⟨b, off + j * 6 + 4, none⟩ = some (.int .i64 l[j].re) ∧ w.cell? ⟨b, off + j * 6 + 5, none⟩ = some (.int .i64 l[j].im)
theorem VAt.nil (w : World) (B : Nat) (A : Option Addr) : VAt w B A [] := fun h => absurd h (by simp)
theorem SAt.nil (w : World) (B : Nat) (A : Option Addr) : SAt w B A [] := fun h => absurd h (by simp)
theorem VAt.below {w w' : World} {B : Nat} {A : Option Addr} {l : List V} (h : VAt w B A l) {C : Nat} (hb : Below C w w') (hC : B ≤ C) : VAt w' B A l := fun h0 => by
  obtain ⟨b, off, e, hlt, hc⟩ := h h0
  refine ⟨b, off, e, hlt, fun j hj => ⟨?_, ?_⟩⟩
  · exact (hb.cell (p := ⟨b, off + j * 2, none⟩) (by show b < C; omega)).trans (hc j hj).1
  · exact (hb.cell (p := ⟨b, off + j * 2 + 1, none⟩) (by show b < C; omega)).trans (hc j hj).2
theorem SAt.below {w w' : World} {B : Nat} {A : Option Addr} {l : List Slt} (h : SAt w B A l) {C : Nat} (hb : Below C w w') (hC : B ≤ C) : SAt w' B A l := fun h0 => by
  obtain ⟨b, off, e, hlt, hc⟩ := h h0
  refine ⟨b, off, e, hlt, fun j hj => ?_⟩
  obtain ⟨c0, c1, c2, c3, c4, c5⟩ := hc j hj
  have hbC : b < C := by omega
  exact ⟨(hb.cell (p := ⟨b, off + j * 6, none⟩) hbC).trans c0, (hb.cell (p := ⟨b, off + j * 6 + 1, none⟩) hbC).trans c1, (hb.cell (p := ⟨b, off + j * 6 + 2, none⟩) hbC).trans c2,
    (hb.cell (p := ⟨b, off + j * 6 + 3, none⟩) hbC).trans c3, (hb.cell (p := ⟨b, off + j * 6 + 4, none⟩) hbC).trans c4, (hb.cell (p := ⟨b, off + j * 6 + 5, none⟩) hbC).trans c5⟩
theorem VAt.more {w : World} {B C : Nat} {A : Option Addr} {l : List V} (h : VAt w B A l) (hC : B ≤ C) : VAt w C A l := fun h0 => by
  obtain ⟨b, off, e, hlt, hc⟩ := h h0
  exact ⟨b, off, e, by omega, hc⟩
theorem SAt.more {w : World} {B C : Nat} {A : Option Addr} {l : List Slt} (h : SAt w B A l) (hC : B ≤ C) : SAt w C A l := fun h0 => by
  obtain ⟨b, off, e, hlt, hc⟩ := h h0
  exact ⟨b, off, e, by omega, hc⟩

def flatV (l : List V) : List Value := l.flatMap fun x => [.int .i64 x.1, .int .i64 x.2]
def flatS (l : List Slt) : List Value := l.flatMap fun x => [.int .i64 x.st, .int .i64 x.kat, .int .i64 x.kgn, .int .i64 x.tr, .int .i64 x.re, .int .i64 x.im]
theorem flatV_len : ∀ l, (flatV l).length = l.length * 2
  | [] => rfl
  | x :: l => by
    have := flatV_len l
    unfold flatV at *
    simp only [List.flatMap_cons, List.length_append, List.length_cons, List.length_nil]
    omega
theorem flatS_len : ∀ l, (flatS l).length = l.length * 6
  | [] => rfl
  | x :: l => by
    have := flatS_len l
    unfold flatS at *
    simp only [List.flatMap_cons, List.length_append, List.length_cons, List.length_nil]
    omega
theorem flatV_append (l k : List V) : flatV (l ++ k) = flatV l ++ flatV k := by simp [flatV]
theorem flatV_at : ∀ (l : List V) (j : Nat) (h : j < l.length), (flatV l)[j * 2]? = some (.int .i64 l[j].1) ∧ (flatV l)[j * 2 + 1]? = some (.int .i64 l[j].2)
  | x :: l, 0, _ => by simp [flatV]
  | x :: l, j + 1, h => by
    have ih := flatV_at l j (by simpa using h)
    have e : flatV (x :: l) = [.int .i64 x.1, .int .i64 x.2] ++ flatV l := by simp [flatV]
    have sh : ∀ k, (flatV (x :: l))[k + 2]? = (flatV l)[k]? := fun k => by rw [e, List.getElem?_append_right (by simp)]; simp
    rw [show (j + 1) * 2 = j * 2 + 2 by omega, show j * 2 + 2 + 1 = (j * 2 + 1) + 2 by omega, sh, sh]
    exact ih
theorem flatS_at : ∀ (l : List Slt) (j : Nat) (h : j < l.length), (flatS l)[j * 6]? = some (.int .i64 l[j].st) ∧ (flatS l)[j * 6 + 1]? = some (.int .i64 l[j].kat) ∧ (flatS l)[j * 6 + 2]? = some (.int .i64 l[j].kgn) ∧ (flatS l)[j * 6 + 3]? = some (.int .i64 l[j].tr) ∧ (flatS l)[j * 6 + 4]? = some (.int .i64 l[j].re) ∧ (flatS l)[j * 6 + 5]? = some (.int .i64 l[j].im)
  | x :: l, 0, _ => by simp [flatS]
  | x :: l, j + 1, h => by
    have ih := flatS_at l j (by simpa using h)
    have e : flatS (x :: l) = [.int .i64 x.st, .int .i64 x.kat, .int .i64 x.kgn, .int .i64 x.tr, .int .i64 x.re, .int .i64 x.im] ++ flatS l := by simp [flatS]
    have sh : ∀ k, (flatS (x :: l))[k + 6]? = (flatS l)[k]? := fun k => by rw [e, List.getElem?_append_right (by simp)]; simp
    rw [show (j + 1) * 6 = j * 6 + 6 by omega, show j * 6 + 6 + 1 = (j * 6 + 1) + 6 by omega, show j * 6 + 6 + 2 = (j * 6 + 2) + 6 by omega, show j * 6 + 6 + 3 = (j * 6 + 3) + 6 by omega, show j * 6 + 6 + 4 = (j * 6 + 4) + 6 by omega, show j * 6 + 6 + 5 = (j * 6 + 5) + 6 by omega, sh, sh, sh, sh, sh, sh]
    exact ih
theorem flatV_set : ∀ (l : List V) (k : Nat) (y : V), k < l.length → ((flatV l).set (k * 2) (.int .i64 y.1)).set (k * 2 + 1) (.int .i64 y.2) = flatV (l.set k y)
  | z :: l, 0, y, _ => rfl
  | z :: l, k + 1, y, h => by
    have ih := flatV_set l k y (by simpa using h)
    rw [List.set_cons_succ, show (k + 1) * 2 = k * 2 + 2 by omega]
    show .int .i64 z.1 :: .int .i64 z.2 :: ((flatV l).set (k * 2) _).set (k * 2 + 1) _ = .int .i64 z.1 :: .int .i64 z.2 :: flatV (l.set k y)
    rw [ih]
theorem flatS_set : ∀ (l : List Slt) (k : Nat) (y : Slt), k < l.length → ((((((flatS l).set (k * 6) (.int .i64 y.st)).set (k * 6 + 1) (.int .i64 y.kat)).set (k * 6 + 2) (.int .i64 y.kgn)).set (k * 6 + 3) (.int .i64 y.tr)).set (k * 6 + 4) (.int .i64 y.re)).set (k * 6 + 5) (.int .i64 y.im) = flatS (l.set k y)
  | z :: l, 0, y, _ => rfl
  | z :: l, k + 1, y, h => by
    have ih := flatS_set l k y (by simpa using h)
    rw [List.set_cons_succ, show (k + 1) * 6 = k * 6 + 6 by omega]
    show .int .i64 z.st :: .int .i64 z.kat :: .int .i64 z.kgn :: .int .i64 z.tr :: .int .i64 z.re :: .int .i64 z.im :: ((((((flatS l).set (k * 6) _).set (k * 6 + 1) _).set (k * 6 + 2) _).set (k * 6 + 3) _).set (k * 6 + 4) _).set (k * 6 + 5) _ = .int .i64 z.st :: .int .i64 z.kat :: .int .i64 z.kgn :: .int .i64 z.tr :: .int .i64 z.re :: .int .i64 z.im :: flatS (l.set k y)
    rw [ih]
/-- The call's own values, slots. -/
def OwnVs (w : World) (B : Nat) (v : Value) (l : List V) : Prop := w.ownsRow B 30 2 v l.length (flatV l)
def OwnSs (w : World) (B : Nat) (v : Value) (l : List Slt) : Prop := w.ownsRow B 75 6 v l.length (flatS l)
theorem OwnVs.nil (w : World) (B : Nat) : OwnVs w B (.slice none 0 0) [] := World.ownsRow_nil _ _ _ _
theorem OwnSs.nil (w : World) (B : Nat) : OwnSs w B (.slice none 0 0) [] := World.ownsRow_nil _ _ _ _
theorem OwnVs.lies {w : World} {B : Nat} {v : Value} {l : List V} (h : OwnVs w B v l) : ∃ A c, v = .slice A l.length c ∧ VAt w w.heap.size A l := by
  unfold OwnVs at h
  have hc := fun g hg => h.cells (g := g) hg
  have hlt := h.lt
  rcases h.2 with ⟨rfl, h0⟩ | ⟨g, cap, cur, rfl, _⟩
  · have e : l = [] := List.eq_nil_of_length_eq_zero h0
    subst e
    exact ⟨none, 0, rfl, VAt.nil _ _ _⟩
  · refine ⟨_, _, rfl, fun _ => ⟨g, 0, rfl, (hlt g rfl).2, fun j hj => ?_⟩⟩
    obtain ⟨e0, e1⟩ := flatV_at l j hj
    have k0 := hc g rfl _ _ e0
    have k1 := hc g rfl _ _ e1
    rw [addr_add] at k0 k1
    exact ⟨k0, k1⟩
theorem OwnSs.lies {w : World} {B : Nat} {v : Value} {l : List Slt} (h : OwnSs w B v l) : ∃ A c, v = .slice A l.length c ∧ SAt w w.heap.size A l := by
  unfold OwnSs at h
  have hc := fun g hg => h.cells (g := g) hg
  have hlt := h.lt
  rcases h.2 with ⟨rfl, h0⟩ | ⟨g, cap, cur, rfl, _⟩
  · have e : l = [] := List.eq_nil_of_length_eq_zero h0
    subst e
    exact ⟨none, 0, rfl, SAt.nil _ _ _⟩
  · refine ⟨_, _, rfl, fun _ => ⟨g, 0, rfl, (hlt g rfl).2, fun j hj => ?_⟩⟩
    obtain ⟨e0, e1, e2, e3, e4, e5⟩ := flatS_at l j hj
    have k0 := hc g rfl _ _ e0
    have k1 := hc g rfl _ _ e1
    have k2 := hc g rfl _ _ e2
    have k3 := hc g rfl _ _ e3
    have k4 := hc g rfl _ _ e4
    have k5 := hc g rfl _ _ e5
    rw [addr_add] at k0 k1 k2 k3 k4 k5
    exact ⟨k0, k1, k2, k3, k4, k5⟩
theorem OwnVs.len {w : World} {B n c : Nat} {A : Option Addr} {l : List V} (h : OwnVs w B (.slice A n c) l) : l.length = n := by
  rcases h.2 with ⟨e, h0⟩ | ⟨g, cap, cur, e, _⟩
  · simp at e; omega
  · simp at e; omega
theorem OwnSs.len {w : World} {B n c : Nat} {A : Option Addr} {l : List Slt} (h : OwnSs w B (.slice A n c) l) : l.length = n := by
  rcases h.2 with ⟨e, h0⟩ | ⟨g, cap, cur, e, _⟩
  · simp at e; omega
  · simp at e; omega
/-- Where the blocks of a row are as they were. -/
theorem row_same {w w' : World} {B n size : Nat} {e : TypeId} {v : Value} {xs : List Value} (h : w.ownsRow B e size v n xs) (hh : ∀ g, v.ownBlock = some g → w'.heap[g]? = w.heap[g]?) : w'.ownsRow B e size v n xs := by
  refine ⟨h.1, ?_⟩
  rcases h.2 with h' | ⟨g, cap, cur, rfl, hb, hg, r⟩
  · exact .inl h'
  · exact .inr ⟨g, cap, cur, rfl, hb, (hh g rfl).trans hg, r⟩
theorem row_mono {w : World} {B C n size : Nat} {e : TypeId} {v : Value} {xs : List Value} (h : w.ownsRow B e size v n xs) (hC : C ≤ B) : w.ownsRow C e size v n xs :=
  ⟨h.1, h.2.imp id fun ⟨g, cap, cur, e, hb, r⟩ => ⟨g, cap, cur, e, Nat.le_trans hC hb, r⟩⟩
theorem infoV : (Tryz.prog.info? 30).map (fun i => (i.zero, i.size, i.bytes)) = some (some (.agg #[.int .i64 0, .int .i64 0]), 2, 16) := by kernel_rfl
theorem infoS : (Tryz.prog.info? 75).map (fun i => (i.zero, i.size, i.bytes)) = some (some (.agg #[.int .i64 0, .int .i64 0, .int .i64 0, .int .i64 0, .int .i64 0, .int .i64 0]), 6, 48) := by kernel_rfl

/-- The cells of what is appended. -/
theorem newsV {w : World} {C b off : Nat} {k : List V} (hf : ∀ j (h : j < k.length), w.cell? ⟨b, off + j * 2, none⟩ = some (.int .i64 k[j].1) ∧ w.cell? ⟨b, off + j * 2 + 1, none⟩ = some (.int .i64 k[j].2)) :
    ∀ j u, (flatV k)[j]? = some u → w.cell? ((⟨b, off, none⟩ : Addr).add j) = some u := fun j u hj => by
  rw [addr_add]
  have hjl : j < (flatV k).length := by
    rcases Nat.lt_or_ge j (flatV k).length with h | h
    · exact h
    · rw [List.getElem?_eq_none h] at hj; cases hj
  rw [flatV_len] at hjl
  have hd : j = j / 2 * 2 + j % 2 := by omega
  obtain ⟨e0, e1⟩ := flatV_at k (j / 2) (by omega)
  obtain ⟨c0, c1⟩ := hf (j / 2) (by omega)
  have hm : j % 2 = 0 ∨ j % 2 = 1 := by omega
  rcases hm with hm | hm
  · rw [hm, Nat.add_zero] at hd
    rw [hd] at hj ⊢
    rw [e0] at hj
    rw [c0, hj]
  · rw [hm] at hd
    rw [hd] at hj ⊢
    rw [e1] at hj
    rw [show off + (j / 2 * 2 + 1) = off + j / 2 * 2 + 1 by omega, c1, hj]
theorem newsS {w : World} {b off : Nat} {k : List Slt} (hf : ∀ j (h : j < k.length), w.cell? ⟨b, off + j * 6, none⟩ = some (.int .i64 k[j].st) ∧ w.cell? ⟨b, off + j * 6 + 1, none⟩ = some (.int .i64 k[j].kat) ∧ w.cell? ⟨b, off + j * 6 + 2, none⟩ = some (.int .i64 k[j].kgn) ∧
    w.cell? ⟨b, off + j * 6 + 3, none⟩ = some (.int .i64 k[j].tr) ∧ w.cell? ⟨b, off + j * 6 + 4, none⟩ = some (.int .i64 k[j].re) ∧ w.cell? ⟨b, off + j * 6 + 5, none⟩ = some (.int .i64 k[j].im)) :
    ∀ j u, (flatS k)[j]? = some u → w.cell? ((⟨b, off, none⟩ : Addr).add j) = some u := fun j u hj => by
  rw [addr_add]
  have hjl : j < (flatS k).length := by
    rcases Nat.lt_or_ge j (flatS k).length with h | h
    · exact h
    · rw [List.getElem?_eq_none h] at hj; cases hj
  rw [flatS_len] at hjl
  have hd : j = j / 6 * 6 + j % 6 := by omega
  obtain ⟨e0, e1, e2, e3, e4, e5⟩ := flatS_at k (j / 6) (by omega)
  obtain ⟨c0, c1, c2, c3, c4, c5⟩ := hf (j / 6) (by omega)
  have hm : j % 6 = 0 ∨ j % 6 = 1 ∨ j % 6 = 2 ∨ j % 6 = 3 ∨ j % 6 = 4 ∨ j % 6 = 5 := by omega
  rcases hm with hm | hm | hm | hm | hm | hm
  · rw [hm, Nat.add_zero] at hd
    rw [hd] at hj ⊢
    rw [e0] at hj
    rw [c0, hj]
  · rw [hm] at hd
    rw [hd] at hj ⊢
    rw [e1] at hj
    rw [show off + (j / 6 * 6 + 1) = off + j / 6 * 6 + 1 by omega, c1, hj]
  · rw [hm] at hd
    rw [hd] at hj ⊢
    rw [e2] at hj
    rw [show off + (j / 6 * 6 + 2) = off + j / 6 * 6 + 2 by omega, c2, hj]
  · rw [hm] at hd
    rw [hd] at hj ⊢
    rw [e3] at hj
    rw [show off + (j / 6 * 6 + 3) = off + j / 6 * 6 + 3 by omega, c3, hj]
  · rw [hm] at hd
    rw [hd] at hj ⊢
    rw [e4] at hj
    rw [show off + (j / 6 * 6 + 4) = off + j / 6 * 6 + 4 by omega, c4, hj]
  · rw [hm] at hd
    rw [hd] at hj ⊢
    rw [e5] at hj
    rw [show off + (j / 6 * 6 + 5) = off + j / 6 * 6 + 5 by omega, c5, hj]
theorem oneV {k : List V} : ∀ u ∈ flatV k, u.oneCell' = true := fun u hu => by
  unfold flatV at hu
  obtain ⟨y, _, hy⟩ := List.mem_flatMap.1 hu
  simp at hy
  rcases hy with rfl | rfl <;> rfl
theorem oneS {k : List Slt} : ∀ u ∈ flatS k, u.oneCell' = true := fun u hu => by
  unfold flatS at hu
  obtain ⟨y, _, hy⟩ := List.mem_flatMap.1 hu
  simp at hy
  rcases hy with rfl | rfl | rfl | rfl | rfl | rfl <;> rfl

/-- Values appended. -/
theorem wpList_append_vs {w : World} {ops : Array Oper} {rest : List Oper} {o : Oper} {a : Act} {Q : Exit → Act → World → Prop}
    (hg : o.guard = none) (s x : Operand) (hop : o.op = Op.call { callee := Callee.builtin Builtin.append, args := #[s, x], argTypes := #[24, 24] })
    (B : Nat) (v : Value) (l : List V) (hs : a.eval s = v) (own : OwnVs w B v l) {A : Option Addr} {k : List V} {n c C : Nat} (hn : k.length = n) (hx : a.eval x = .slice A n c) (hc : VAt w C A k)
    (h1 : 1 ≤ n) (hlen : l.length + n ≤ 1000000) (hB : B ≤ w.heap.size)
    (h : ∀ v' w', OwnVs w' B v' (l ++ k) → w.grownBy w' v.ownBlock → (∀ b, v'.ownBlock = some b → v.ownBlock = some b ∨ w.heap.size ≤ b) → wpList Tryz.prog ops Q rest (a.put o.dst v') w') : wpList Tryz.prog ops Q (o :: rest) a w := by
  subst hn
  obtain ⟨b, off, rfl, hbC, hf⟩ := hc (by omega)
  obtain ⟨q, hi, hz0, hz1, hz2⟩ := info_parts infoV
  refine wpList_append_lies _ hg s x 24 hop B 30 q (.agg #[.int .i64 0, .int .i64 0]) 2 16 Tryz.underlying24 hi hz0 hz1 hz2 rfl (by decide) v l.length (flatV l) hs own ⟨b, off, none⟩ k.length c
    (flatV k) hx (flatV_len k) (newsV (C := C) hf) oneV (by omega) (by unfold maxLen; omega) (by omega) hB _ rfl ?_
  intro g cap w' k1 k2 k3 k4
  refine h _ w' ?_ k2 ?_
  · unfold OwnVs
    rw [List.length_append, flatV_append]
    exact k1
  · intro b hb
    simp only [Value.ownBlock, Option.some.injEq] at hb
    subst hb
    rcases k3 with k3 | k3
    · exact .inl k3
    · exact .inr (by omega)
theorem OwnVs.made (w : World) : OwnVs (w.alloc (.cells #[] 30)) w.heap.size (.slice (some ⟨w.heap.size, 0, none⟩) 0 0) [] :=
  World.ownsRow_made w #[] 0 (Nat.le_refl _) (by decide) rfl
theorem OwnSs.made (w : World) : OwnSs (w.alloc (.cells #[] 75)) w.heap.size (.slice (some ⟨w.heap.size, 0, none⟩) 0 0) [] :=
  World.ownsRow_made w #[] 0 (Nat.le_refl _) (by decide) rfl
theorem run_zeroV (w : World) (g c c2 : Nat) (A : Option Addr) (ty : TypeId) : (Builtin.append_ #[24, 24] ty #[.slice (some ⟨g, 0, none⟩) 0 c, .slice A 0 c2]).run Tryz.prog w = .ok (.slice (some ⟨g, 0, none⟩) 0 c) w := by
  obtain ⟨i, hi, hz0, hz1, hz2⟩ := info_parts infoV
  cases A <;> simp [Builtin.append_, run_underlying Tryz.underlying24, sizeOf, typeInfo, hi, storeCells, loadCellsFrom, Builtin.lenOf, Builtin.firstCells, loadCells]
theorem run_zeroS (w : World) (g c c2 : Nat) (A : Option Addr) (ty : TypeId) : (Builtin.append_ #[41, 41] ty #[.slice (some ⟨g, 0, none⟩) 0 c, .slice A 0 c2]).run Tryz.prog w = .ok (.slice (some ⟨g, 0, none⟩) 0 c) w := by
  obtain ⟨i, hi, hz0, hz1, hz2⟩ := info_parts infoS
  cases A <;> simp [Builtin.append_, run_underlying Tryz.underlying41, sizeOf, typeInfo, hi, storeCells, loadCellsFrom, Builtin.lenOf, Builtin.firstCells, loadCells]
/-- Values, slots appended to what was just made: be there any or none. -/
theorem wpList_append_vs0 {w : World} {ops : Array Oper} {rest : List Oper} {o : Oper} {a : Act} {Q : Exit → Act → World → Prop}
    (hg : o.guard = none) (s x : Operand) (hop : o.op = Op.call { callee := Callee.builtin Builtin.append, args := #[s, x], argTypes := #[24, 24] })
    (w0 : World) (hw : w = w0.alloc (.cells #[] 30)) (hs : a.eval s = .slice (some ⟨w0.heap.size, 0, none⟩) 0 0) {A : Option Addr} {k : List V} {c C : Nat} (hx : a.eval x = .slice A k.length c) (hc : VAt w C A k)
    (hlen : k.length ≤ 1000000)
    (h : ∀ v' w', OwnVs w' w0.heap.size v' k → Below w0.heap.size w0 w' → wpList Tryz.prog ops Q rest (a.put o.dst v') w') : wpList Tryz.prog ops Q (o :: rest) a w := by
  subst hw
  by_cases hk : k = []
  · subst hk
    refine wpList_plain hg fun K hK' => ?_
    have hr := fun ty => run_zeroV (w0.alloc (.cells #[] 30)) w0.heap.size 0 c A ty
    have hx2 : a.eval x = .slice A 0 c := hx
    unfold Oper.wp execOp
    simp only [hop, resolve, invoke, builtin, Sem.run_bind, Sem.run_pure, Result.andThen_ok, List.map_toArray, List.map_cons, List.map_nil, hs, hx2, hr]
    exact hK' _ _ (h _ _ (OwnVs.made w0) ((Below.refl _ _).alloc (Nat.le_refl _) _))
  · have h1 : 1 ≤ k.length := by
      cases k with
      | nil => exact absurd rfl hk
      | cons y ys => simp
    refine wpList_append_vs hg s x hop w0.heap.size _ [] hs (OwnVs.made w0) rfl hx hc h1 (by simpa using hlen) (by simp) fun v' w' k1 k2 k3 => ?_
    rw [List.nil_append] at k1
    exact h v' w' k1 (((Below.refl _ _).alloc (Nat.le_refl _) _).grown k2 (by simp) (by intro j hj; simp [Value.ownBlock] at hj; omega))
theorem wpList_append_ss0 {w : World} {ops : Array Oper} {rest : List Oper} {o : Oper} {a : Act} {Q : Exit → Act → World → Prop}
    (hg : o.guard = none) (s x : Operand) (hop : o.op = Op.call { callee := Callee.builtin Builtin.append, args := #[s, x], argTypes := #[41, 41] })
    (w0 : World) (hw : w = w0.alloc (.cells #[] 75)) (hs : a.eval s = .slice (some ⟨w0.heap.size, 0, none⟩) 0 0) {A : Option Addr} {k : List Slt} {c C : Nat} (hx : a.eval x = .slice A k.length c) (hc : SAt w C A k)
    (hlen : k.length ≤ 1000000)
    (h : ∀ v' w', OwnSs w' w0.heap.size v' k → Below w0.heap.size w0 w' → wpList Tryz.prog ops Q rest (a.put o.dst v') w') : wpList Tryz.prog ops Q (o :: rest) a w := by
  subst hw
  by_cases hk : k = []
  · subst hk
    refine wpList_plain hg fun K hK' => ?_
    have hr := fun ty => run_zeroS (w0.alloc (.cells #[] 75)) w0.heap.size 0 c A ty
    have hx2 : a.eval x = .slice A 0 c := hx
    unfold Oper.wp execOp
    simp only [hop, resolve, invoke, builtin, Sem.run_bind, Sem.run_pure, Result.andThen_ok, List.map_toArray, List.map_cons, List.map_nil, hs, hx2, hr]
    exact hK' _ _ (h _ _ (OwnSs.made w0) ((Below.refl _ _).alloc (Nat.le_refl _) _))
  · have h1 : 1 ≤ k.length := by
      cases k with
      | nil => exact absurd rfl hk
      | cons y ys => simp
    obtain ⟨b, off, rfl, hbC, hf⟩ := hc (by omega)
    obtain ⟨q, hi, hz0, hz1, hz2⟩ := info_parts infoS
    refine wpList_append_lies _ hg s x 41 hop w0.heap.size 75 q (.agg #[.int .i64 0, .int .i64 0, .int .i64 0, .int .i64 0, .int .i64 0, .int .i64 0]) 6 48 Tryz.underlying41 hi hz0 hz1 hz2 rfl (by decide) _ 0 (flatS []) hs (OwnSs.made w0) ⟨b, off, none⟩ k.length c
      (flatS k) hx (flatS_len k) (newsS hf) oneS (by omega) (by unfold maxLen; omega) (by omega) (by simp) _ rfl ?_
    intro g cap w' k1 k2 k3 k4
    refine h _ w' ?_ (((Below.refl _ _).alloc (Nat.le_refl _) _).grown k2 (by simp) (by intro j hj; simp [Value.ownBlock] at hj; omega))
    unfold OwnSs
    simpa [flatS] using k1
/-- A value, a slot stored in the call's own ones. -/
theorem OwnVs.set {w : World} {B g cap n : Nat} {l : List V} (h : OwnVs w B (.slice (some ⟨g, 0, none⟩) n cap) l) (k : Nat) (y : V) (hk : k < l.length) :
    OwnVs ((w.setCell ⟨g, k * 2, none⟩ (.int .i64 y.1)).setCell ⟨g, k * 2 + 1, none⟩ (.int .i64 y.2)) B (.slice (some ⟨g, 0, none⟩) n cap) (l.set k y) := by
  obtain rfl := h.len
  unfold OwnVs at *
  rw [List.length_set, ← flatV_set l k y hk]
  exact ((h.stored (k * 2) _).1.stored (k * 2 + 1) _).1
theorem OwnSs.set {w : World} {B g cap n : Nat} {l : List Slt} (h : OwnSs w B (.slice (some ⟨g, 0, none⟩) n cap) l) (k : Nat) (y : Slt) (hk : k < l.length) :
    OwnSs ((((((w.setCell ⟨g, k * 6, none⟩ (.int .i64 y.st)).setCell ⟨g, k * 6 + 1, none⟩ (.int .i64 y.kat)).setCell ⟨g, k * 6 + 2, none⟩ (.int .i64 y.kgn)).setCell ⟨g, k * 6 + 3, none⟩ (.int .i64 y.tr)).setCell ⟨g, k * 6 + 4, none⟩ (.int .i64 y.re)).setCell ⟨g, k * 6 + 5, none⟩ (.int .i64 y.im)) B (.slice (some ⟨g, 0, none⟩) n cap) (l.set k y) := by
  obtain rfl := h.len
  unfold OwnSs at *
  rw [List.length_set, ← flatS_set l k y hk]
  exact ((((((h.stored (k * 6) _).1.stored (k * 6 + 1) _).1.stored (k * 6 + 2) _).1.stored (k * 6 + 3) _).1.stored (k * 6 + 4) _).1.stored (k * 6 + 5) _).1

/-- A frame's value. -/
abbrev outv (t re im : Int) : Value := .agg #[.int .i64 t, .int .i64 re, .int .i64 im]
abbrev fv (f : Frm) (s l o : Value) : Value := .agg #[.int .i64 f.fn, .int .i64 f.pc, s, l, o, .int .i64 f.seed, .int .i64 f.spn, .int .i64 f.drw, .int .i64 f.st, .int .i64 f.wt, .int .i64 f.otr, .int .i64 f.ore, .int .i64 f.oim, .int .i64 f.uat, .int .i64 f.ugn, .int .i64 f.usl]
/-- A frame that can be read, below block B. -/
def FrmAt (w : World) (B : Nat) (v : Value) (f : Frm) : Prop := ∃ A1 c1 A2 c2 A3 c3, v = fv f (.slice A1 f.stk.length c1) (.slice A2 f.loc.length c2) (.slice A3 f.slt.length c3) ∧ VAt w B A1 f.stk ∧ VAt w B A2 f.loc ∧ SAt w B A3 f.slt
theorem FrmAt.below {w w' : World} {B C : Nat} {v : Value} {f : Frm} (h : FrmAt w B v f) (hb : Below C w w') (hC : B ≤ C) : FrmAt w' B v f := by
  obtain ⟨A1, c1, A2, c2, A3, c3, e, h1, h2, h3⟩ := h
  exact ⟨A1, c1, A2, c2, A3, c3, e, h1.below hb hC, h2.below hb hC, h3.below hb hC⟩
theorem FrmAt.more {w : World} {B C : Nat} {v : Value} {f : Frm} (h : FrmAt w B v f) (hC : B ≤ C) : FrmAt w C v f := by
  obtain ⟨A1, c1, A2, c2, A3, c3, e, h1, h2, h3⟩ := h
  exact ⟨A1, c1, A2, c2, A3, c3, e, h1.more hC, h2.more hC, h3.more hC⟩
/-- Lengths that a walk may rely on. -/
structure FrmLen (f : Frm) : Prop where
  stk : f.stk.length ≤ 1000
  loc : f.loc.length ≤ 1000
  slt : f.slt.length ≤ 1000
/-- A frame of the call's own. -/
def OwnF (w : World) (B : Nat) (v : Value) (f : Frm) : Prop := ∃ s l o, v = fv f s l o ∧ OwnVs w B s f.stk ∧ OwnVs w B l f.loc ∧ OwnSs w B o f.slt
theorem OwnF.at {w : World} {B : Nat} {v : Value} {f : Frm} (h : OwnF w B v f) : FrmAt w w.heap.size v f := by
  obtain ⟨s, l, o, rfl, h1, h2, h3⟩ := h
  obtain ⟨A1, c1, rfl, k1⟩ := h1.lies
  obtain ⟨A2, c2, rfl, k2⟩ := h2.lies
  obtain ⟨A3, c3, rfl, k3⟩ := h3.lies
  exact ⟨A1, c1, A2, c2, A3, c3, rfl, k1, k2, k3⟩
end Go.Proofs.YtoeinpiekfmbgaaGreatDoor

/- Layer 9: the runner in memory: a frame of the call's own, and its program. -/
namespace Go.Proofs.YtoeinpiekfmbgaaGreatDoor
set_option linter.unusedVariables false
set_option linter.unusedSimpArgs false
open Gm Go.RowKit Go.ChangeShapes Go.WideShapes Go.ChangeAt Go.Sort

/-- What the calls need of the world: the tables, below B. -/
structure TabB (w : World) (B : Nat) : Prop where
  ot : Otab w
  otl : 1 < B
  nb : ∃ ty, Held w 0 ty #[.int .i64 (-1), .int .i64 0]
  nbl : 0 < B
theorem TabB.below {w w' : World} {B C : Nat} (h : TabB w B) (hb : Below C w w') (hC : B ≤ C) : TabB w' B :=
  ⟨h.ot.imp fun _ k => (hb.block _ (Nat.lt_of_lt_of_le h.otl hC)).trans k, h.otl, h.nb.imp fun _ k => (hb.block _ (Nat.lt_of_lt_of_le h.nbl hC)).trans k, h.nbl⟩
theorem TabB.more {w : World} {B C : Nat} (h : TabB w B) (hC : B ≤ C) : TabB w C := ⟨h.ot, Nat.lt_of_lt_of_le h.otl hC, h.nb, Nat.lt_of_lt_of_le h.nbl hC⟩

abbrev runA (f : Frm) (s l o pv : Value) : Array Value := #[.int .i64 f.fn, .int .i64 f.pc, s, l, o, .int .i64 f.seed, .int .i64 f.spn, .int .i64 f.drw, .int .i64 f.st, .int .i64 f.wt, .int .i64 f.otr, .int .i64 f.ore, .int .i64 f.oim, .int .i64 f.uat, .int .i64 f.ugn, .int .i64 f.usl, pv]
/-- The runner at block r: frame f, whose stack is s, whose locals are l, whose slots are o, all of them the call's own. -/
structure RunAt (w : World) (B r : Nat) (pv l o : Value) (f : Frm) (s : Value) : Prop where
  blk : Held w r 137 (runA f s l o pv)
  ler : B ≤ r
  os : OwnVs w B s f.stk
  ol : OwnVs w B l f.loc
  oo : OwnSs w B o f.slt
  sr : s.ownBlock ≠ some r
  lr : l.ownBlock ≠ some r
  or : o.ownBlock ≠ some r
  sl : ∀ b, s.ownBlock = some b → l.ownBlock ≠ some b
  so : ∀ b, s.ownBlock = some b → o.ownBlock ≠ some b
  lo : ∀ b, l.ownBlock = some b → o.ownBlock ≠ some b
/-- Block g is none of the runner's. -/
structure Off4 (r : Nat) (s l o : Value) (g : Nat) : Prop where
  r : g ≠ r
  s : s.ownBlock ≠ some g
  l : l.ownBlock ≠ some g
  o : o.ownBlock ≠ some g
/-- No block is turned but the runner's. -/
structure Kp (r : Nat) (s l o : Value) (w w' : World) : Prop where
  os : w'.os = w.os
  tape : w'.tape = w.tape
  output : w'.output = w.output
  size : w.heap.size ≤ w'.heap.size
  block : ∀ k, k < w.heap.size → Off4 r s l o k → w'.heap[k]? = w.heap[k]?
theorem Kp.refl (r : Nat) (s l o : Value) (w : World) : Kp r s l o w w := ⟨rfl, rfl, rfl, Nat.le_refl _, fun _ _ _ => rfl⟩
theorem Kp.of_below {r : Nat} {s l o : Value} {w w' : World} (h : Below w.heap.size w w') : Kp r s l o w w' := ⟨h.os, h.tape, h.output, h.size, fun k hk _ => h.block k hk⟩
theorem Kp.set {r : Nat} {s l o : Value} {w w' : World} (h : Kp r s l o w w') {g : Nat} (hg : g = r ∨ s.ownBlock = some g ∨ l.ownBlock = some g ∨ o.ownBlock = some g) (i : Nat) (x : Value) : Kp r s l o w (w'.setCell ⟨g, i, none⟩ x) :=
  ⟨h.os, h.tape, h.output, by simpa [World.setCell] using h.size, fun k hk ho => (Below.heap_setCell w' ⟨g, i, none⟩ x k (by
    show k ≠ g
    rintro rfl
    rcases hg with e | e | e | e
    · exact ho.r e
    · exact ho.s e
    · exact ho.l e
    · exact ho.o e)).trans (h.block k hk ho)⟩
theorem Kp.grown {r : Nat} {s l o : Value} {w w1 w2 : World} (h : Kp r s l o w w1) {g : Option Nat} (hg : w1.grownBy w2 g) (hs : ∀ b, g = some b → s.ownBlock = some b ∨ w.heap.size ≤ b) : Kp r s l o w w2 :=
  ⟨hg.os.trans h.os, hg.tape.trans h.tape, hg.output.trans h.output, Nat.le_trans h.size hg.size, fun k hk ho => (hg.block k (Nat.lt_of_lt_of_le hk h.size) (by
    intro e
    rcases hs k e.symm with e | e
    · exact ho.s e
    · omega)).trans (h.block k hk ho)⟩

section
variable {w w' : World} {B r : Nat} {pv l o s : Value} {f : Frm}
theorem RunAt.rlt (h : RunAt w B r pv l o f s) : r < w.heap.size := h.blk.lt
theorem RunAt.keep (h : RunAt w B r pv l o f s) (hb : ∀ g, (g = r ∨ s.ownBlock = some g ∨ l.ownBlock = some g ∨ o.ownBlock = some g) → w'.heap[g]? = w.heap[g]?) : RunAt w' B r pv l o f s :=
  ⟨(hb r (.inl rfl)).trans h.blk, h.ler, row_same h.os fun g e => hb g (.inr (.inl e)), row_same h.ol fun g e => hb g (.inr (.inr (.inl e))), row_same h.oo fun g e => hb g (.inr (.inr (.inr e))), h.sr, h.lr, h.or, h.sl, h.so, h.lo⟩
theorem RunAt.lts (h : RunAt w B r pv l o f s) {g : Nat} (e : g = r ∨ s.ownBlock = some g ∨ l.ownBlock = some g ∨ o.ownBlock = some g) : B ≤ g ∧ g < w.heap.size := by
  rcases e with rfl | e | e | e
  · exact ⟨h.ler, h.rlt⟩
  · exact h.os.lt g e
  · exact h.ol.lt g e
  · exact h.oo.lt g e
theorem RunAt.below (h : RunAt w B r pv l o f s) (hb : Below w.heap.size w w') : RunAt w' B r pv l o f s := h.keep fun g e => hb.block g (h.lts e).2
theorem RunAt.off (h : RunAt w B r pv l o f s) {g : Nat} (hg : w.heap.size ≤ g) : Off4 r s l o g := by
  refine ⟨?_, ?_, ?_, ?_⟩
  · rintro rfl; have := h.rlt; omega
  · intro e; have := (h.lts (.inr (.inl e))).2; omega
  · intro e; have := (h.lts (.inr (.inr (.inl e)))).2; omega
  · intro e; have := (h.lts (.inr (.inr (.inr e)))).2; omega
/-- Below B all is as it was. -/
theorem RunAt.low (h : RunAt w B r pv l o f s) (hk : Kp r s l o w w') (hB : B ≤ w.heap.size) : Below B w w' :=
  ⟨hk.os, hk.tape, hk.output, hk.size, fun k hlt => hk.block k (by omega) ⟨by have := h.ler; omega, fun e => by have := (h.lts (.inr (.inl e))).1; omega, fun e => by have := (h.lts (.inr (.inr (.inl e)))).1; omega, fun e => by have := (h.lts (.inr (.inr (.inr e)))).1; omega⟩⟩
theorem RunAt.far (h : RunAt w B r pv l o f s) {g : Nat} (hg : Off4 r s l o g) (i : Nat) (x : Value) : RunAt (w.setCell ⟨g, i, none⟩ x) B r pv l o f s := h.keep fun k e => Below.heap_setCell w ⟨g, i, none⟩ x k (by
  show k ≠ g
  rintro rfl
  rcases e with e | e | e | e
  · exact hg.r e
  · exact hg.s e
  · exact hg.l e
  · exact hg.o e)
/-- A field that is no list is stored. -/
theorem RunAt.store (h : RunAt w B r pv l o f s) (i : Nat) (x : Value) (f' : Frm) (hf : (runA f s l o pv).setIfInBounds i x = runA f' s l o pv) (h1 : f'.stk = f.stk) (h2 : f'.loc = f.loc) (h3 : f'.slt = f.slt) : RunAt (w.setCell ⟨r, i, none⟩ x) B r pv l o f' s := by
  have hx : ∀ g, g ≠ r → (w.setCell ⟨r, i, none⟩ x).heap[g]? = w.heap[g]? := fun g hg => Below.heap_setCell w ⟨r, i, none⟩ x g hg
  refine ⟨?_, h.ler, ?_, ?_, ?_, h.sr, h.lr, h.or, h.sl, h.so, h.lo⟩
  · rw [← hf]; exact h.blk.set_at i x
  · rw [h1]; exact row_same h.os fun g e => hx g (fun e2 => h.sr (by rw [e, e2]))
  · rw [h2]; exact row_same h.ol fun g e => hx g (fun e2 => h.lr (by rw [e, e2]))
  · rw [h3]; exact row_same h.oo fun g e => hx g (fun e2 => h.or (by rw [e, e2]))
/-- The stack's slice is stored: another one of the call's own. -/
theorem RunAt.stack (h : RunAt w B r pv l o f s) {s' : Value} {k : List V} (hb : ∀ g, (g = r ∨ l.ownBlock = some g ∨ o.ownBlock = some g) → w'.heap[g]? = w.heap[g]?) (hs : OwnVs w' B s' k) (hn : ∀ b, s'.ownBlock = some b → s.ownBlock = some b ∨ w.heap.size ≤ b) :
    RunAt (w'.setCell ⟨r, 2, none⟩ s') B r pv l o { f with stk := k } s' := by
  have hx : ∀ g, g ≠ r → (w'.setCell ⟨r, 2, none⟩ s').heap[g]? = w'.heap[g]? := fun g hg => Below.heap_setCell w' ⟨r, 2, none⟩ s' g hg
  have hsr : s'.ownBlock ≠ some r := fun e => by
    rcases hn r e with e | e
    · exact h.sr e
    · have := h.rlt; omega
  refine ⟨?_, h.ler, row_same hs fun g e => hx g (fun e2 => hsr (by rw [e, e2])), row_same h.ol fun g e => (hx g (fun e2 => h.lr (by rw [e, e2]))).trans (hb g (.inr (.inl e))), row_same h.oo fun g e => (hx g (fun e2 => h.or (by rw [e, e2]))).trans (hb g (.inr (.inr e))), hsr, h.lr, h.or, ?_, ?_, h.lo⟩
  · have h1 : Held w' r 137 (runA f s l o pv) := (hb r (.inl rfl)).trans h.blk
    exact h1.set_at 2 s'
  · intro b e e2
    rcases hn b e with e | e
    · exact h.sl b e e2
    · have := (h.ol.lt b e2).2; omega
  · intro b e e2
    rcases hn b e with e | e
    · exact h.so b e e2
    · have := (h.oo.lt b e2).2; omega
theorem RunAt.cells (h : RunAt w B r pv l o f s) : ∀ i, w.cell? ⟨r, i, none⟩ = (runA f s l o pv)[i]? := fun i => h.blk.cell i
theorem RunAt.slices (h : RunAt w B r pv l o f s) : (∃ A c, s = .slice A f.stk.length c ∧ VAt w w.heap.size A f.stk) ∧ (∃ A c, l = .slice A f.loc.length c ∧ VAt w w.heap.size A f.loc) ∧ (∃ A c, o = .slice A f.slt.length c ∧ SAt w w.heap.size A f.slt) :=
  ⟨h.os.lies, h.ol.lies, h.oo.lies⟩
/-- A local, a slot is stored. -/
theorem RunAt.setLoc {g n c : Nat} (h : RunAt w B r pv (.slice (some ⟨g, 0, none⟩) n c) o f s) (k : Nat) (y : V) (hk : k < f.loc.length) :
    RunAt ((w.setCell ⟨g, k * 2, none⟩ (.int .i64 y.1)).setCell ⟨g, k * 2 + 1, none⟩ (.int .i64 y.2)) B r pv (.slice (some ⟨g, 0, none⟩) n c) o { f with loc := f.loc.set k y } s := by
  have hx : ∀ k', k' ≠ g → ((w.setCell ⟨g, k * 2, none⟩ (.int .i64 y.1)).setCell ⟨g, k * 2 + 1, none⟩ (.int .i64 y.2)).heap[k']? = w.heap[k']? := fun k' hk' => (Below.heap_setCell _ ⟨g, _, none⟩ _ k' hk').trans (Below.heap_setCell _ ⟨g, _, none⟩ _ k' hk')
  refine ⟨(hx r (fun e => h.lr (by rw [e]; rfl))).trans h.blk, h.ler, row_same h.os fun b e => hx b (fun e2 => h.sl b e (by rw [e2]; rfl)), h.ol.set k y hk, row_same h.oo fun b e => hx b (fun e2 => h.lo b (by rw [e2]; rfl) e), h.sr, h.lr, h.or, h.sl, h.so, h.lo⟩
theorem RunAt.setSlt {g n c : Nat} (h : RunAt w B r pv l (.slice (some ⟨g, 0, none⟩) n c) f s) (k : Nat) (y : Slt) (hk : k < f.slt.length) :
    RunAt ((((((w.setCell ⟨g, k * 6, none⟩ (.int .i64 y.st)).setCell ⟨g, k * 6 + 1, none⟩ (.int .i64 y.kat)).setCell ⟨g, k * 6 + 2, none⟩ (.int .i64 y.kgn)).setCell ⟨g, k * 6 + 3, none⟩ (.int .i64 y.tr)).setCell ⟨g, k * 6 + 4, none⟩ (.int .i64 y.re)).setCell ⟨g, k * 6 + 5, none⟩ (.int .i64 y.im)) B r pv l (.slice (some ⟨g, 0, none⟩) n c) { f with slt := f.slt.set k y } s := by
  have hx : ∀ k', k' ≠ g → ((((((w.setCell ⟨g, k * 6, none⟩ (.int .i64 y.st)).setCell ⟨g, k * 6 + 1, none⟩ (.int .i64 y.kat)).setCell ⟨g, k * 6 + 2, none⟩ (.int .i64 y.kgn)).setCell ⟨g, k * 6 + 3, none⟩ (.int .i64 y.tr)).setCell ⟨g, k * 6 + 4, none⟩ (.int .i64 y.re)).setCell ⟨g, k * 6 + 5, none⟩ (.int .i64 y.im)).heap[k']? = w.heap[k']? := fun k' hk' =>
    (Below.heap_setCell _ ⟨g, _, none⟩ _ k' hk').trans ((Below.heap_setCell _ ⟨g, _, none⟩ _ k' hk').trans ((Below.heap_setCell _ ⟨g, _, none⟩ _ k' hk').trans ((Below.heap_setCell _ ⟨g, _, none⟩ _ k' hk').trans ((Below.heap_setCell _ ⟨g, _, none⟩ _ k' hk').trans (Below.heap_setCell _ ⟨g, _, none⟩ _ k' hk')))))
  refine ⟨(hx r (fun e => h.or (by rw [e]; rfl))).trans h.blk, h.ler, row_same h.os fun b e => hx b (fun e2 => h.so b e (by rw [e2]; rfl)), row_same h.ol fun b e => hx b (fun e2 => h.lo b e (by rw [e2]; rfl)), h.oo.set k y hk, h.sr, h.lr, h.or, h.sl, h.so, h.lo⟩
/-- A slot's state and child alone. -/
theorem flatS_set3 (l : List Slt) (k : Nat) (a b c : Int) (hk : k < l.length) : (((flatS l).set (k * 6) (.int .i64 a)).set (k * 6 + 1) (.int .i64 b)).set (k * 6 + 2) (.int .i64 c) = flatS (l.set k { l[k] with st := a, kat := b, kgn := c }) := by
  rw [← flatS_set l k { l[k] with st := a, kat := b, kgn := c } hk]
  obtain ⟨e0, e1, e2, e3, e4, e5⟩ := flatS_at l k hk
  apply List.ext_getElem?
  intro i
  simp only [List.getElem?_set, List.length_set]
  have hl := flatS_len l
  by_cases i3 : k * 6 + 3 = i
  · subst i3; rw [if_neg (by omega), if_neg (by omega), if_neg (by omega), if_neg (by omega), if_neg (by omega), if_pos rfl, if_pos (by omega), e3]
  · by_cases i4 : k * 6 + 4 = i
    · subst i4; rw [if_neg (by omega), if_neg (by omega), if_neg (by omega), if_neg (by omega), if_pos rfl, if_pos (by omega), e4]
    · by_cases i5 : k * 6 + 5 = i
      · subst i5; rw [if_neg (by omega), if_neg (by omega), if_neg (by omega), if_pos rfl, if_pos (by omega), e5]
      · rw [if_neg i5, if_neg i4, if_neg i3]
theorem RunAt.setSlt3 {g n c : Nat} (h : RunAt w B r pv l (.slice (some ⟨g, 0, none⟩) n c) f s) (k : Nat) (y z u : Int) (hk : k < f.slt.length) :
    RunAt (((w.setCell ⟨g, k * 6, none⟩ (.int .i64 y)).setCell ⟨g, k * 6 + 1, none⟩ (.int .i64 z)).setCell ⟨g, k * 6 + 2, none⟩ (.int .i64 u)) B r pv l (.slice (some ⟨g, 0, none⟩) n c) { f with slt := f.slt.set k { f.slt[k] with st := y, kat := z, kgn := u } } s := by
  have hx : ∀ k', k' ≠ g → (((w.setCell ⟨g, k * 6, none⟩ (.int .i64 y)).setCell ⟨g, k * 6 + 1, none⟩ (.int .i64 z)).setCell ⟨g, k * 6 + 2, none⟩ (.int .i64 u)).heap[k']? = w.heap[k']? := fun k' hk' =>
    (Below.heap_setCell _ ⟨g, _, none⟩ _ k' hk').trans ((Below.heap_setCell _ ⟨g, _, none⟩ _ k' hk').trans (Below.heap_setCell _ ⟨g, _, none⟩ _ k' hk'))
  refine ⟨(hx r (fun e => h.or (by rw [e]; rfl))).trans h.blk, h.ler, row_same h.os fun b e => hx b (fun e2 => h.so b e (by rw [e2]; rfl)), row_same h.ol fun b e => hx b (fun e2 => h.lo b e (by rw [e2]; rfl)), ?_, h.sr, h.lr, h.or, h.sl, h.so, h.lo⟩
  obtain rfl := h.oo.len
  unfold OwnSs
  have h1 := h.oo
  unfold OwnSs at h1
  rw [List.length_set, ← flatS_set3 f.slt k y z u hk]
  exact (((h1.stored (k * 6) _).1.stored (k * 6 + 1) _).1.stored (k * 6 + 2) _).1
end
/-- What a method of the runner leaves: the frame f', its stack s'; no block is turned but the runner's. -/
structure Aft (B r : Nat) (pv l o s : Value) (w : World) (f' : Frm) (s' : Value) (w' : World) : Prop where
  run : RunAt w' B r pv l o f' s'
  kp : Kp r s l o w w'
  new : ∀ b, s'.ownBlock = some b → s.ownBlock = some b ∨ w.heap.size ≤ b
theorem Aft.refl {B r : Nat} {pv l o s : Value} {w : World} {f : Frm} (h : RunAt w B r pv l o f s) : Aft B r pv l o s w f s w := ⟨h, Kp.refl _ _ _ _ _, fun _ e => .inl e⟩
theorem Aft.off {B r : Nat} {pv l o s s' : Value} {w w' : World} {f' : Frm} (h : Aft B r pv l o s w f' s' w') {g : Nat} (hg : Off4 r s l o g) (hlt : g < w.heap.size) : Off4 r s' l o g :=
  ⟨hg.r, fun e => by
    rcases h.new g e with e | e
    · exact hg.s e
    · omega, hg.l, hg.o⟩
theorem Aft.held {B r : Nat} {pv l o s s' : Value} {w w' : World} {f' : Frm} (h : Aft B r pv l o s w f' s' w') {g : Nat} {t : TypeId} {cs : Array Value} (hh : Held w g t cs) (hg : Off4 r s l o g) : Held w' g t cs := (h.kp.block g hh.lt hg).trans hh
theorem Aft.trans {B r : Nat} {pv l o s s1 s2 : Value} {w w1 w2 : World} {f1 f2 : Frm} (h : Aft B r pv l o s w f1 s1 w1) (h2 : Aft B r pv l o s1 w1 f2 s2 w2) : Aft B r pv l o s w f2 s2 w2 :=
  ⟨h2.run, ⟨h2.kp.os.trans h.kp.os, h2.kp.tape.trans h.kp.tape, h2.kp.output.trans h.kp.output, Nat.le_trans h.kp.size h2.kp.size, fun k hk ho => (h2.kp.block k (Nat.lt_of_lt_of_le hk h.kp.size) (h.off ho hk)).trans (h.kp.block k hk ho)⟩, fun b e => by
    rcases h2.new b e with e | e
    · exact h.new b e
    · exact .inr (Nat.le_trans h.kp.size e)⟩
theorem Aft.below {B r : Nat} {pv l o s s1 : Value} {w w1 w2 : World} {f1 : Frm} (h : Aft B r pv l o s w f1 s1 w1) (hb : Below w1.heap.size w1 w2) : Aft B r pv l o s w f1 s1 w2 := h.trans ⟨h.run.below hb, Kp.of_below hb, fun _ e => .inl e⟩
theorem Aft.pre {B r : Nat} {pv l o s s1 : Value} {w0 w w1 : World} {f1 : Frm} (hb : Below w0.heap.size w0 w) (h : Aft B r pv l o s w f1 s1 w1) : Aft B r pv l o s w0 f1 s1 w1 :=
  ⟨h.run, ⟨h.kp.os.trans hb.os, h.kp.tape.trans hb.tape, h.kp.output.trans hb.output, Nat.le_trans hb.size h.kp.size, fun k hk ho => (h.kp.block k (Nat.lt_of_lt_of_le hk hb.size) ho).trans (hb.block k hk)⟩, fun b e => (h.new b e).imp id fun e => Nat.le_trans hb.size e⟩
theorem Aft.low {B r : Nat} {pv l o s s' : Value} {w w' : World} {f f' : Frm} (h : Aft B r pv l o s w f' s' w') (h0 : RunAt w B r pv l o f s) (hB : B ≤ w.heap.size) : Below B w w' := h0.low h.kp hB
/-- A store into a block that is none of the runner's, and was made behind the beginning. -/
theorem Aft.far {B r : Nat} {pv l o s s1 : Value} {w w1 : World} {f1 : Frm} (h : Aft B r pv l o s w f1 s1 w1) {g : Nat} (hg : Off4 r s1 l o g) (hge : w.heap.size ≤ g) (i : Nat) (x : Value) : Aft B r pv l o s w f1 s1 (w1.setCell ⟨g, i, none⟩ x) :=
  ⟨h.run.far hg i x, ⟨h.kp.os, h.kp.tape, h.kp.output, by simpa [World.setCell] using h.kp.size, fun k hk ho => (Below.heap_setCell w1 ⟨g, i, none⟩ x k (by show k ≠ g; omega)).trans (h.kp.block k hk ho)⟩, h.new⟩
/-- A field that is no list is stored. -/
theorem Aft.sto {B r : Nat} {pv l o s s1 : Value} {w w1 : World} {f1 : Frm} (h : Aft B r pv l o s w f1 s1 w1) (i : Nat) (x : Value) (f' : Frm) (hf : (runA f1 s1 l o pv).setIfInBounds i x = runA f' s1 l o pv) (h1 : f'.stk = f1.stk) (h2 : f'.loc = f1.loc) (h3 : f'.slt = f1.slt) : Aft B r pv l o s w f' s1 (w1.setCell ⟨r, i, none⟩ x) :=
  ⟨h.run.store i x f' hf h1 h2 h3, h.kp.set (.inl rfl) i x, h.new⟩
theorem Aft.drew {B r : Nat} {pv l o s s1 : Value} {w w1 : World} {f1 : Frm} (h : Aft B r pv l o s w f1 s1 w1) : Aft B r pv l o s w f1 s1 w1.drew := h.below (Below.refl _ _).drew
theorem Aft.alloc {B r : Nat} {pv l o s s1 : Value} {w w1 : World} {f1 : Frm} (h : Aft B r pv l o s w f1 s1 w1) (c : Obj) : Aft B r pv l o s w f1 s1 (w1.alloc c) := h.below ((Below.refl _ _).alloc (Nat.le_refl _) _)
theorem Aft.pc {B r : Nat} {pv l o s s1 : Value} {w w1 : World} {f1 : Frm} (h : Aft B r pv l o s w f1 s1 w1) (n : Int) : Aft B r pv l o s w (goF f1 n) s1 (w1.setCell ⟨r, 1, none⟩ (.int .i64 n)) := h.sto 1 _ _ rfl rfl rfl rfl
theorem Aft.ends {B r : Nat} {pv l o s s1 : Value} {w w1 : World} {f1 : Frm} (h : Aft B r pv l o s w f1 s1 w1) (t re im : Int) : Aft B r pv l o s w (endF f1 t (re, im)) s1 ((((w1.setCell ⟨r, 8, none⟩ (.int .i64 2)).setCell ⟨r, 10, none⟩ (.int .i64 t)).setCell ⟨r, 11, none⟩ (.int .i64 re)).setCell ⟨r, 12, none⟩ (.int .i64 im)) :=
  (((h.sto 8 (.int .i64 2) { f1 with st := 2 } rfl rfl rfl rfl).sto 10 (.int .i64 t) { f1 with st := 2, otr := t } rfl rfl rfl rfl).sto 11 (.int .i64 re) { f1 with st := 2, otr := t, ore := re } rfl rfl rfl rfl).sto 12 (.int .i64 im) (endF f1 t (re, im)) rfl rfl rfl rfl
/-- What an instruction asks for, as a value. -/
abbrev akv (k : Int) : Value := .agg #[.int .i64 k, .int .i64 0, .int .i64 0, .int .i64 0, .slice none 0 0]
theorem own_form {w : World} {B size n : Nat} {e : TypeId} {v : Value} {xs : List Value} (h : w.ownsRow B e size v n xs) (h0 : 0 < n) : ∃ g c, v = .slice (some ⟨g, 0, none⟩) n c := by
  rcases h.2 with ⟨_, e0⟩ | ⟨g, cap, cur, e, _⟩
  · omega
  · exact ⟨g, cap, e⟩
theorem own_fz {w : World} {B size n c g : Nat} {e : TypeId} {xs : List Value} (h : w.ownsRow B e size (.slice (some ⟨g, 0, none⟩) n c) n xs) (i : Nat) : w.frozen? ⟨g, i, none⟩ = false := by
  rcases h.2 with ⟨e0, _⟩ | ⟨g', cap, cur, e, _, hg, _⟩
  · simp at e0
  · simp only [Value.slice.injEq, Option.some.injEq, Addr.mk.injEq, and_true, true_and] at e
    obtain ⟨rfl, rfl⟩ := e
    exact fz_at hg i
theorem own_vs {w : World} {B n c g : Nat} {l : List V} (h : OwnVs w B (.slice (some ⟨g, 0, none⟩) n c) l) {k : Nat} (hk : k < l.length) :
    w.cell? ⟨g, k * 2, none⟩ = some (.int .i64 l[k].1) ∧ w.cell? ⟨g, k * 2 + 1, none⟩ = some (.int .i64 l[k].2) ∧ w.frozen? ⟨g, k * 2, none⟩ = false ∧ w.frozen? ⟨g, k * 2 + 1, none⟩ = false := by
  obtain rfl := h.len
  obtain ⟨e0, e1⟩ := flatV_at l k hk
  exact ⟨(h.cellAt (k * 2) (by omega)).trans e0, (h.cellAt (k * 2 + 1) (by omega)).trans e1, own_fz h _, own_fz h _⟩
theorem own_ss {w : World} {B n c g : Nat} {l : List Slt} (h : OwnSs w B (.slice (some ⟨g, 0, none⟩) n c) l) {k : Nat} (hk : k < l.length) :
    (w.cell? ⟨g, k * 6, none⟩ = some (.int .i64 l[k].st) ∧ w.cell? ⟨g, k * 6 + 1, none⟩ = some (.int .i64 l[k].kat) ∧ w.cell? ⟨g, k * 6 + 2, none⟩ = some (.int .i64 l[k].kgn) ∧ w.cell? ⟨g, k * 6 + 3, none⟩ = some (.int .i64 l[k].tr) ∧ w.cell? ⟨g, k * 6 + 4, none⟩ = some (.int .i64 l[k].re) ∧ w.cell? ⟨g, k * 6 + 5, none⟩ = some (.int .i64 l[k].im)) ∧
    ∀ i, w.frozen? ⟨g, i, none⟩ = false := by
  obtain rfl := h.len
  obtain ⟨e0, e1, e2, e3, e4, e5⟩ := flatS_at l k hk
  exact ⟨⟨(h.cellAt (k * 6) (by omega)).trans e0, (h.cellAt (k * 6 + 1) (by omega)).trans e1, (h.cellAt (k * 6 + 2) (by omega)).trans e2, (h.cellAt (k * 6 + 3) (by omega)).trans e3, (h.cellAt (k * 6 + 4) (by omega)).trans e4, (h.cellAt (k * 6 + 5) (by omega)).trans e5⟩, own_fz h⟩
theorem Aft.loc {B r g n c : Nat} {pv o s s1 : Value} {w w1 : World} {f1 : Frm} (h : Aft B r pv (.slice (some ⟨g, 0, none⟩) n c) o s w f1 s1 w1) (k : Nat) (y : V) (hk : k < f1.loc.length) :
    Aft B r pv (.slice (some ⟨g, 0, none⟩) n c) o s w { f1 with loc := f1.loc.set k y } s1 ((w1.setCell ⟨g, k * 2, none⟩ (.int .i64 y.1)).setCell ⟨g, k * 2 + 1, none⟩ (.int .i64 y.2)) :=
  ⟨h.run.setLoc k y hk, (h.kp.set (.inr (.inr (.inl rfl))) _ _).set (.inr (.inr (.inl rfl))) _ _, h.new⟩
theorem Aft.slot {B r g n c : Nat} {pv l s s1 : Value} {w w1 : World} {f1 : Frm} (h : Aft B r pv l (.slice (some ⟨g, 0, none⟩) n c) s w f1 s1 w1) (k : Nat) (y : Slt) (hk : k < f1.slt.length) :
    Aft B r pv l (.slice (some ⟨g, 0, none⟩) n c) s w { f1 with slt := f1.slt.set k y } s1 ((((((w1.setCell ⟨g, k * 6, none⟩ (.int .i64 y.st)).setCell ⟨g, k * 6 + 1, none⟩ (.int .i64 y.kat)).setCell ⟨g, k * 6 + 2, none⟩ (.int .i64 y.kgn)).setCell ⟨g, k * 6 + 3, none⟩ (.int .i64 y.tr)).setCell ⟨g, k * 6 + 4, none⟩ (.int .i64 y.re)).setCell ⟨g, k * 6 + 5, none⟩ (.int .i64 y.im)) :=
  ⟨h.run.setSlt k y hk, (((((h.kp.set (.inr (.inr (.inr rfl))) _ _).set (.inr (.inr (.inr rfl))) _ _).set (.inr (.inr (.inr rfl))) _ _).set (.inr (.inr (.inr rfl))) _ _).set (.inr (.inr (.inr rfl))) _ _).set (.inr (.inr (.inr rfl))) _ _, h.new⟩
theorem Aft.slot3 {B r g n c : Nat} {pv l s s1 : Value} {w w1 : World} {f1 : Frm} (h : Aft B r pv l (.slice (some ⟨g, 0, none⟩) n c) s w f1 s1 w1) (k : Nat) (x y z : Int) (hk : k < f1.slt.length) :
    Aft B r pv l (.slice (some ⟨g, 0, none⟩) n c) s w { f1 with slt := f1.slt.set k { f1.slt[k] with st := x, kat := y, kgn := z } } s1 (((w1.setCell ⟨g, k * 6, none⟩ (.int .i64 x)).setCell ⟨g, k * 6 + 1, none⟩ (.int .i64 y)).setCell ⟨g, k * 6 + 2, none⟩ (.int .i64 z)) :=
  ⟨h.run.setSlt3 k x y z hk, ((h.kp.set (.inr (.inr (.inr rfl))) _ _).set (.inr (.inr (.inr rfl))) _ _).set (.inr (.inr (.inr rfl))) _ _, h.new⟩
end Go.Proofs.YtoeinpiekfmbgaaGreatDoor

/- Layer 9: the listed variables, out of what they read as: a struct of ints; both tables. -/
namespace Go.Proofs.YtoeinpiekfmbgaaGreatDoor
set_option linter.unusedVariables false
set_option linter.unusedSimpArgs false
open Go Go.Lib

/-- A listed struct of one-cell fields is what stands in the variable's block. -/
theorem held_of_laid1 {P : Program} {W : World} {name : String} {ls : List Lit} {rest : List (String × DataW Unit)} {g : Nat} {t : TypeId} {k : Nat} {fs : Array Field}
    (hg : P.globalNamed name = some g) (hty : (P.globals[g]?).map (·.type) = some t) (ht : P.underlying t = some (.struct fs)) (hct : P.cellsOf t = k) (hfl : fs.toList.length = k)
    (hf : (List.range k).all (fun j => match fs.toList[j]? with | some f => f.offset == j && P.cellsOf f.type == 1 && plainB P f.type | none => false) = true) (hn : 0 < ls.length)
    (h : laidMet P ((name, .agg (ls.map .lit)) :: rest) W) : ∃ ty, W.heap[g]? = some (.cells (ls.map Lit.value).toArray ty (0, 0)) := by
  obtain ⟨ps, ⟨g', t', cs, fuel, p, q, hg', ht', hvar, hd, _, hps⟩, _, hall⟩ := h
  obtain rfl := Option.some.inj (hg.symm.trans hg')
  obtain rfl := Option.some.inj (hty.symm.trans ht')
  have hcs := chunk_of_trod ht hct hfl hf hd
  have hpos : 0 < cs.size := by
    have : cs.toList.length = ls.length := by rw [hcs]; simp
    have h3 : cs.size = cs.toList.length := by simp
    omega
  obtain ⟨⟨c, ty, hc⟩, _⟩ := hall g 0 (by
    rw [hps]
    refine List.mem_append_left _ (List.mem_append_left _ ?_)
    exact MemPlace.mem_row.2 ⟨0, hpos, by simp⟩)
  have hv : W.var? P name = some c := by unfold World.var?; rw [hg]; simp [hc]
  obtain rfl := Option.some.inj (hv.symm.trans hvar)
  refine ⟨ty, ?_⟩
  rw [hc]
  congr 2
  exact Array.toList_inj.1 (by rw [hcs])
def Nob (W : World) : Prop := ∃ ty, Held W 0 ty #[.int .i64 (-1), .int .i64 0]
theorem nob_global : Tryz.prog.globalNamed "transhumance/frame.nobody" = some 0 := by kernel_rfl
theorem nob_type : (Tryz.prog.globals[0]?).map (·.type) = some 43 := by kernel_rfl
theorem nob_cells : Tryz.prog.cellsOf 43 = 2 := by kernel_rfl
theorem nob_is : Rows.laid_transhumance_frame_nobody (H := Unit) = .agg ([Lit.int .i64 (-1), Lit.int .i64 0].map .lit) := by kernel_rfl
theorem nob_of_laid {W : World} {rest : List (String × DataW Unit)} (h : laidMet Tryz.prog (("transhumance/frame.nobody", Rows.laid_transhumance_frame_nobody) :: rest) W) : Nob W := by
  rw [nob_is] at h
  exact held_of_laid1 nob_global nob_type Tryz.underlying43 nob_cells rfl (by kernel_rfl) (by decide) h
theorem tabB_of {W : World} (h1 : Otab W) (h2 : Nob W) : TabB W W.heap.size := ⟨h1, h1.lt, h2, by obtain ⟨_, h⟩ := h2; exact h.lt⟩
end Go.Proofs.YtoeinpiekfmbgaaGreatDoor

