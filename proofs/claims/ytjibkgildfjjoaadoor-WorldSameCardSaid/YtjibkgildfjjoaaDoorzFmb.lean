/- Lists of values and of slots in memory, read and of one's own; frames in memory. -/
import Derived.Test.YtjibkgildfjjoaaDoorzKit
import Derived.Test.YtjibkgildfjjoaaDoorzPw
import Derived.Test.YtjibkgildfjjoaaDoorzRw
import Derived.Deep.AppendLies
import Derived.Laws.OwnMore
import Derived.Deep.MidRow
import Derived.Test.YtjibkgildfjjoaaDoorzQt
import Derived.Deep.RegionHeld3
import Derived.Deep.DeepCutAuto
import Derived.Deep.CutBlock
import Derived.BigQuiet
import Derived.Laws.CopyOwn
import Derived.WalkLawsBesides
import Derived.Lib.SliceRun
namespace Go.Proofs.YtjibkgildfjjoaaDoor
set_option linter.unusedVariables false
set_option linter.unusedSimpArgs false
open Go.RowKit Go.ChangeShapes Go.WideShapes Go.ChangeAt Go.Sort

/-- The slice at A holds these values, below block B. -/
def VAt (w : World) (B : Nat) (A : Option Addr) (l : List V) : Prop :=
  0 < l.length → ∃ b off, A = some ⟨b, off, none⟩ ∧ b < B ∧ ∀ j (h : j < l.length), w.cell? ⟨b, off + j * 2, none⟩ = some (.int .i64 l[j].1) ∧ w.cell? ⟨b, off + j * 2 + 1, none⟩ = some (.int .i64 l[j].2)
/-- The slice at A holds these slots, below block B. -/
def SAt (w : World) (B : Nat) (A : Option Addr) (l : List Slt) : Prop :=
  0 < l.length → ∃ b off, A = some ⟨b, off, none⟩ ∧ b < B ∧ ∀ j (h : j < l.length), w.cell? ⟨b, off + j * 6, none⟩ = some (.int .i64 l[j].st) ∧ w.cell? ⟨b, off + j * 6 + 1, none⟩ = some (.int .i64 l[j].kat) ∧ w.cell? ⟨b, off + j * 6 + 2, none⟩ = some (.int .i64 l[j].kgn) ∧
    w.cell? ⟨b, off + j * 6 + 3, none⟩ = some (.int .i64 l[j].tr) ∧ w.cell? ⟨b, off + j * 6 + 4, none⟩ = some (.int .i64 l[j].re) ∧ w.cell? ⟨b, off + j * 6 + 5, none⟩ = some (.int .i64 l[j].im)
theorem VAt.nil (w : World) (B : Nat) (A : Option Addr) : VAt w B A [] := fun h => absurd h (by simp)
theorem SAt.nil (w : World) (B : Nat) (A : Option Addr) : SAt w B A [] := fun h => absurd h (by simp)
theorem VAt.below {w w' : World} {B : Nat} {A : Option Addr} {l : List V} (h : VAt w B A l) {C : Nat} (hb : Below C w w') (hC : B ≤ C) : VAt w' B A l := fun h0 => by
  obtain ⟨b, off, e, hlt, hc⟩ := h h0
  refine ⟨b, off, e, hlt, fun j hj => ⟨?_, ?_⟩⟩
  · exact (hb.cell (p := ⟨b, off + j * 2, none⟩) (by show b < C; omega)).trans (hc j hj).1
  · exact (hb.cell (p := ⟨b, off + j * 2 + 1, none⟩) (by show b < C; omega)).trans (hc j hj).2
theorem SAt.below {w w' : World} {B : Nat} {A : Option Addr} {l : List Slt} (h : SAt w B A l) {C : Nat} (hb : Below C w w') (hC : B ≤ C) : SAt w' B A l := fun h0 => by
  obtain ⟨b, off, e, hlt, hc⟩ := h h0
  refine ⟨b, off, e, hlt, fun j hj => ?_⟩
  obtain ⟨c0, c1, c2, c3, c4, c5⟩ := hc j hj
  have hbC : b < C := by omega
  exact ⟨(hb.cell (p := ⟨b, off + j * 6, none⟩) hbC).trans c0, (hb.cell (p := ⟨b, off + j * 6 + 1, none⟩) hbC).trans c1, (hb.cell (p := ⟨b, off + j * 6 + 2, none⟩) hbC).trans c2,
    (hb.cell (p := ⟨b, off + j * 6 + 3, none⟩) hbC).trans c3, (hb.cell (p := ⟨b, off + j * 6 + 4, none⟩) hbC).trans c4, (hb.cell (p := ⟨b, off + j * 6 + 5, none⟩) hbC).trans c5⟩
theorem VAt.more {w : World} {B C : Nat} {A : Option Addr} {l : List V} (h : VAt w B A l) (hC : B ≤ C) : VAt w C A l := fun h0 => by
  obtain ⟨b, off, e, hlt, hc⟩ := h h0
  exact ⟨b, off, e, by omega, hc⟩
theorem SAt.more {w : World} {B C : Nat} {A : Option Addr} {l : List Slt} (h : SAt w B A l) (hC : B ≤ C) : SAt w C A l := fun h0 => by
  obtain ⟨b, off, e, hlt, hc⟩ := h h0
  exact ⟨b, off, e, by omega, hc⟩

def flatV (l : List V) : List Value := l.flatMap fun x => [.int .i64 x.1, .int .i64 x.2]
def flatS (l : List Slt) : List Value := l.flatMap fun x => [.int .i64 x.st, .int .i64 x.kat, .int .i64 x.kgn, .int .i64 x.tr, .int .i64 x.re, .int .i64 x.im]
theorem flatV_len : ∀ l, (flatV l).length = l.length * 2
  | [] => rfl
  | x :: l => by
    have := flatV_len l
    unfold flatV at *
    simp only [List.flatMap_cons, List.length_append, List.length_cons, List.length_nil]
    omega
theorem flatS_len : ∀ l, (flatS l).length = l.length * 6
  | [] => rfl
  | x :: l => by
    have := flatS_len l
    unfold flatS at *
    simp only [List.flatMap_cons, List.length_append, List.length_cons, List.length_nil]
    omega
theorem flatV_append (l k : List V) : flatV (l ++ k) = flatV l ++ flatV k := by simp [flatV]
theorem flatV_at : ∀ (l : List V) (j : Nat) (h : j < l.length), (flatV l)[j * 2]? = some (.int .i64 l[j].1) ∧ (flatV l)[j * 2 + 1]? = some (.int .i64 l[j].2)
  | x :: l, 0, _ => by simp [flatV]
  | x :: l, j + 1, h => by
    have ih := flatV_at l j (by simpa using h)
    have e : flatV (x :: l) = [.int .i64 x.1, .int .i64 x.2] ++ flatV l := by simp [flatV]
    have sh : ∀ k, (flatV (x :: l))[k + 2]? = (flatV l)[k]? := fun k => by rw [e, List.getElem?_append_right (by simp)]; simp
    rw [show (j + 1) * 2 = j * 2 + 2 by omega, show j * 2 + 2 + 1 = (j * 2 + 1) + 2 by omega, sh, sh]
    exact ih
theorem flatS_at : ∀ (l : List Slt) (j : Nat) (h : j < l.length), (flatS l)[j * 6]? = some (.int .i64 l[j].st) ∧ (flatS l)[j * 6 + 1]? = some (.int .i64 l[j].kat) ∧ (flatS l)[j * 6 + 2]? = some (.int .i64 l[j].kgn) ∧ (flatS l)[j * 6 + 3]? = some (.int .i64 l[j].tr) ∧ (flatS l)[j * 6 + 4]? = some (.int .i64 l[j].re) ∧ (flatS l)[j * 6 + 5]? = some (.int .i64 l[j].im)
  | x :: l, 0, _ => by simp [flatS]
  | x :: l, j + 1, h => by
    have ih := flatS_at l j (by simpa using h)
    have e : flatS (x :: l) = [.int .i64 x.st, .int .i64 x.kat, .int .i64 x.kgn, .int .i64 x.tr, .int .i64 x.re, .int .i64 x.im] ++ flatS l := by simp [flatS]
    have sh : ∀ k, (flatS (x :: l))[k + 6]? = (flatS l)[k]? := fun k => by rw [e, List.getElem?_append_right (by simp)]; simp
    rw [show (j + 1) * 6 = j * 6 + 6 by omega, show j * 6 + 6 + 1 = (j * 6 + 1) + 6 by omega, show j * 6 + 6 + 2 = (j * 6 + 2) + 6 by omega, show j * 6 + 6 + 3 = (j * 6 + 3) + 6 by omega, show j * 6 + 6 + 4 = (j * 6 + 4) + 6 by omega, show j * 6 + 6 + 5 = (j * 6 + 5) + 6 by omega, sh, sh, sh, sh, sh, sh]
    exact ih
theorem flatV_set : ∀ (l : List V) (k : Nat) (y : V), k < l.length → ((flatV l).set (k * 2) (.int .i64 y.1)).set (k * 2 + 1) (.int .i64 y.2) = flatV (l.set k y)
  | z :: l, 0, y, _ => rfl
  | z :: l, k + 1, y, h => by
    have ih := flatV_set l k y (by simpa using h)
    rw [List.set_cons_succ, show (k + 1) * 2 = k * 2 + 2 by omega]
    show .int .i64 z.1 :: .int .i64 z.2 :: ((flatV l).set (k * 2) _).set (k * 2 + 1) _ = .int .i64 z.1 :: .int .i64 z.2 :: flatV (l.set k y)
    rw [ih]
theorem flatS_set : ∀ (l : List Slt) (k : Nat) (y : Slt), k < l.length → ((((((flatS l).set (k * 6) (.int .i64 y.st)).set (k * 6 + 1) (.int .i64 y.kat)).set (k * 6 + 2) (.int .i64 y.kgn)).set (k * 6 + 3) (.int .i64 y.tr)).set (k * 6 + 4) (.int .i64 y.re)).set (k * 6 + 5) (.int .i64 y.im) = flatS (l.set k y)
  | z :: l, 0, y, _ => rfl
  | z :: l, k + 1, y, h => by
    have ih := flatS_set l k y (by simpa using h)
    rw [List.set_cons_succ, show (k + 1) * 6 = k * 6 + 6 by omega]
    show .int .i64 z.st :: .int .i64 z.kat :: .int .i64 z.kgn :: .int .i64 z.tr :: .int .i64 z.re :: .int .i64 z.im :: ((((((flatS l).set (k * 6) _).set (k * 6 + 1) _).set (k * 6 + 2) _).set (k * 6 + 3) _).set (k * 6 + 4) _).set (k * 6 + 5) _ = .int .i64 z.st :: .int .i64 z.kat :: .int .i64 z.kgn :: .int .i64 z.tr :: .int .i64 z.re :: .int .i64 z.im :: flatS (l.set k y)
    rw [ih]
/-- The call's own values, slots. -/
def OwnVs (w : World) (B : Nat) (v : Value) (l : List V) : Prop := w.ownsRow B 35 2 v l.length (flatV l)
def OwnSs (w : World) (B : Nat) (v : Value) (l : List Slt) : Prop := w.ownsRow B 121 6 v l.length (flatS l)
theorem OwnVs.nil (w : World) (B : Nat) : OwnVs w B (.slice none 0 0) [] := World.ownsRow_nil _ _ _ _
theorem OwnSs.nil (w : World) (B : Nat) : OwnSs w B (.slice none 0 0) [] := World.ownsRow_nil _ _ _ _
theorem OwnVs.lies {w : World} {B : Nat} {v : Value} {l : List V} (h : OwnVs w B v l) : ∃ A c, v = .slice A l.length c ∧ VAt w w.heap.size A l := by
  unfold OwnVs at h
  have hc := fun g hg => h.cells (g := g) hg
  have hlt := h.lt
  rcases h.2 with ⟨rfl, h0⟩ | ⟨g, cap, cur, rfl, _⟩
  · have e : l = [] := List.eq_nil_of_length_eq_zero h0
    subst e
    exact ⟨none, 0, rfl, VAt.nil _ _ _⟩
  · refine ⟨_, _, rfl, fun _ => ⟨g, 0, rfl, (hlt g rfl).2, fun j hj => ?_⟩⟩
    obtain ⟨e0, e1⟩ := flatV_at l j hj
    have k0 := hc g rfl _ _ e0
    have k1 := hc g rfl _ _ e1
    rw [p_add] at k0 k1
    exact ⟨k0, k1⟩
theorem OwnSs.lies {w : World} {B : Nat} {v : Value} {l : List Slt} (h : OwnSs w B v l) : ∃ A c, v = .slice A l.length c ∧ SAt w w.heap.size A l := by
  unfold OwnSs at h
  have hc := fun g hg => h.cells (g := g) hg
  have hlt := h.lt
  rcases h.2 with ⟨rfl, h0⟩ | ⟨g, cap, cur, rfl, _⟩
  · have e : l = [] := List.eq_nil_of_length_eq_zero h0
    subst e
    exact ⟨none, 0, rfl, SAt.nil _ _ _⟩
  · refine ⟨_, _, rfl, fun _ => ⟨g, 0, rfl, (hlt g rfl).2, fun j hj => ?_⟩⟩
    obtain ⟨e0, e1, e2, e3, e4, e5⟩ := flatS_at l j hj
    have k0 := hc g rfl _ _ e0
    have k1 := hc g rfl _ _ e1
    have k2 := hc g rfl _ _ e2
    have k3 := hc g rfl _ _ e3
    have k4 := hc g rfl _ _ e4
    have k5 := hc g rfl _ _ e5
    rw [p_add] at k0 k1 k2 k3 k4 k5
    exact ⟨k0, k1, k2, k3, k4, k5⟩
theorem OwnVs.len {w : World} {B n c : Nat} {A : Option Addr} {l : List V} (h : OwnVs w B (.slice A n c) l) : l.length = n := by
  rcases h.2 with ⟨e, h0⟩ | ⟨g, cap, cur, e, _⟩
  · simp at e; omega
  · simp at e; omega
theorem OwnSs.len {w : World} {B n c : Nat} {A : Option Addr} {l : List Slt} (h : OwnSs w B (.slice A n c) l) : l.length = n := by
  rcases h.2 with ⟨e, h0⟩ | ⟨g, cap, cur, e, _⟩
  · simp at e; omega
  · simp at e; omega
/-- Where the blocks of a row are as they were. -/
theorem row_same {w w' : World} {B n size : Nat} {e : TypeId} {v : Value} {xs : List Value} (h : w.ownsRow B e size v n xs) (hh : ∀ g, v.ownBlock = some g → w'.heap[g]? = w.heap[g]?) : w'.ownsRow B e size v n xs := by
  refine ⟨h.1, ?_⟩
  rcases h.2 with h' | ⟨g, cap, cur, rfl, hb, hg, r⟩
  · exact .inl h'
  · exact .inr ⟨g, cap, cur, rfl, hb, (hh g rfl).trans hg, r⟩
theorem row_mono {w : World} {B C n size : Nat} {e : TypeId} {v : Value} {xs : List Value} (h : w.ownsRow B e size v n xs) (hC : C ≤ B) : w.ownsRow C e size v n xs :=
  ⟨h.1, h.2.imp id fun ⟨g, cap, cur, e, hb, r⟩ => ⟨g, cap, cur, e, Nat.le_trans hC hb, r⟩⟩
theorem infoV : (Tryd.prog.info? 35).map (fun i => (i.zero, i.size, i.bytes)) = some (some (.agg #[.int .i64 0, .int .i64 0]), 2, 16) := by kernel_rfl
theorem infoS : (Tryd.prog.info? 121).map (fun i => (i.zero, i.size, i.bytes)) = some (some (.agg #[.int .i64 0, .int .i64 0, .int .i64 0, .int .i64 0, .int .i64 0, .int .i64 0]), 6, 48) := by kernel_rfl

/-- The cells of what is appended. -/
theorem newsV {w : World} {C b off : Nat} {k : List V} (hf : ∀ j (h : j < k.length), w.cell? ⟨b, off + j * 2, none⟩ = some (.int .i64 k[j].1) ∧ w.cell? ⟨b, off + j * 2 + 1, none⟩ = some (.int .i64 k[j].2)) :
    ∀ j u, (flatV k)[j]? = some u → w.cell? ((⟨b, off, none⟩ : Addr).add j) = some u := fun j u hj => by
  rw [p_add]
  have hjl : j < (flatV k).length := by
    rcases Nat.lt_or_ge j (flatV k).length with h | h
    · exact h
    · rw [List.getElem?_eq_none h] at hj; cases hj
  rw [flatV_len] at hjl
  have hd : j = j / 2 * 2 + j % 2 := by omega
  obtain ⟨e0, e1⟩ := flatV_at k (j / 2) (by omega)
  obtain ⟨c0, c1⟩ := hf (j / 2) (by omega)
  have hm : j % 2 = 0 ∨ j % 2 = 1 := by omega
  rcases hm with hm | hm
  · rw [hm, Nat.add_zero] at hd
    rw [hd] at hj ⊢
    rw [e0] at hj
    rw [c0, hj]
  · rw [hm] at hd
    rw [hd] at hj ⊢
    rw [e1] at hj
    rw [show off + (j / 2 * 2 + 1) = off + j / 2 * 2 + 1 by omega, c1, hj]
theorem newsS {w : World} {b off : Nat} {k : List Slt} (hf : ∀ j (h : j < k.length), w.cell? ⟨b, off + j * 6, none⟩ = some (.int .i64 k[j].st) ∧ w.cell? ⟨b, off + j * 6 + 1, none⟩ = some (.int .i64 k[j].kat) ∧ w.cell? ⟨b, off + j * 6 + 2, none⟩ = some (.int .i64 k[j].kgn) ∧
    w.cell? ⟨b, off + j * 6 + 3, none⟩ = some (.int .i64 k[j].tr) ∧ w.cell? ⟨b, off + j * 6 + 4, none⟩ = some (.int .i64 k[j].re) ∧ w.cell? ⟨b, off + j * 6 + 5, none⟩ = some (.int .i64 k[j].im)) :
    ∀ j u, (flatS k)[j]? = some u → w.cell? ((⟨b, off, none⟩ : Addr).add j) = some u := fun j u hj => by
  rw [p_add]
  have hjl : j < (flatS k).length := by
    rcases Nat.lt_or_ge j (flatS k).length with h | h
    · exact h
    · rw [List.getElem?_eq_none h] at hj; cases hj
  rw [flatS_len] at hjl
  have hd : j = j / 6 * 6 + j % 6 := by omega
  obtain ⟨e0, e1, e2, e3, e4, e5⟩ := flatS_at k (j / 6) (by omega)
  obtain ⟨c0, c1, c2, c3, c4, c5⟩ := hf (j / 6) (by omega)
  have hm : j % 6 = 0 ∨ j % 6 = 1 ∨ j % 6 = 2 ∨ j % 6 = 3 ∨ j % 6 = 4 ∨ j % 6 = 5 := by omega
  rcases hm with hm | hm | hm | hm | hm | hm
  · rw [hm, Nat.add_zero] at hd
    rw [hd] at hj ⊢
    rw [e0] at hj
    rw [c0, hj]
  · rw [hm] at hd
    rw [hd] at hj ⊢
    rw [e1] at hj
    rw [show off + (j / 6 * 6 + 1) = off + j / 6 * 6 + 1 by omega, c1, hj]
  · rw [hm] at hd
    rw [hd] at hj ⊢
    rw [e2] at hj
    rw [show off + (j / 6 * 6 + 2) = off + j / 6 * 6 + 2 by omega, c2, hj]
  · rw [hm] at hd
    rw [hd] at hj ⊢
    rw [e3] at hj
    rw [show off + (j / 6 * 6 + 3) = off + j / 6 * 6 + 3 by omega, c3, hj]
  · rw [hm] at hd
    rw [hd] at hj ⊢
    rw [e4] at hj
    rw [show off + (j / 6 * 6 + 4) = off + j / 6 * 6 + 4 by omega, c4, hj]
  · rw [hm] at hd
    rw [hd] at hj ⊢
    rw [e5] at hj
    rw [show off + (j / 6 * 6 + 5) = off + j / 6 * 6 + 5 by omega, c5, hj]
theorem oneV {k : List V} : ∀ u ∈ flatV k, u.oneCell' = true := fun u hu => by
  unfold flatV at hu
  obtain ⟨y, _, hy⟩ := List.mem_flatMap.1 hu
  simp at hy
  rcases hy with rfl | rfl <;> rfl
theorem oneS {k : List Slt} : ∀ u ∈ flatS k, u.oneCell' = true := fun u hu => by
  unfold flatS at hu
  obtain ⟨y, _, hy⟩ := List.mem_flatMap.1 hu
  simp at hy
  rcases hy with rfl | rfl | rfl | rfl | rfl | rfl <;> rfl

/-- Values appended. -/
theorem wpList_append_vs {w : World} {ops : Array Oper} {rest : List Oper} {o : Oper} {a : Act} {Q : Exit → Act → World → Prop}
    (hg : o.guard = none) (s x : Operand) (hop : o.op = Op.call { callee := Callee.builtin Builtin.append, args := #[s, x], argTypes := #[51, 51] })
    (B : Nat) (v : Value) (l : List V) (hs : a.eval s = v) (own : OwnVs w B v l) {A : Option Addr} {k : List V} {n c C : Nat} (hn : k.length = n) (hx : a.eval x = .slice A n c) (hc : VAt w C A k)
    (h1 : 1 ≤ n) (hlen : l.length + n ≤ 1000000) (hB : B ≤ w.heap.size)
    (h : ∀ v' w', OwnVs w' B v' (l ++ k) → w.grownBy w' v.ownBlock → (∀ b, v'.ownBlock = some b → v.ownBlock = some b ∨ w.heap.size ≤ b) → wpList Tryd.prog ops Q rest (a.put o.dst v') w') : wpList Tryd.prog ops Q (o :: rest) a w := by
  subst hn
  obtain ⟨b, off, rfl, hbC, hf⟩ := hc (by omega)
  obtain ⟨q, hi, hz0, hz1, hz2⟩ := info_parts infoV
  refine wpList_append_lies _ hg s x 51 hop B 35 q (.agg #[.int .i64 0, .int .i64 0]) 2 16 Tryd.underlying51 hi hz0 hz1 hz2 rfl (by decide) v l.length (flatV l) hs own ⟨b, off, none⟩ k.length c
    (flatV k) hx (flatV_len k) (newsV (C := C) hf) oneV (by omega) (by unfold maxLen; omega) (by omega) hB _ rfl ?_
  intro g cap w' k1 k2 k3 k4
  refine h _ w' ?_ k2 ?_
  · unfold OwnVs
    rw [List.length_append, flatV_append]
    exact k1
  · intro b hb
    simp only [Value.ownBlock, Option.some.injEq] at hb
    subst hb
    rcases k3 with k3 | k3
    · exact .inl k3
    · exact .inr (by omega)
theorem OwnVs.made (w : World) : OwnVs (w.alloc (.cells #[] 35)) w.heap.size (.slice (some ⟨w.heap.size, 0, none⟩) 0 0) [] :=
  World.ownsRow_made w #[] 0 (Nat.le_refl _) (by decide) rfl
theorem OwnSs.made (w : World) : OwnSs (w.alloc (.cells #[] 121)) w.heap.size (.slice (some ⟨w.heap.size, 0, none⟩) 0 0) [] :=
  World.ownsRow_made w #[] 0 (Nat.le_refl _) (by decide) rfl
theorem run_zeroV (w : World) (g c c2 : Nat) (A : Option Addr) (ty : TypeId) : (Builtin.append_ #[51, 51] ty #[.slice (some ⟨g, 0, none⟩) 0 c, .slice A 0 c2]).run Tryd.prog w = .ok (.slice (some ⟨g, 0, none⟩) 0 c) w := by
  obtain ⟨i, hi, hz0, hz1, hz2⟩ := info_parts infoV
  cases A <;> simp [Builtin.append_, run_underlying Tryd.underlying51, sizeOf, typeInfo, hi, storeCells, loadCellsFrom, Builtin.lenOf, Builtin.firstCells, loadCells]
theorem run_zeroS (w : World) (g c c2 : Nat) (A : Option Addr) (ty : TypeId) : (Builtin.append_ #[52, 52] ty #[.slice (some ⟨g, 0, none⟩) 0 c, .slice A 0 c2]).run Tryd.prog w = .ok (.slice (some ⟨g, 0, none⟩) 0 c) w := by
  obtain ⟨i, hi, hz0, hz1, hz2⟩ := info_parts infoS
  cases A <;> simp [Builtin.append_, run_underlying Tryd.underlying52, sizeOf, typeInfo, hi, storeCells, loadCellsFrom, Builtin.lenOf, Builtin.firstCells, loadCells]
/-- Values, slots appended to what was just made: be there any or none. -/
theorem wpList_append_vs0 {w : World} {ops : Array Oper} {rest : List Oper} {o : Oper} {a : Act} {Q : Exit → Act → World → Prop}
    (hg : o.guard = none) (s x : Operand) (hop : o.op = Op.call { callee := Callee.builtin Builtin.append, args := #[s, x], argTypes := #[51, 51] })
    (w0 : World) (hw : w = w0.alloc (.cells #[] 35)) (hs : a.eval s = .slice (some ⟨w0.heap.size, 0, none⟩) 0 0) {A : Option Addr} {k : List V} {c C : Nat} (hx : a.eval x = .slice A k.length c) (hc : VAt w C A k)
    (hlen : k.length ≤ 1000000)
    (h : ∀ v' w', OwnVs w' w0.heap.size v' k → Below w0.heap.size w0 w' → wpList Tryd.prog ops Q rest (a.put o.dst v') w') : wpList Tryd.prog ops Q (o :: rest) a w := by
  subst hw
  by_cases hk : k = []
  · subst hk
    refine wpList_plain hg fun K hK' => ?_
    have hr := fun ty => run_zeroV (w0.alloc (.cells #[] 35)) w0.heap.size 0 c A ty
    have hx2 : a.eval x = .slice A 0 c := hx
    unfold Oper.wp execOp
    simp only [hop, resolve, invoke, builtin, Sem.run_bind, Sem.run_pure, Result.andThen_ok, List.map_toArray, List.map_cons, List.map_nil, hs, hx2, hr]
    exact hK' _ _ (h _ _ (OwnVs.made w0) ((Below.refl _ _).alloc (Nat.le_refl _) _))
  · have h1 : 1 ≤ k.length := by
      cases k with
      | nil => exact absurd rfl hk
      | cons y ys => simp
    refine wpList_append_vs hg s x hop w0.heap.size _ [] hs (OwnVs.made w0) rfl hx hc h1 (by simpa using hlen) (by simp) fun v' w' k1 k2 k3 => ?_
    rw [List.nil_append] at k1
    exact h v' w' k1 (((Below.refl _ _).alloc (Nat.le_refl _) _).grown k2 (by simp) (by intro j hj; simp [Value.ownBlock] at hj; omega))
theorem wpList_append_ss0 {w : World} {ops : Array Oper} {rest : List Oper} {o : Oper} {a : Act} {Q : Exit → Act → World → Prop}
    (hg : o.guard = none) (s x : Operand) (hop : o.op = Op.call { callee := Callee.builtin Builtin.append, args := #[s, x], argTypes := #[52, 52] })
    (w0 : World) (hw : w = w0.alloc (.cells #[] 121)) (hs : a.eval s = .slice (some ⟨w0.heap.size, 0, none⟩) 0 0) {A : Option Addr} {k : List Slt} {c C : Nat} (hx : a.eval x = .slice A k.length c) (hc : SAt w C A k)
    (hlen : k.length ≤ 1000000)
    (h : ∀ v' w', OwnSs w' w0.heap.size v' k → Below w0.heap.size w0 w' → wpList Tryd.prog ops Q rest (a.put o.dst v') w') : wpList Tryd.prog ops Q (o :: rest) a w := by
  subst hw
  by_cases hk : k = []
  · subst hk
    refine wpList_plain hg fun K hK' => ?_
    have hr := fun ty => run_zeroS (w0.alloc (.cells #[] 121)) w0.heap.size 0 c A ty
    have hx2 : a.eval x = .slice A 0 c := hx
    unfold Oper.wp execOp
    simp only [hop, resolve, invoke, builtin, Sem.run_bind, Sem.run_pure, Result.andThen_ok, List.map_toArray, List.map_cons, List.map_nil, hs, hx2, hr]
    exact hK' _ _ (h _ _ (OwnSs.made w0) ((Below.refl _ _).alloc (Nat.le_refl _) _))
  · have h1 : 1 ≤ k.length := by
      cases k with
      | nil => exact absurd rfl hk
      | cons y ys => simp
    obtain ⟨b, off, rfl, hbC, hf⟩ := hc (by omega)
    obtain ⟨q, hi, hz0, hz1, hz2⟩ := info_parts infoS
    refine wpList_append_lies _ hg s x 52 hop w0.heap.size 121 q (.agg #[.int .i64 0, .int .i64 0, .int .i64 0, .int .i64 0, .int .i64 0, .int .i64 0]) 6 48 Tryd.underlying52 hi hz0 hz1 hz2 rfl (by decide) _ 0 (flatS []) hs (OwnSs.made w0) ⟨b, off, none⟩ k.length c
      (flatS k) hx (flatS_len k) (newsS hf) oneS (by omega) (by unfold maxLen; omega) (by omega) (by simp) _ rfl ?_
    intro g cap w' k1 k2 k3 k4
    refine h _ w' ?_ (((Below.refl _ _).alloc (Nat.le_refl _) _).grown k2 (by simp) (by intro j hj; simp [Value.ownBlock] at hj; omega))
    unfold OwnSs
    simpa [flatS] using k1
/-- A value, a slot stored in the call's own ones. -/
theorem OwnVs.set {w : World} {B g cap n : Nat} {l : List V} (h : OwnVs w B (.slice (some ⟨g, 0, none⟩) n cap) l) (k : Nat) (y : V) (hk : k < l.length) :
    OwnVs ((w.setCell ⟨g, k * 2, none⟩ (.int .i64 y.1)).setCell ⟨g, k * 2 + 1, none⟩ (.int .i64 y.2)) B (.slice (some ⟨g, 0, none⟩) n cap) (l.set k y) := by
  obtain rfl := h.len
  unfold OwnVs at *
  rw [List.length_set, ← flatV_set l k y hk]
  exact ((h.stored (k * 2) _).1.stored (k * 2 + 1) _).1
theorem OwnSs.set {w : World} {B g cap n : Nat} {l : List Slt} (h : OwnSs w B (.slice (some ⟨g, 0, none⟩) n cap) l) (k : Nat) (y : Slt) (hk : k < l.length) :
    OwnSs ((((((w.setCell ⟨g, k * 6, none⟩ (.int .i64 y.st)).setCell ⟨g, k * 6 + 1, none⟩ (.int .i64 y.kat)).setCell ⟨g, k * 6 + 2, none⟩ (.int .i64 y.kgn)).setCell ⟨g, k * 6 + 3, none⟩ (.int .i64 y.tr)).setCell ⟨g, k * 6 + 4, none⟩ (.int .i64 y.re)).setCell ⟨g, k * 6 + 5, none⟩ (.int .i64 y.im)) B (.slice (some ⟨g, 0, none⟩) n cap) (l.set k y) := by
  obtain rfl := h.len
  unfold OwnSs at *
  rw [List.length_set, ← flatS_set l k y hk]
  exact ((((((h.stored (k * 6) _).1.stored (k * 6 + 1) _).1.stored (k * 6 + 2) _).1.stored (k * 6 + 3) _).1.stored (k * 6 + 4) _).1.stored (k * 6 + 5) _).1

/-- A frame's value. -/
abbrev outv (t re im : Int) : Value := .agg #[.int .i64 t, .int .i64 re, .int .i64 im]
abbrev fv (f : Frm) (s l o : Value) : Value := .agg #[.int .i64 f.fn, .int .i64 f.pc, s, l, o, .int .i64 f.seed, .int .i64 f.spn, .int .i64 f.drw, .int .i64 f.st, .int .i64 f.wt, .int .i64 f.otr, .int .i64 f.ore, .int .i64 f.oim, .int .i64 f.uat, .int .i64 f.ugn, .int .i64 f.usl]
/-- A frame that can be read, below block B. -/
def FrmAt (w : World) (B : Nat) (v : Value) (f : Frm) : Prop := ∃ A1 c1 A2 c2 A3 c3, v = fv f (.slice A1 f.stk.length c1) (.slice A2 f.loc.length c2) (.slice A3 f.slt.length c3) ∧ VAt w B A1 f.stk ∧ VAt w B A2 f.loc ∧ SAt w B A3 f.slt
theorem FrmAt.below {w w' : World} {B C : Nat} {v : Value} {f : Frm} (h : FrmAt w B v f) (hb : Below C w w') (hC : B ≤ C) : FrmAt w' B v f := by
  obtain ⟨A1, c1, A2, c2, A3, c3, e, h1, h2, h3⟩ := h
  exact ⟨A1, c1, A2, c2, A3, c3, e, h1.below hb hC, h2.below hb hC, h3.below hb hC⟩
theorem FrmAt.more {w : World} {B C : Nat} {v : Value} {f : Frm} (h : FrmAt w B v f) (hC : B ≤ C) : FrmAt w C v f := by
  obtain ⟨A1, c1, A2, c2, A3, c3, e, h1, h2, h3⟩ := h
  exact ⟨A1, c1, A2, c2, A3, c3, e, h1.more hC, h2.more hC, h3.more hC⟩
/-- A frame of the call's own. -/
def OwnF (w : World) (B : Nat) (v : Value) (f : Frm) : Prop := ∃ s l o, v = fv f s l o ∧ OwnVs w B s f.stk ∧ OwnVs w B l f.loc ∧ OwnSs w B o f.slt
theorem OwnF.at {w : World} {B : Nat} {v : Value} {f : Frm} (h : OwnF w B v f) : FrmAt w w.heap.size v f := by
  obtain ⟨s, l, o, rfl, h1, h2, h3⟩ := h
  obtain ⟨A1, c1, rfl, k1⟩ := h1.lies
  obtain ⟨A2, c2, rfl, k2⟩ := h2.lies
  obtain ⟨A3, c3, rfl, k3⟩ := h3.lies
  exact ⟨A1, c1, A2, c2, A3, c3, rfl, k1, k2, k3⟩
abbrev sv (x : Slt) : Value := .agg #[.int .i64 x.st, .int .i64 x.kat, .int .i64 x.kgn, .int .i64 x.tr, .int .i64 x.re, .int .i64 x.im]
theorem OwnF.mono {w : World} {B C : Nat} {v : Value} {F : Frm} (h : OwnF w B v F) (hC : C ≤ B) : OwnF w C v F := by
  obtain ⟨s, l, o, e, h1, h2, h3⟩ := h
  exact ⟨s, l, o, e, row_mono h1 hC, row_mono h2 hC, row_mono h3 hC⟩
theorem OwnF.below {w w' : World} {B : Nat} {v : Value} {F : Frm} (h : OwnF w B v F) (hb : Below w.heap.size w w') : OwnF w' B v F := by
  obtain ⟨s, l, o, e, h1, h2, h3⟩ := h
  exact ⟨s, l, o, e, r_later h1 hb, r_later h2 hb, r_later h3 hb⟩
end Go.Proofs.YtjibkgildfjjoaaDoor

/- Frames in memory: lists cloned, a frame's cells. -/
namespace Go.Proofs.YtjibkgildfjjoaaDoor
set_option linter.unusedVariables false
set_option linter.unusedSimpArgs false
open Go.RowKit Go.ChangeShapes Go.WideShapes Go.ChangeAt Go.Sort

set_option maxHeartbeats 1000000 in
set_option maxRecDepth 100000 in
theorem clonev_any {A : Option Addr} {l : List V} {B : Nat} (c : Nat) (w : World) (h : VAt w B A l) (hl : l.length ≤ 1000000) (hB : B ≤ w.heap.size) :
    Calls Tryd.prog 77 #[.slice A l.length c] w fun e w' => ∃ v, e = .returned v ∧ OwnVs w' w.heap.size v l ∧ Below w.heap.size w w' := by
  have q : ∀ (w : World) (a : Option Addr) (n c n' c' : Nat), (binOp .eql 51 (.slice a n c) (.slice none n' c')).run Tryd.prog w = .ok (.bool a.isNone) w := fun w a n c n' c' => Lib.run_eql_slice_nil w _ _ a n c n' c' Tryd.underlying51
  have HA := Lib.hid h
  have hl2 := Lib.hid hl
  clear h hl
  by_cases hA : A = none
  · subst hA
    have e : l = [] := by
      by_cases h0 : 0 < l.length
      · obtain ⟨b, off, e, _⟩ := HA.out h0
        cases e
      · exact List.eq_nil_of_length_eq_zero (by omega)
    subst e
    go_enter Tryd.func77, Tryd.ntmps77
    go_wp2
    go_ret
    exact ⟨_, rfl, OwnVs.nil _ _, Below.refl _ _⟩
  · obtain ⟨a, rfl⟩ := Option.ne_none_iff_exists'.1 hA
    clear hA
    have HB := Lib.hid hB
    generalize hn : l.length = n at *
    have HN := Lib.hid hn
    clear hn hB
    go_enter Tryd.func77, Tryd.ntmps77
    go_wp2_with (at_builtin; refine wpList_append_vs0 rfl _ _ rfl w rfl rfl (A := some a) (k := l) (c := c) (C := B) (by rw [HN.out]; rfl) (HA.out.below ((Below.refl w.heap.size w).alloc (Nat.le_refl _) _) HB.out) (by rw [HN.out]; exact hl2.out) ?_; intro v u ho hb)
    go_ret
    exact ⟨v, rfl, ho, hb⟩
set_option maxHeartbeats 1000000 in
set_option maxRecDepth 100000 in
theorem clones_any {A : Option Addr} {l : List Slt} {B : Nat} (c : Nat) (w : World) (h : SAt w B A l) (hl : l.length ≤ 1000000) (hB : B ≤ w.heap.size) :
    Calls Tryd.prog 78 #[.slice A l.length c] w fun e w' => ∃ v, e = .returned v ∧ OwnSs w' w.heap.size v l ∧ Below w.heap.size w w' := by
  have q : ∀ (w : World) (a : Option Addr) (n c n' c' : Nat), (binOp .eql 52 (.slice a n c) (.slice none n' c')).run Tryd.prog w = .ok (.bool a.isNone) w := fun w a n c n' c' => Lib.run_eql_slice_nil w _ _ a n c n' c' Tryd.underlying52
  have HA := Lib.hid h
  have hl2 := Lib.hid hl
  clear h hl
  by_cases hA : A = none
  · subst hA
    have e : l = [] := by
      by_cases h0 : 0 < l.length
      · obtain ⟨b, off, e, _⟩ := HA.out h0
        cases e
      · exact List.eq_nil_of_length_eq_zero (by omega)
    subst e
    go_enter Tryd.func78, Tryd.ntmps78
    go_wp2
    go_ret
    exact ⟨_, rfl, OwnSs.nil _ _, Below.refl _ _⟩
  · obtain ⟨a, rfl⟩ := Option.ne_none_iff_exists'.1 hA
    clear hA
    have HB := Lib.hid hB
    generalize hn : l.length = n at *
    have HN := Lib.hid hn
    clear hn hB
    go_enter Tryd.func78, Tryd.ntmps78
    go_wp2_with (at_builtin; refine wpList_append_ss0 rfl _ _ rfl w rfl rfl (A := some a) (k := l) (c := c) (C := B) (by rw [HN.out]; rfl) (HA.out.below ((Below.refl w.heap.size w).alloc (Nat.le_refl _) _) HB.out) (by rw [HN.out]; exact hl2.out) ?_; intro v u ho hb)
    go_ret
    exact ⟨v, rfl, ho, hb⟩
/-- A frame's cells. -/
abbrev fcA (f : Frm) (s l o : Value) : Array Value := #[.int .i64 f.fn, .int .i64 f.pc, s, l, o, .int .i64 f.seed, .int .i64 f.spn, .int .i64 f.drw, .int .i64 f.st, .int .i64 f.wt, .int .i64 f.otr, .int .i64 f.ore, .int .i64 f.oim, .int .i64 f.uat, .int .i64 f.ugn, .int .i64 f.usl]
abbrev fz0 : Array Value := #[.int .i64 0, .int .i64 0, .slice none 0 0, .slice none 0 0, .slice none 0 0, .int .i64 0, .int .i64 0, .int .i64 0, .int .i64 0, .int .i64 0, .int .i64 0, .int .i64 0, .int .i64 0, .int .i64 0, .int .i64 0, .int .i64 0]
theorem setRow_far (w : World) (g : Nat) (cs : Array Value) (k : Nat) (hk : k ≠ g) : (w.setRow g cs).heap[k]? = w.heap[k]? := by
  simp [World.setRow, Array.getElem?_modify, Ne.symm hk]
/-- The copies are made. -/
def MidC (w : World) (f : Frm) (W : World) : Prop := ∃ A1 c1 A2 c2 A3 c3, Held W w.heap.size 54 (fcA f (.slice A1 f.stk.length c1) (.slice A2 f.loc.length c2) (.slice A3 f.slt.length c3)) ∧ Held W (w.heap.size + 1) 54 fz0 ∧
  OwnVs W (w.heap.size + 2) (.slice A1 f.stk.length c1) f.stk ∧ OwnVs W (w.heap.size + 2) (.slice A2 f.loc.length c2) f.loc ∧ OwnSs W (w.heap.size + 2) (.slice A3 f.slt.length c3) f.slt ∧
  (∀ b, Value.ownBlock (.slice A1 f.stk.length c1) = some b → Value.ownBlock (.slice A2 f.loc.length c2) ≠ some b) ∧ (∀ b, Value.ownBlock (.slice A1 f.stk.length c1) = some b → Value.ownBlock (.slice A3 f.slt.length c3) ≠ some b) ∧ (∀ b, Value.ownBlock (.slice A2 f.loc.length c2) = some b → Value.ownBlock (.slice A3 f.slt.length c3) ≠ some b) ∧
  Below w.heap.size w W
theorem mid_of {w : World} {f : Frm} {s l o : Value} {A1 : Option Addr} {c1 : Nat} {A2 : Option Addr} {c2 : Nat} {A3 : Option Addr} {c3 : Nat} {u1 u2 u3 : World} (hw1 : w.heap.size + 2 ≤ u1.heap.size)
    (hx3 : Held u3 w.heap.size 54 (fcA f s l o)) (hr3 : Held u3 (w.heap.size + 1) 54 fz0) (hb2 : Below u1.heap.size u1 u2) (hb3 : Below u2.heap.size u2 u3) {B0 : Nat} (hB0 : w.heap.size + 2 ≤ B0)
    (h1 : OwnVs u1 B0 (.slice A1 f.stk.length c1) f.stk) (h2 : OwnVs u2 u1.heap.size (.slice A2 f.loc.length c2) f.loc) (h3 : OwnSs u3 u2.heap.size (.slice A3 f.slt.length c3) f.slt) (hb : Below w.heap.size w u3) :
    MidC w f (((u3.setCell ⟨w.heap.size, 2, none⟩ (.slice A1 f.stk.length c1)).setCell ⟨w.heap.size, 3, none⟩ (.slice A2 f.loc.length c2)).setCell ⟨w.heap.size, 4, none⟩ (.slice A3 f.slt.length c3)) := by
  have hx : ∀ k', k' ≠ w.heap.size → (((u3.setCell ⟨w.heap.size, 2, none⟩ (.slice A1 f.stk.length c1)).setCell ⟨w.heap.size, 3, none⟩ (.slice A2 f.loc.length c2)).setCell ⟨w.heap.size, 4, none⟩ (.slice A3 f.slt.length c3)).heap[k']? = u3.heap[k']? := fun k' hk' =>
    (Below.heap_setCell _ ⟨w.heap.size, _, none⟩ _ k' hk').trans ((Below.heap_setCell _ ⟨w.heap.size, _, none⟩ _ k' hk').trans (Below.heap_setCell _ ⟨w.heap.size, _, none⟩ _ k' hk'))
  have l1 := h1.lt
  have l2 := h2.lt
  have l3 := h3.lt
  have hs2 := hb2.size
  have hs3 := hb3.size
  refine ⟨A1, c1, A2, c2, A3, c3, ((hx3.set_at 2 _).set_at 3 _).set_at 4 _, (hx _ (by omega)).trans hr3, ?_, ?_, ?_, ?_, ?_, ?_, ?_⟩
  · refine row_mono (row_same h1 fun g e => ?_) (show w.heap.size + 2 ≤ B0 by omega)
    have := l1 g e
    exact (hx g (by omega)).trans ((hb3.block g (by omega)).trans (hb2.block g (by omega)))
  · refine row_mono (row_same h2 fun g e => ?_) (show w.heap.size + 2 ≤ u1.heap.size by omega)
    have := l2 g e
    exact (hx g (by omega)).trans (hb3.block g (by omega))
  · refine row_mono (row_same h3 fun g e => ?_) (show w.heap.size + 2 ≤ u2.heap.size by omega)
    have := l3 g e
    exact hx g (by omega)
  · intro b e e2
    have := l1 b e
    have := l2 b e2
    omega
  · intro b e e2
    have := l1 b e
    have := l3 b e2
    omega
  · intro b e e2
    have := l2 b e
    have := l3 b e2
    omega
  · exact ((hb.setCell (p := ⟨w.heap.size, 2, none⟩) (Nat.le_refl _) _).setCell (p := ⟨w.heap.size, 3, none⟩) (Nat.le_refl _) _).setCell (p := ⟨w.heap.size, 4, none⟩) (Nat.le_refl _) _
end Go.Proofs.YtjibkgildfjjoaaDoor

