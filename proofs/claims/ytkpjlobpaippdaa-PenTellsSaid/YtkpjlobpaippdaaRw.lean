/- Lists of pairs of ints in memory (refs, values), read and of one's own, whatever their type. -/
import Derived.Test.YtkpjlobpaippdaaRows
import Derived.Test.YtkpjlobpaippdaaGw
import Derived.Test.YtkpjlobpaippdaaNp
import Derived.Deep.AppendLies
import Derived.Laws.OwnMore
import Derived.Great.BuildSlice
import Derived.Laws.CopyOwn
namespace Go.Proofs.Ytkpjlobpaippdaa
set_option linter.unusedVariables false
set_option linter.unusedSimpArgs false
open Go.RowKit Go.ChangeShapes Go.WideShapes Go.ChangeAt Go.Sort

abbrev P2 := Int × Int
theorem p_add (b off n : Nat) : (⟨b, off, none⟩ : Addr).add n = ⟨b, off + n, none⟩ := by unfold Addr.add; split <;> simp [*]
/-- The slice at A holds these pairs, below block B. -/
def PAt (w : World) (B : Nat) (A : Option Addr) (l : List P2) : Prop :=
  0 < l.length → ∃ b off, A = some ⟨b, off, none⟩ ∧ b < B ∧ ∀ j (h : j < l.length), w.cell? ⟨b, off + j * 2, none⟩ = some (.int .i64 l[j].1) ∧ w.cell? ⟨b, off + j * 2 + 1, none⟩ = some (.int .i64 l[j].2)
def flatP (l : List P2) : List Value := l.flatMap fun x => [.int .i64 x.1, .int .i64 x.2]
theorem PAt.nil (w : World) (B : Nat) (A : Option Addr) : PAt w B A [] := fun h => absurd h (by simp)
theorem PAt.below {w w' : World} {B : Nat} {A : Option Addr} {l : List P2} (h : PAt w B A l) {C : Nat} (hb : Below C w w') (hC : B ≤ C) : PAt w' B A l := fun h0 => by
  obtain ⟨b, off, e, hlt, hc⟩ := h h0
  refine ⟨b, off, e, hlt, fun j hj => ⟨?_, ?_⟩⟩
  · exact (hb.cell (p := ⟨b, off + j * 2, none⟩) (by show b < C; omega)).trans (hc j hj).1
  · exact (hb.cell (p := ⟨b, off + j * 2 + 1, none⟩) (by show b < C; omega)).trans (hc j hj).2
theorem PAt.more {w : World} {B C : Nat} {A : Option Addr} {l : List P2} (h : PAt w B A l) (hC : B ≤ C) : PAt w C A l := fun h0 => by
  obtain ⟨b, off, e, hlt, hc⟩ := h h0
  exact ⟨b, off, e, by omega, hc⟩
theorem flatP_len : ∀ l, (flatP l).length = l.length * 2
  | [] => rfl
  | x :: l => by
    have := flatP_len l
    unfold flatP at *
    simp only [List.flatMap_cons, List.length_append, List.length_cons, List.length_nil]
    omega
theorem flatP_append (l k : List P2) : flatP (l ++ k) = flatP l ++ flatP k := by simp [flatP]
theorem flatP_at : ∀ (l : List P2) (j : Nat) (h : j < l.length), (flatP l)[j * 2]? = some (.int .i64 l[j].1) ∧ (flatP l)[j * 2 + 1]? = some (.int .i64 l[j].2)
  | x :: l, 0, _ => by simp [flatP]
  | x :: l, j + 1, h => by
    have ih := flatP_at l j (by simpa using h)
    have e : flatP (x :: l) = [.int .i64 x.1, .int .i64 x.2] ++ flatP l := by simp [flatP]
    have sh : ∀ k, (flatP (x :: l))[k + 2]? = (flatP l)[k]? := fun k => by rw [e, List.getElem?_append_right (by simp)]; simp
    rw [show (j + 1) * 2 = j * 2 + 2 by omega, show j * 2 + 2 + 1 = (j * 2 + 1) + 2 by omega, sh, sh]
    exact ih
theorem flatP_set : ∀ (l : List P2) (k : Nat) (y : P2), k < l.length → ((flatP l).set (k * 2) (.int .i64 y.1)).set (k * 2 + 1) (.int .i64 y.2) = flatP (l.set k y)
  | z :: l, 0, y, _ => rfl
  | z :: l, k + 1, y, h => by
    have ih := flatP_set l k y (by simpa using h)
    rw [List.set_cons_succ, show (k + 1) * 2 = k * 2 + 2 by omega]
    show .int .i64 z.1 :: .int .i64 z.2 :: ((flatP l).set (k * 2) _).set (k * 2 + 1) _ = .int .i64 z.1 :: .int .i64 z.2 :: flatP (l.set k y)
    rw [ih]
theorem newsP {w : World} {C b off : Nat} {k : List P2} (hf : ∀ j (h : j < k.length), w.cell? ⟨b, off + j * 2, none⟩ = some (.int .i64 k[j].1) ∧ w.cell? ⟨b, off + j * 2 + 1, none⟩ = some (.int .i64 k[j].2)) :
    ∀ j u, (flatP k)[j]? = some u → w.cell? ((⟨b, off, none⟩ : Addr).add j) = some u := fun j u hj => by
  rw [p_add]
  have hjl : j < (flatP k).length := by
    rcases Nat.lt_or_ge j (flatP k).length with h | h
    · exact h
    · rw [List.getElem?_eq_none h] at hj; cases hj
  rw [flatP_len] at hjl
  have hd : j = j / 2 * 2 + j % 2 := by omega
  obtain ⟨e0, e1⟩ := flatP_at k (j / 2) (by omega)
  obtain ⟨c0, c1⟩ := hf (j / 2) (by omega)
  have hm : j % 2 = 0 ∨ j % 2 = 1 := by omega
  rcases hm with hm | hm
  · rw [hm, Nat.add_zero] at hd
    rw [hd] at hj ⊢
    rw [e0] at hj
    rw [c0, hj]
  · rw [hm] at hd
    rw [hd] at hj ⊢
    rw [e1] at hj
    rw [show off + (j / 2 * 2 + 1) = off + j / 2 * 2 + 1 by omega, c1, hj]
theorem oneP {k : List P2} : ∀ u ∈ flatP k, u.oneCell' = true := fun u hu => by
  unfold flatP at hu
  obtain ⟨y, _, hy⟩ := List.mem_flatMap.1 hu
  simp at hy
  rcases hy with rfl | rfl <;> rfl
/-- The call's own pairs. -/
def Own2 (t : TypeId) (w : World) (B : Nat) (v : Value) (l : List P2) : Prop := w.ownsRow B t 2 v l.length (flatP l)
theorem Own2.nil (t : TypeId) (w : World) (B : Nat) : Own2 t w B (.slice none 0 0) [] := World.ownsRow_nil _ _ _ _
theorem Own2.made (t : TypeId) (w : World) : Own2 t (w.alloc (.cells #[] t)) w.heap.size (.slice (some ⟨w.heap.size, 0, none⟩) 0 0) [] := World.ownsRow_made w #[] 0 (Nat.le_refl _) (by decide) rfl
theorem Own2.lies {t : TypeId} {w : World} {B : Nat} {v : Value} {l : List P2} (h : Own2 t w B v l) : ∃ A c, v = .slice A l.length c ∧ PAt w w.heap.size A l := by
  unfold Own2 at h
  have hc := fun g hg => h.cells (g := g) hg
  have hlt := h.lt
  rcases h.2 with ⟨rfl, h0⟩ | ⟨g, cap, cur, rfl, _⟩
  · have e : l = [] := List.eq_nil_of_length_eq_zero h0
    subst e
    exact ⟨none, 0, rfl, PAt.nil _ _ _⟩
  · refine ⟨_, _, rfl, fun _ => ⟨g, 0, rfl, (hlt g rfl).2, fun j hj => ?_⟩⟩
    obtain ⟨e0, e1⟩ := flatP_at l j hj
    have k0 := hc g rfl _ _ e0
    have k1 := hc g rfl _ _ e1
    rw [p_add] at k0 k1
    exact ⟨k0, k1⟩
theorem Own2.len {t : TypeId} {w : World} {B n c : Nat} {A : Option Addr} {l : List P2} (h : Own2 t w B (.slice A n c) l) : l.length = n := by
  rcases h.2 with ⟨e, h0⟩ | ⟨g, cap, cur, e, _⟩
  · simp at e; omega
  · simp at e; omega
theorem Own2.set {t : TypeId} {w : World} {B g cap n : Nat} {l : List P2} (h : Own2 t w B (.slice (some ⟨g, 0, none⟩) n cap) l) (k : Nat) (y : P2) (hk : k < l.length) :
    Own2 t ((w.setCell ⟨g, k * 2, none⟩ (.int .i64 y.1)).setCell ⟨g, k * 2 + 1, none⟩ (.int .i64 y.2)) B (.slice (some ⟨g, 0, none⟩) n cap) (l.set k y) := by
  obtain rfl := h.len
  unfold Own2 at *
  rw [List.length_set, ← flatP_set l k y hk]
  exact ((h.stored (k * 2) _).1.stored (k * 2 + 1) _).1
/-- Rows where their blocks are as they were. -/
theorem r_same {w w' : World} {B n size : Nat} {e : TypeId} {v : Value} {xs : List Value} (h : w.ownsRow B e size v n xs) (hh : ∀ g, v.ownBlock = some g → w'.heap[g]? = w.heap[g]?) : w'.ownsRow B e size v n xs := by
  refine ⟨h.1, ?_⟩
  rcases h.2 with h' | ⟨g, cap, cur, rfl, hb, hg, r⟩
  · exact .inl h'
  · exact .inr ⟨g, cap, cur, rfl, hb, (hh g rfl).trans hg, r⟩
theorem r_mono {w : World} {B C n size : Nat} {e : TypeId} {v : Value} {xs : List Value} (h : w.ownsRow B e size v n xs) (hC : C ≤ B) : w.ownsRow C e size v n xs :=
  ⟨h.1, h.2.imp id fun ⟨g, cap, cur, e, hb, r⟩ => ⟨g, cap, cur, e, Nat.le_trans hC hb, r⟩⟩
theorem r_later {u u' : World} {B n size : Nat} {e : TypeId} {v : Value} {xs : List Value} (h : u.ownsRow B e size v n xs) (hb : Below u.heap.size u u') : u'.ownsRow B e size v n xs :=
  r_same h fun g hgv => hb.block g (h.lt g hgv).2
theorem r_apart {w : World} {B n size k : Nat} {e t : TypeId} {v : Value} {xs : List Value} {cs : Array Value} (h : w.ownsRow B e size v n xs) (hk : Held w k t cs) (ht : t ≠ e) : ∀ g, v.ownBlock = some g → g ≠ k := by
  rintro g hg rfl
  rcases h.2 with ⟨rfl, _⟩ | ⟨g', cap, cur, rfl, _, hh, _⟩
  · simp [Value.ownBlock] at hg
  · simp only [Value.ownBlock, Option.some.injEq] at hg
    subst hg
    rw [Held] at hk
    rw [hk] at hh
    simp at hh
    exact ht hh.2
theorem r_form {w : World} {B size n : Nat} {e : TypeId} {v : Value} {xs : List Value} (h : w.ownsRow B e size v n xs) (h0 : 0 < n) : ∃ g c, v = .slice (some ⟨g, 0, none⟩) n c := by
  rcases h.2 with ⟨_, e0⟩ | ⟨g, cap, cur, e, _⟩
  · omega
  · exact ⟨g, cap, e⟩
theorem r_fz {w : World} {B size n c g : Nat} {e : TypeId} {xs : List Value} (h : w.ownsRow B e size (.slice (some ⟨g, 0, none⟩) n c) n xs) (i : Nat) : w.frozen? ⟨g, i, none⟩ = false := by
  rcases h.2 with ⟨e0, _⟩ | ⟨g', cap, cur, e, _, hg, _⟩
  · simp at e0
  · simp only [Value.slice.injEq, Option.some.injEq, Addr.mk.injEq, and_true, true_and] at e
    obtain ⟨rfl, rfl⟩ := e
    exact fz_at hg i
theorem own2_cells {t : TypeId} {w : World} {B n c g : Nat} {l : List P2} (h : Own2 t w B (.slice (some ⟨g, 0, none⟩) n c) l) {k : Nat} (hk : k < l.length) :
    w.cell? ⟨g, k * 2, none⟩ = some (.int .i64 l[k].1) ∧ w.cell? ⟨g, k * 2 + 1, none⟩ = some (.int .i64 l[k].2) ∧ w.frozen? ⟨g, k * 2, none⟩ = false ∧ w.frozen? ⟨g, k * 2 + 1, none⟩ = false := by
  obtain rfl := h.len
  obtain ⟨e0, e1⟩ := flatP_at l k hk
  exact ⟨(h.cellAt (k * 2) (by omega)).trans e0, (h.cellAt (k * 2 + 1) (by omega)).trans e1, r_fz h _, r_fz h _⟩
theorem own2_at {t : TypeId} {w : World} {B n c : Nat} {A : Option Addr} {l : List P2} (h : Own2 t w B (.slice A n c) l) : PAt w w.heap.size A l := by
  obtain ⟨A9, c9, e9, hv9⟩ := h.lies
  simp only [Value.slice.injEq] at e9
  obtain ⟨rfl, _, rfl⟩ := e9
  exact hv9
theorem own2_held {t : TypeId} {w : World} {B g : Nat} {l : List P2} (h : Held w g t (flatP l).toArray) (hB : B ≤ g) (hl : l.length ≤ 1000000) : Own2 t w B (.slice (some ⟨g, 0, none⟩) l.length l.length) l := by
  refine ⟨flatP_len l, .inr ⟨g, l.length, (flatP l).toArray, rfl, hB, h, Nat.le_refl _, by unfold maxLen; omega, ?_, ?_⟩⟩
  · simp [flatP_len]
  · rw [← flatP_len l]
    simp
theorem row_far0 (w : World) (g : Nat) (cs : Array Value) (k : Nat) (hk : k ≠ g) : (w.setRow g cs).heap[k]? = w.heap[k]? := by
  simp [World.setRow, Array.getElem?_modify, Ne.symm hk]
theorem held_row {W : World} {g k : Nat} {t : TypeId} {cs : Array Value} (h : Held W g t cs) (hk : g ≠ k) (cs' : Array Value) : Held (W.setRow k cs') g t cs := (row_far0 W k cs' g hk).trans h
theorem held_rowSelf {W : World} {g : Nat} {t : TypeId} {cs : Array Value} (h : Held W g t cs) (cs' : Array Value) : Held (W.setRow g cs') g t cs' := setRow_heap W g cs cs' t (0, 0) h
theorem held_grown {w w' : World} {g : Nat} {t : TypeId} {cs : Array Value} {row : Option Nat} (h : Held w g t cs) (hg : w.grownBy w' row) (hr : row ≠ some g) : Held w' g t cs := (hg.block g h.lt (Ne.symm hr)).trans h
/-- One pair, in a block of its own. -/
theorem one2_at {t : TypeId} {w : World} (x y : Int) : PAt (w.alloc (.cells #[.int .i64 x, .int .i64 y] t)) (w.alloc (.cells #[.int .i64 x, .int .i64 y] t)).heap.size (some ⟨w.heap.size, 0, none⟩) [(x, y)] := fun _ => by
  have h := Held.new w t #[.int .i64 x, .int .i64 y]
  refine ⟨_, _, rfl, h.lt, fun j hj => ?_⟩
  obtain rfl : j = 0 := by simpa using hj
  exact ⟨h.cell 0, h.cell 1⟩
/-- Refs appended. -/
theorem infoR : (Try.prog.info? 27).map (fun i => (i.zero, i.size, i.bytes)) = some (some (.agg #[.int .i64 0, .int .i64 0]), 2, 16) := by kernel_rfl
abbrev OwnR (w : World) (B : Nat) (v : Value) (l : List P2) : Prop := Own2 27 w B v l
theorem wpList_append_rs {w : World} {ops : Array Oper} {rest : List Oper} {o : Oper} {a : Act} {Q : Exit → Act → World → Prop}
    (hg : o.guard = none) (s x : Operand) (hop : o.op = Op.call { callee := Callee.builtin Builtin.append, args := #[s, x], argTypes := #[52, 52] })
    (B : Nat) (v : Value) (l : List P2) (hs : a.eval s = v) (own : OwnR w B v l) {A : Option Addr} {k : List P2} {n c C : Nat} (hn : k.length = n) (hx : a.eval x = .slice A n c) (hc : PAt w C A k)
    (h1 : 1 ≤ n) (hlen : l.length + n ≤ 1000000) (hB : B ≤ w.heap.size)
    (h : ∀ v' w', OwnR w' B v' (l ++ k) → w.grownBy w' v.ownBlock → (∀ b, v'.ownBlock = some b → v.ownBlock = some b ∨ w.heap.size ≤ b) → wpList Try.prog ops Q rest (a.put o.dst v') w') : wpList Try.prog ops Q (o :: rest) a w := by
  subst hn
  obtain ⟨b, off, rfl, hbC, hf⟩ := hc (by omega)
  obtain ⟨q, hi, hz0, hz1, hz2⟩ := info_parts infoR
  refine wpList_append_lies _ hg s x 52 hop B 27 q (.agg #[.int .i64 0, .int .i64 0]) 2 16 Try.underlying52 hi hz0 hz1 hz2 rfl (by decide) v l.length (flatP l) hs own ⟨b, off, none⟩ k.length c
    (flatP k) hx (flatP_len k) (newsP (C := C) hf) oneP (by omega) (by unfold maxLen; omega) (by omega) hB _ rfl ?_
  intro g cap w' k1 k2 k3 k4
  refine h _ w' ?_ k2 ?_
  · unfold OwnR Own2
    rw [List.length_append, flatP_append]
    exact k1
  · intro b hb
    simp only [Value.ownBlock, Option.some.injEq] at hb
    subst hb
    rcases k3 with k3 | k3
    · exact .inl k3
    · exact .inr (by omega)
theorem run_zeroR (w : World) (g c c2 : Nat) (A : Option Addr) (ty : TypeId) : (Builtin.append_ #[52, 52] ty #[.slice (some ⟨g, 0, none⟩) 0 c, .slice A 0 c2]).run Try.prog w = .ok (.slice (some ⟨g, 0, none⟩) 0 c) w := by
  obtain ⟨i, hi, hz0, hz1, hz2⟩ := info_parts infoR
  cases A <;> simp [Builtin.append_, run_underlying Try.underlying52, sizeOf, typeInfo, hi, storeCells, loadCellsFrom, Builtin.lenOf, Builtin.firstCells, loadCells]
/-- Appended to a list that was made, be there any or none. -/
theorem wpList_append_rs0 {w : World} {ops : Array Oper} {rest : List Oper} {o : Oper} {a : Act} {Q : Exit → Act → World → Prop}
    (hg : o.guard = none) (s x : Operand) (hop : o.op = Op.call { callee := Callee.builtin Builtin.append, args := #[s, x], argTypes := #[52, 52] })
    (w0 : World) (hw : w = w0.alloc (.cells #[] 27)) (hs : a.eval s = .slice (some ⟨w0.heap.size, 0, none⟩) 0 0) {A : Option Addr} {k : List P2} {n c C : Nat} (hn : k.length = n) (hx : a.eval x = .slice A n c) (hc : PAt w C A k)
    (hlen : n ≤ 1000000)
    (h : ∀ A' c' w', OwnR w' w0.heap.size (.slice A' n c') k → Below w0.heap.size w0 w' → wpList Try.prog ops Q rest (a.put o.dst (.slice A' n c')) w') : wpList Try.prog ops Q (o :: rest) a w := by
  subst hn
  subst hw
  by_cases hk : k = []
  · subst hk
    refine wpList_plain hg fun K hK' => ?_
    have hr := fun ty => run_zeroR (w0.alloc (.cells #[] 27)) w0.heap.size 0 c A ty
    have hx2 : a.eval x = .slice A 0 c := hx
    unfold Oper.wp execOp
    simp only [hop, resolve, invoke, builtin, Sem.run_bind, Sem.run_pure, Result.andThen_ok, List.map_toArray, List.map_cons, List.map_nil, hs, hx2, hr]
    exact hK' _ _ (h _ _ _ (Own2.made 27 w0) ((Below.refl _ _).alloc (Nat.le_refl _) _))
  · have h1 : 1 ≤ k.length := by
      cases k with
      | nil => exact absurd rfl hk
      | cons y ys => simp
    refine wpList_append_rs hg s x hop w0.heap.size _ [] hs (Own2.made 27 w0) rfl hx hc h1 (by simpa using hlen) (by simp) fun v' w' k1 k2 k3 => ?_
    rw [List.nil_append] at k1
    obtain ⟨A', c', rfl, _⟩ := k1.lies
    exact h A' c' w' k1 (((Below.refl _ _).alloc (Nat.le_refl _) _).grown k2 (by simp) (by intro j hj; simp [Value.ownBlock] at hj; omega))
end Go.Proofs.Ytkpjlobpaippdaa
