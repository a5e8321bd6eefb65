/- Lists of pairs of ints in memory (refs, values), read and of one's own, whatever their type. -/
import Derived.Test.YtjibkgildfjjoaaDoorRows
import Derived.Test.YtjibkgildfjjoaaDoorzGw
import Derived.Test.YtjibkgildfjjoaaDoorzKit
import Derived.Deep.AppendLies
import Derived.Laws.OwnMore
import Derived.Great.BuildSlice
import Derived.Laws.CopyOwn
import Derived.Deep.MidRow
import Derived.OrdersHeld
import Derived.Deep.RegionHeld
import Derived.Deep.DeepCutAuto
import Derived.Deep.CutBlock
import Derived.Deep.QuietTactic
import Derived.BigQuiet
import Derived.WalkLawsBesides
import Derived.Laws.IdiomCopy
import Derived.Deep.RegionHeld3
import Derived.OpenShut
import Derived.Deep.SlicePairs
import Derived.Lib.SmallJoins
import Derived.Laws.Rows
import Derived.Lib.SliceRun
import Derived.Test.YtjibkgildfjjoaaDoorzQt
import Derived.Laws.CopyRow
namespace Go.Proofs.YtjibkgildfjjoaaDoor
set_option linter.unusedVariables false
set_option linter.unusedSimpArgs false
open Go.RowKit Go.ChangeShapes Go.WideShapes Go.ChangeAt Go.Sort

abbrev P2 := Int × Int
theorem p_add (b off n : Nat) : (⟨b, off, none⟩ : Addr).add n = ⟨b, off + n, none⟩ := by unfold Addr.add; split <;> simp [*]
/-- The slice at A holds these pairs, below block B. -/
def PAt (w : World) (B : Nat) (A : Option Addr) (l : List P2) : Prop :=
  0 < l.length → ∃ b off, A = some ⟨b, off, none⟩ ∧ b < B ∧ ∀ j (h : j < l.length), w.cell? ⟨b, off + j * 2, none⟩ = some (.int .i64 l[j].1) ∧ w.cell? ⟨b, off + j * 2 + 1, none⟩ = some (.int .i64 l[j].2)
def flatP (l : List P2) : List Value := l.flatMap fun x => [.int .i64 x.1, .int .i64 x.2]
theorem PAt.nil (w : World) (B : Nat) (A : Option Addr) : PAt w B A [] := fun h => absurd h (by simp)
theorem PAt.below {w w' : World} {B : Nat} {A : Option Addr} {l : List P2} (h : PAt w B A l) {C : Nat} (hb : Below C w w') (hC : B ≤ C) : PAt w' B A l := fun h0 => by
  obtain ⟨b, off, e, hlt, hc⟩ := h h0
  refine ⟨b, off, e, hlt, fun j hj => ⟨?_, ?_⟩⟩
  · exact (hb.cell (p := ⟨b, off + j * 2, none⟩) (by show b < C; omega)).trans (hc j hj).1
  · exact (hb.cell (p := ⟨b, off + j * 2 + 1, none⟩) (by show b < C; omega)).trans (hc j hj).2
theorem PAt.more {w : World} {B C : Nat} {A : Option Addr} {l : List P2} (h : PAt w B A l) (hC : B ≤ C) : PAt w C A l := fun h0 => by
  obtain ⟨b, off, e, hlt, hc⟩ := h h0
  exact ⟨b, off, e, by omega, hc⟩
theorem flatP_len : ∀ l, (flatP l).length = l.length * 2
  | [] => rfl
  | x :: l => by
    have := flatP_len l
    unfold flatP at *
    simp only [List.flatMap_cons, List.length_append, List.length_cons, List.length_nil]
    omega
theorem flatP_append (l k : List P2) : flatP (l ++ k) = flatP l ++ flatP k := by simp [flatP]
theorem flatP_at : ∀ (l : List P2) (j : Nat) (h : j < l.length), (flatP l)[j * 2]? = some (.int .i64 l[j].1) ∧ (flatP l)[j * 2 + 1]? = some (.int .i64 l[j].2)
  | x :: l, 0, _ => by simp [flatP]
  | x :: l, j + 1, h => by
    have ih := flatP_at l j (by simpa using h)
    have e : flatP (x :: l) = [.int .i64 x.1, .int .i64 x.2] ++ flatP l := by simp [flatP]
    have sh : ∀ k, (flatP (x :: l))[k + 2]? = (flatP l)[k]? := fun k => by rw [e, List.getElem?_append_right (by simp)]; simp
    rw [show (j + 1) * 2 = j * 2 + 2 by omega, show j * 2 + 2 + 1 = (j * 2 + 1) + 2 by omega, sh, sh]
    exact ih
theorem flatP_set : ∀ (l : List P2) (k : Nat) (y : P2), k < l.length → ((flatP l).set (k * 2) (.int .i64 y.1)).set (k * 2 + 1) (.int .i64 y.2) = flatP (l.set k y)
  | z :: l, 0, y, _ => rfl
  | z :: l, k + 1, y, h => by
    have ih := flatP_set l k y (by simpa using h)
    rw [List.set_cons_succ, show (k + 1) * 2 = k * 2 + 2 by omega]
    show .int .i64 z.1 :: .int .i64 z.2 :: ((flatP l).set (k * 2) _).set (k * 2 + 1) _ = .int .i64 z.1 :: .int .i64 z.2 :: flatP (l.set k y)
    rw [ih]
theorem newsP {w : World} {C b off : Nat} {k : List P2} (hf : ∀ j (h : j < k.length), w.cell? ⟨b, off + j * 2, none⟩ = some (.int .i64 k[j].1) ∧ w.cell? ⟨b, off + j * 2 + 1, none⟩ = some (.int .i64 k[j].2)) :
    ∀ j u, (flatP k)[j]? = some u → w.cell? ((⟨b, off, none⟩ : Addr).add j) = some u := fun j u hj => by
  rw [p_add]
  have hjl : j < (flatP k).length := by
    rcases Nat.lt_or_ge j (flatP k).length with h | h
    · exact h
    · rw [List.getElem?_eq_none h] at hj; cases hj
  rw [flatP_len] at hjl
  have hd : j = j / 2 * 2 + j % 2 := by omega
  obtain ⟨e0, e1⟩ := flatP_at k (j / 2) (by omega)
  obtain ⟨c0, c1⟩ := hf (j / 2) (by omega)
  have hm : j % 2 = 0 ∨ j % 2 = 1 := by omega
  rcases hm with hm | hm
  · rw [hm, Nat.add_zero] at hd
    rw [hd] at hj ⊢
    rw [e0] at hj
    rw [c0, hj]
  · rw [hm] at hd
    rw [hd] at hj ⊢
    rw [e1] at hj
    rw [show off + (j / 2 * 2 + 1) = off + j / 2 * 2 + 1 by omega, c1, hj]
theorem oneP {k : List P2} : ∀ u ∈ flatP k, u.oneCell' = true := fun u hu => by
  unfold flatP at hu
  obtain ⟨y, _, hy⟩ := List.mem_flatMap.1 hu
  simp at hy
  rcases hy with rfl | rfl <;> rfl
/-- The call's own pairs. -/
def Own2 (t : TypeId) (w : World) (B : Nat) (v : Value) (l : List P2) : Prop := w.ownsRow B t 2 v l.length (flatP l)
theorem Own2.nil (t : TypeId) (w : World) (B : Nat) : Own2 t w B (.slice none 0 0) [] := World.ownsRow_nil _ _ _ _
theorem Own2.made (t : TypeId) (w : World) : Own2 t (w.alloc (.cells #[] t)) w.heap.size (.slice (some ⟨w.heap.size, 0, none⟩) 0 0) [] := World.ownsRow_made w #[] 0 (Nat.le_refl _) (by decide) rfl
theorem Own2.lies {t : TypeId} {w : World} {B : Nat} {v : Value} {l : List P2} (h : Own2 t w B v l) : ∃ A c, v = .slice A l.length c ∧ PAt w w.heap.size A l := by
  unfold Own2 at h
  have hc := fun g hg => h.cells (g := g) hg
  have hlt := h.lt
  rcases h.2 with ⟨rfl, h0⟩ | ⟨g, cap, cur, rfl, _⟩
  · have e : l = [] := List.eq_nil_of_length_eq_zero h0
    subst e
    exact ⟨none, 0, rfl, PAt.nil _ _ _⟩
  · refine ⟨_, _, rfl, fun _ => ⟨g, 0, rfl, (hlt g rfl).2, fun j hj => ?_⟩⟩
    obtain ⟨e0, e1⟩ := flatP_at l j hj
    have k0 := hc g rfl _ _ e0
    have k1 := hc g rfl _ _ e1
    rw [p_add] at k0 k1
    exact ⟨k0, k1⟩
theorem Own2.len {t : TypeId} {w : World} {B n c : Nat} {A : Option Addr} {l : List P2} (h : Own2 t w B (.slice A n c) l) : l.length = n := by
  rcases h.2 with ⟨e, h0⟩ | ⟨g, cap, cur, e, _⟩
  · simp at e; omega
  · simp at e; omega
theorem Own2.set {t : TypeId} {w : World} {B g cap n : Nat} {l : List P2} (h : Own2 t w B (.slice (some ⟨g, 0, none⟩) n cap) l) (k : Nat) (y : P2) (hk : k < l.length) :
    Own2 t ((w.setCell ⟨g, k * 2, none⟩ (.int .i64 y.1)).setCell ⟨g, k * 2 + 1, none⟩ (.int .i64 y.2)) B (.slice (some ⟨g, 0, none⟩) n cap) (l.set k y) := by
  obtain rfl := h.len
  unfold Own2 at *
  rw [List.length_set, ← flatP_set l k y hk]
  exact ((h.stored (k * 2) _).1.stored (k * 2 + 1) _).1
/-- Rows where their blocks are as they were. -/
theorem r_same {w w' : World} {B n size : Nat} {e : TypeId} {v : Value} {xs : List Value} (h : w.ownsRow B e size v n xs) (hh : ∀ g, v.ownBlock = some g → w'.heap[g]? = w.heap[g]?) : w'.ownsRow B e size v n xs := by
  refine ⟨h.1, ?_⟩
  rcases h.2 with h' | ⟨g, cap, cur, rfl, hb, hg, r⟩
  · exact .inl h'
  · exact .inr ⟨g, cap, cur, rfl, hb, (hh g rfl).trans hg, r⟩
theorem r_mono {w : World} {B C n size : Nat} {e : TypeId} {v : Value} {xs : List Value} (h : w.ownsRow B e size v n xs) (hC : C ≤ B) : w.ownsRow C e size v n xs :=
  ⟨h.1, h.2.imp id fun ⟨g, cap, cur, e, hb, r⟩ => ⟨g, cap, cur, e, Nat.le_trans hC hb, r⟩⟩
theorem r_later {u u' : World} {B n size : Nat} {e : TypeId} {v : Value} {xs : List Value} (h : u.ownsRow B e size v n xs) (hb : Below u.heap.size u u') : u'.ownsRow B e size v n xs :=
  r_same h fun g hgv => hb.block g (h.lt g hgv).2
theorem r_apart {w : World} {B n size k : Nat} {e t : TypeId} {v : Value} {xs : List Value} {cs : Array Value} (h : w.ownsRow B e size v n xs) (hk : Held w k t cs) (ht : t ≠ e) : ∀ g, v.ownBlock = some g → g ≠ k := by
  rintro g hg rfl
  rcases h.2 with ⟨rfl, _⟩ | ⟨g', cap, cur, rfl, _, hh, _⟩
  · simp [Value.ownBlock] at hg
  · simp only [Value.ownBlock, Option.some.injEq] at hg
    subst hg
    rw [Held] at hk
    rw [hk] at hh
    simp at hh
    exact ht hh.2
theorem r_form {w : World} {B size n : Nat} {e : TypeId} {v : Value} {xs : List Value} (h : w.ownsRow B e size v n xs) (h0 : 0 < n) : ∃ g c, v = .slice (some ⟨g, 0, none⟩) n c := by
  rcases h.2 with ⟨_, e0⟩ | ⟨g, cap, cur, e, _⟩
  · omega
  · exact ⟨g, cap, e⟩
theorem r_fz {w : World} {B size n c g : Nat} {e : TypeId} {xs : List Value} (h : w.ownsRow B e size (.slice (some ⟨g, 0, none⟩) n c) n xs) (i : Nat) : w.frozen? ⟨g, i, none⟩ = false := by
  rcases h.2 with ⟨e0, _⟩ | ⟨g', cap, cur, e, _, hg, _⟩
  · simp at e0
  · simp only [Value.slice.injEq, Option.some.injEq, Addr.mk.injEq, and_true, true_and] at e
    obtain ⟨rfl, rfl⟩ := e
    exact fz_at hg i
theorem own2_cells {t : TypeId} {w : World} {B n c g : Nat} {l : List P2} (h : Own2 t w B (.slice (some ⟨g, 0, none⟩) n c) l) {k : Nat} (hk : k < l.length) :
    w.cell? ⟨g, k * 2, none⟩ = some (.int .i64 l[k].1) ∧ w.cell? ⟨g, k * 2 + 1, none⟩ = some (.int .i64 l[k].2) ∧ w.frozen? ⟨g, k * 2, none⟩ = false ∧ w.frozen? ⟨g, k * 2 + 1, none⟩ = false := by
  obtain rfl := h.len
  obtain ⟨e0, e1⟩ := flatP_at l k hk
  exact ⟨(h.cellAt (k * 2) (by omega)).trans e0, (h.cellAt (k * 2 + 1) (by omega)).trans e1, r_fz h _, r_fz h _⟩
theorem own2_at {t : TypeId} {w : World} {B n c : Nat} {A : Option Addr} {l : List P2} (h : Own2 t w B (.slice A n c) l) : PAt w w.heap.size A l := by
  obtain ⟨A9, c9, e9, hv9⟩ := h.lies
  simp only [Value.slice.injEq] at e9
  obtain ⟨rfl, _, rfl⟩ := e9
  exact hv9
theorem own2_held {t : TypeId} {w : World} {B g : Nat} {l : List P2} (h : Held w g t (flatP l).toArray) (hB : B ≤ g) (hl : l.length ≤ 1000000) : Own2 t w B (.slice (some ⟨g, 0, none⟩) l.length l.length) l := by
  refine ⟨flatP_len l, .inr ⟨g, l.length, (flatP l).toArray, rfl, hB, h, Nat.le_refl _, by unfold maxLen; omega, ?_, ?_⟩⟩
  · simp [flatP_len]
  · rw [← flatP_len l]
    simp
theorem row_far0 (w : World) (g : Nat) (cs : Array Value) (k : Nat) (hk : k ≠ g) : (w.setRow g cs).heap[k]? = w.heap[k]? := by
  simp [World.setRow, Array.getElem?_modify, Ne.symm hk]
theorem held_row {W : World} {g k : Nat} {t : TypeId} {cs : Array Value} (h : Held W g t cs) (hk : g ≠ k) (cs' : Array Value) : Held (W.setRow k cs') g t cs := (row_far0 W k cs' g hk).trans h
theorem held_rowSelf {W : World} {g : Nat} {t : TypeId} {cs : Array Value} (h : Held W g t cs) (cs' : Array Value) : Held (W.setRow g cs') g t cs' := setRow_heap W g cs cs' t (0, 0) h
theorem held_grown {w w' : World} {g : Nat} {t : TypeId} {cs : Array Value} {row : Option Nat} (h : Held w g t cs) (hg : w.grownBy w' row) (hr : row ≠ some g) : Held w' g t cs := (hg.block g h.lt (Ne.symm hr)).trans h
/-- One pair, in a block of its own. -/
theorem one2_at {t : TypeId} {w : World} (x y : Int) : PAt (w.alloc (.cells #[.int .i64 x, .int .i64 y] t)) (w.alloc (.cells #[.int .i64 x, .int .i64 y] t)).heap.size (some ⟨w.heap.size, 0, none⟩) [(x, y)] := fun _ => by
  have h := Held.new w t #[.int .i64 x, .int .i64 y]
  refine ⟨_, _, rfl, h.lt, fun j hj => ?_⟩
  obtain rfl : j = 0 := by simpa using hj
  exact ⟨h.cell 0, h.cell 1⟩
/-- Refs appended. -/
theorem infoR : (Tryd.prog.info? 33).map (fun i => (i.zero, i.size, i.bytes)) = some (some (.agg #[.int .i64 0, .int .i64 0]), 2, 16) := by kernel_rfl
abbrev OwnR (w : World) (B : Nat) (v : Value) (l : List P2) : Prop := Own2 33 w B v l
theorem wpList_append_rs {w : World} {ops : Array Oper} {rest : List Oper} {o : Oper} {a : Act} {Q : Exit → Act → World → Prop}
    (hg : o.guard = none) (s x : Operand) (hop : o.op = Op.call { callee := Callee.builtin Builtin.append, args := #[s, x], argTypes := #[31, 31] })
    (B : Nat) (v : Value) (l : List P2) (hs : a.eval s = v) (own : OwnR w B v l) {A : Option Addr} {k : List P2} {n c C : Nat} (hn : k.length = n) (hx : a.eval x = .slice A n c) (hc : PAt w C A k)
    (h1 : 1 ≤ n) (hlen : l.length + n ≤ 1000000) (hB : B ≤ w.heap.size)
    (h : ∀ v' w', OwnR w' B v' (l ++ k) → w.grownBy w' v.ownBlock → (∀ b, v'.ownBlock = some b → v.ownBlock = some b ∨ w.heap.size ≤ b) → wpList Tryd.prog ops Q rest (a.put o.dst v') w') : wpList Tryd.prog ops Q (o :: rest) a w := by
  subst hn
  obtain ⟨b, off, rfl, hbC, hf⟩ := hc (by omega)
  obtain ⟨q, hi, hz0, hz1, hz2⟩ := info_parts infoR
  refine wpList_append_lies _ hg s x 31 hop B 33 q (.agg #[.int .i64 0, .int .i64 0]) 2 16 Tryd.underlying31 hi hz0 hz1 hz2 rfl (by decide) v l.length (flatP l) hs own ⟨b, off, none⟩ k.length c
    (flatP k) hx (flatP_len k) (newsP (C := C) hf) oneP (by omega) (by unfold maxLen; omega) (by omega) hB _ rfl ?_
  intro g cap w' k1 k2 k3 k4
  refine h _ w' ?_ k2 ?_
  · unfold OwnR Own2
    rw [List.length_append, flatP_append]
    exact k1
  · intro b hb
    simp only [Value.ownBlock, Option.some.injEq] at hb
    subst hb
    rcases k3 with k3 | k3
    · exact .inl k3
    · exact .inr (by omega)
theorem run_zeroR (w : World) (g c c2 : Nat) (A : Option Addr) (ty : TypeId) : (Builtin.append_ #[31, 31] ty #[.slice (some ⟨g, 0, none⟩) 0 c, .slice A 0 c2]).run Tryd.prog w = .ok (.slice (some ⟨g, 0, none⟩) 0 c) w := by
  obtain ⟨i, hi, hz0, hz1, hz2⟩ := info_parts infoR
  cases A <;> simp [Builtin.append_, run_underlying Tryd.underlying31, sizeOf, typeInfo, hi, storeCells, loadCellsFrom, Builtin.lenOf, Builtin.firstCells, loadCells]
/-- Appended to a list that was made, be there any or none. -/
theorem wpList_append_rs0 {w : World} {ops : Array Oper} {rest : List Oper} {o : Oper} {a : Act} {Q : Exit → Act → World → Prop}
    (hg : o.guard = none) (s x : Operand) (hop : o.op = Op.call { callee := Callee.builtin Builtin.append, args := #[s, x], argTypes := #[31, 31] })
    (w0 : World) (hw : w = w0.alloc (.cells #[] 33)) (hs : a.eval s = .slice (some ⟨w0.heap.size, 0, none⟩) 0 0) {A : Option Addr} {k : List P2} {n c C : Nat} (hn : k.length = n) (hx : a.eval x = .slice A n c) (hc : PAt w C A k)
    (hlen : n ≤ 1000000)
    (h : ∀ A' c' w', OwnR w' w0.heap.size (.slice A' n c') k → Below w0.heap.size w0 w' → wpList Tryd.prog ops Q rest (a.put o.dst (.slice A' n c')) w') : wpList Tryd.prog ops Q (o :: rest) a w := by
  subst hn
  subst hw
  by_cases hk : k = []
  · subst hk
    refine wpList_plain hg fun K hK' => ?_
    have hr := fun ty => run_zeroR (w0.alloc (.cells #[] 33)) w0.heap.size 0 c A ty
    have hx2 : a.eval x = .slice A 0 c := hx
    unfold Oper.wp execOp
    simp only [hop, resolve, invoke, builtin, Sem.run_bind, Sem.run_pure, Result.andThen_ok, List.map_toArray, List.map_cons, List.map_nil, hs, hx2, hr]
    exact hK' _ _ (h _ _ _ (Own2.made 33 w0) ((Below.refl _ _).alloc (Nat.le_refl _) _))
  · have h1 : 1 ≤ k.length := by
      cases k with
      | nil => exact absurd rfl hk
      | cons y ys => simp
    refine wpList_append_rs hg s x hop w0.heap.size _ [] hs (Own2.made 33 w0) rfl hx hc h1 (by simpa using hlen) (by simp) fun v' w' k1 k2 k3 => ?_
    rw [List.nil_append] at k1
    obtain ⟨A', c', rfl, _⟩ := k1.lies
    exact h A' c' w' k1 (((Below.refl _ _).alloc (Nat.le_refl _) _).grown k2 (by simp) (by intro j hj; simp [Value.ownBlock] at hj; omega))
end Go.Proofs.YtjibkgildfjjoaaDoor

/- The steps of drawn regions; lists built; rows stored, loaded. -/
namespace Go.Proofs.YtjibkgildfjjoaaDoor
set_option linter.unusedVariables false
set_option linter.unusedSimpArgs false
open Go.RowKit Go.ChangeShapes Go.WideShapes Go.ChangeAt Go.Sort

theorem wp_build1R {o : Oper} {a : Act} {w : World} {K : Act → World → Prop} {Q : Exit → Act → World → Prop} {x : Operand} {p q : Int} (ho : o.op = .buildSlice 31 1 #[(0, x)]) (hx : a.eval x = .agg #[.int .i64 p, .int .i64 q])
    (h : K (a.put o.dst (.slice (some ⟨w.heap.size, 0, none⟩) 1 1)) (w.alloc (.cells #[.int .i64 p, .int .i64 q] 33))) : o.wp Tryd.prog a w K Q := by
  obtain ⟨i, hi, hz0, hz1, hz2⟩ := info_parts infoR
  exact wp_buildSlice 31 33 1 _ ho _ i _ Tryd.underlying31 hi hz0 (by rw [hz1]; decide) (by rw [hz1]; decide) (by simp only [List.map_toArray, List.map_cons, List.map_nil, hx, hz1]; kernel_rfl) h
/-- That no operation is a select is said once for a region. -/
theorem wpAnyH_begin {P : Program} {ops : Array Oper} {Q : Exit → Act → World → Prop} {md : Region.Mode} {S : World → Prop} {fuel : Nat} {listed : Array Bool} {a : Act} {w : World} (hs : Region.noSelect ops = true) (h : Hid (Region.noSelect ops = true) → wpAnyH P md ops Q S fuel listed a w) : wpAnyH P md ops Q S fuel listed a w := h hs
theorem wpAnyH_takeS {P : Program} {ops : Array Oper} {Q : Exit → Act → World → Prop} {md : Region.Mode} {S : World → Prop} {i : Nat} {oi : Oper} {v : Value} {fuel : Nat} {listed : Array Bool} {a : Act} {w : World} (HS : Hid (Region.noSelect ops = true)) (hi : ops[i]? = some oi)
    (hf : Region.free md ops listed i = true) (hr : (Region.ready md ops listed).contains i = true) (hQ : ∀ c a w, Q (.panic c) (a.put oi.dst v) w → Q (.panic c) a w) (hy : YieldsIf P ops S oi v a) (hS : S w)
    (h : wpAnyH P md ops Q S fuel (listed.setIfInBounds i true) (a.put oi.dst v) w) : wpAnyH P md ops Q S (fuel + 1) listed a w :=
  wpAnyH_take hi HS.out hf hr hQ hy hS h
theorem join2 {S : World → Value → Value → Prop} {G : Prop} {H : World → Value → Value → Prop} (both : (∀ W x y, H W x y → S W x y) → G) (key : ∀ W x y, H W x y → S W x y) : G := both key
theorem wp_alloc_R {P : Program} {w : World} {o : Oper} {a : Act} {K : Act → World → Prop} {Q : Exit → Act → World → Prop} (t : TypeId) (ho : o.op = .alloc t) (c : Array Value)
    (hz : (P.info? t).map (·.zero) = some (some (.agg c))) (h : K (a.put o.dst (.pointer (some ⟨w.heap.size, 0, none⟩))) (w.alloc (.cells c t))) : o.wp P a w K Q := by
  cases hq : P.info? t with
  | none => simp [hq] at hz
  | some i =>
    simp [hq] at hz
    have hrun : (Instr.alloc t true (.tuple #[])).run P w = .ok (.pointer (some ⟨w.heap.size, 0, none⟩)) (w.alloc (.cells c t)) := by
      simp [Instr.alloc, zeroValue, typeInfo, hq, hz, newVar, newRow, Value.cells]
    unfold Oper.wp execOp
    simp only [ho, Sem.run_bind, hrun, Result.andThen_ok]
    exact h
/-- A row out of the middle of a block. -/
theorem wpList_load_midA {P : Program} {ops : Array Oper} {rest : List Oper} {op : Oper} {a : Act} {w : World} {Q : Exit → Act → World → Prop} (hgd : op.guard = none) (ty : TypeId) (x : Operand) (ho : op.op = .load ty x)
    (b o : Nat) (hx : a.eval x = .pointer (some ⟨b, o, none⟩)) (cs : Array Value) (d : TypeDesc) (hc : w.rangeAt b o cs.toList)
    (hu : P.underlying ty = some d) (hd : d.isRow = true) (hi : (P.info? ty).map (·.size) = some cs.size)
    (h : wpList P ops Q rest (a.put op.dst (.agg cs)) w) : wpList P ops Q (op :: rest) a w :=
  wpList_load_mid hgd ty x ho b o hx cs.toList d hc hu hd (by rw [hi]; simp) (by simpa using h)
theorem yieldsIf_load_midA {P : Program} {ops : Array Oper} {S : World → Prop} {op : Oper} {a : Act} (hw : Region.wanted op (yielded ops a.tmps) = true) (ty : TypeId) (x : Operand) (ho : op.op = .load ty x)
    (b o : Nat) (hx : a.eval x = .pointer (some ⟨b, o, none⟩)) (cs : Array Value) (d : TypeDesc) (hS : ∀ w, S w → w.rangeAt b o cs.toList)
    (hu : P.underlying ty = some d) (hd : d.isRow = true) (hi : (P.info? ty).map (·.size) = some cs.size) : YieldsIf P ops S op (.agg cs) a := by
  have := yieldsIf_load_mid (P := P) (ops := ops) (S := S) hw ty x ho b o hx cs.toList d hS hu hd (by rw [hi]; simp)
  simpa using this
theorem wpList_box_arr {P : Program} {ops : Array Oper} {rest : List Oper} {o : Oper} {a : Act} {w : World} {Q : Exit → Act → World → Prop} (hg : o.guard = none) (t : TypeId) (x : Operand) (ho : o.op = .box t x)
    (cells : Array Value) (hx : a.eval x = .agg cells) (h : wpList P ops Q rest (a.put o.dst (.pointer (some ⟨w.heap.size, 0, none⟩))) (w.alloc (.cells cells t))) : wpList P ops Q (o :: rest) a w := by
  refine wpList_plain hg fun K hK => ?_
  unfold Oper.wp execOp
  simp only [ho, Sem.run_bind, Instr.box, newVar, newRow, run_newObj_alloc, Sem.run_pure, Result.andThen_ok, hx, Value.cells]
  exact hK _ _ h
/-- A guarded operation that is done. -/
theorem wpList_done {P : Program} {w : World} {ops : Array Oper} {rest : List Oper} {o : Oper} {a : Act} {Q : Exit → Act → World → Prop}
    (hw : Region.wanted o (yielded ops a.tmps) = true) (h : wpList P ops Q ({ o with guard := none } :: rest) a w) : wpList P ops Q (o :: rest) a w := by
  unfold wpList at h ⊢
  rw [if_pos hw]
  rw [if_pos (by simp [Region.wanted])] at h
  exact h
theorem infoI : (Tryd.prog.info? 3).map (fun i => (i.zero, i.size, i.bytes)) = some (some (.int .i64 0), 1, 8) := by kernel_rfl
end Go.Proofs.YtjibkgildfjjoaaDoor

/- Results that lie in cells. -/
namespace Go.Proofs.YtjibkgildfjjoaaDoor
set_option linter.unusedVariables false
set_option linter.unusedSimpArgs false
open Go.RowKit Go.ChangeShapes Go.WideShapes Go.ChangeAt Go.Sort

theorem results_c0 {P : Program} {fn : Func} {p : Tmp} {ty1 : TypeId} (h : fn.results = #[.cell p ty1]) (tmps : Array Value) (w : World) {a1 : Addr} {v1 : Value} (hp : tmps.getD p undef = .pointer (some a1)) (l1 : (loadVar ty1 a1).run P w = .ok v1 w) : (results fn tmps).run P w = .ok v1 w := by
  have hp' : tmps[p]?.getD undef = .pointer (some a1) := by simpa using hp
  simp [results, h, hp', asAddr, l1]
theorem results_ct0 {P : Program} {fn : Func} {p q : Tmp} {ty1 : TypeId} (h : fn.results = #[.cell p ty1, .tmp q]) (tmps : Array Value) (w : World) {a1 : Addr} {v1 v2 : Value} (hp : tmps.getD p undef = .pointer (some a1)) (hq : tmps.getD q undef = v2)
    (l1 : (loadVar ty1 a1).run P w = .ok v1 w) : (results fn tmps).run P w = .ok (.tuple #[v1, v2]) w := by
  have hp' : tmps[p]?.getD undef = .pointer (some a1) := by simpa using hp
  have hq' : tmps[q]?.getD undef = v2 := by simpa using hq
  simp [results, h, hp', hq', asAddr, l1]
theorem results_cct {P : Program} {fn : Func} {p q t : Tmp} {ty1 ty2 : TypeId} (h : fn.results = #[.cell p ty1, .cell q ty2, .tmp t]) (tmps : Array Value) (w : World) {a1 a2 : Addr} {v1 v2 v3 : Value} (hp : tmps.getD p undef = .pointer (some a1)) (hq : tmps.getD q undef = .pointer (some a2)) (ht : tmps.getD t undef = v3)
    (l1 : (loadVar ty1 a1).run P w = .ok v1 w) (l2 : (loadVar ty2 a2).run P w = .ok v2 w) : (results fn tmps).run P w = .ok (.tuple #[v1, v2, v3]) w := by
  have hp' : tmps[p]?.getD undef = .pointer (some a1) := by simpa using hp
  have hq' : tmps[q]?.getD undef = .pointer (some a2) := by simpa using hq
  have ht' : tmps[t]?.getD undef = v3 := by simpa using ht
  simp [results, h, hp', hq', ht', asAddr, l1, l2]
theorem load_ref {w : World} {g : Nat} {cs : Array Value} (h : Held w g 33 cs) (hs : cs.size = 2) : (loadVar 33 ⟨g, 0, none⟩).run Tryd.prog w = .ok (.agg cs) w :=
  run_loadVar_row (P := Tryd.prog) _ g 33 33 _ (0, 0) _ h Tryd.underlying33 rfl (by rw [hs]; kernel_rfl)
end Go.Proofs.YtjibkgildfjjoaaDoor

/- Layer 11: the document's comparisons of refs and rings, and whether a ring may be. -/
namespace Go.Proofs.YtjibkgildfjjoaaDoor
set_option linter.unusedVariables false
set_option linter.unusedSimpArgs false
open Go.RowKit Go.ChangeShapes Go.WideShapes Go.ChangeAt Go.Sort

abbrev rgv (A : Option Addr) (n c : Nat) (h m t : Int) : Value := .agg #[.slice A n c, .int .i64 h, .int .i64 m, .int .i64 t]
theorem neqr_run (a b c d : Int) (W : World) : (binOp .neq 33 (gv a b) (gv c d)).run Tryd.prog W = .ok (.bool (decide ((a, b) ≠ (c, d)))) W := by
  by_cases h1 : a = c <;> by_cases h2 : b = d <;> simp [go_sem, h1, h2]
theorem eqr_run (a b c d : Int) (W : World) : (binOp .eql 33 (gv a b) (gv c d)).run Tryd.prog W = .ok (.bool (decide ((a, b) = (c, d)))) W := by
  by_cases h1 : a = c <;> by_cases h2 : b = d <;> simp [go_sem, h1, h2]
set_option maxHeartbeats 1000000 in
set_option maxRecDepth 100000 in
theorem rrefs_any {A A2 : Option Addr} {l k : List P2} {B B' : Nat} (c c2 : Nat) (w : World) (h1 : PAt w B A l) (h2 : PAt w B' A2 k) (hl : l.length ≤ 100000) (hk : k.length ≤ 100000) :
    Calls Tryd.prog 11 #[.slice A l.length c, .slice A2 k.length c2] w fun e w' => e = .returned (.bool (decide (l = k))) ∧ Below w.heap.size w w' := by
  have H1 := Lib.hid h1
  have H2 := Lib.hid h2
  clear h1 h2
  by_cases hlen : l.length = k.length
  · have hl2 : (l.length : Int) ≤ 100000 := by omega
    have ne : ((l.length : Int) != (k.length : Int)) = false := by simp [hlen]
    have HLN := Lib.hid hlen
    obtain ⟨R, hR⟩ : ∃ R : Bool, R = decide (l = k) := ⟨_, rfl⟩
    rw [← hR]
    have HR := Lib.hid hR
    clear hR hlen
    go_enter Tryd.func11, Tryd.ntmps11
    go_wp2_with fail
    go_loopw [5] (fun iv W => ∃ j : Nat, iv = .int .i64 j ∧ j ≤ l.length ∧ l.take j = k.take j ∧ Below w.heap.size w W) (fun iv _ => l.length - (intOf iv).toNat)
    case atStart => exact ⟨0, rfl, by omega, by simp, Below.refl _ _⟩
    case round =>
      obtain ⟨j, rfl, hj, htk, hw⟩ := hrel
      have HTK := Lib.hid htk
      clear htk
      by_cases hlt : j < l.length
      · have hltk : j < k.length := by have := HLN.out; omega
        obtain ⟨b1, off1, rfl, _, hc1⟩ := H1.out (by omega)
        obtain ⟨b2, off2, rfl, _, hc2⟩ := H2.out (by omega)
        obtain ⟨a0, a1⟩ := hc1 j hlt
        obtain ⟨d0, d1⟩ := hc2 j hltk
        replace a0 := (hw.cell (p := ⟨b1, off1 + j * 2, none⟩) (block_lt_of_cell a0)).trans a0
        replace a1 := (hw.cell (p := ⟨b1, off1 + j * 2 + 1, none⟩) (block_lt_of_cell a1)).trans a1
        replace d0 := (hw.cell (p := ⟨b2, off2 + j * 2, none⟩) (block_lt_of_cell d0)).trans d0
        replace d1 := (hw.cell (p := ⟨b2, off2 + j * 2 + 1, none⟩) (block_lt_of_cell d1)).trans d1
        clear hc1 hc2
        have T1 := Lib.hid (List.take_succ_eq_append_getElem hlt)
        have T2 := Lib.hid (List.take_succ_eq_append_getElem hltk)
        have G1 := Lib.hid (List.getElem?_eq_getElem hlt)
        have G2 := Lib.hid (List.getElem?_eq_getElem hltk)
        have hlt2 : (j : Int) < l.length := by omega
        have hltk2 : (j : Int) < k.length := by omega
        have hj0 : (0 : Int) ≤ j := Int.natCast_nonneg j
        generalize l[j] = v at *
        generalize k[j] = u at *
        by_cases hvu : v = u
        · subst hvu
          have NE : ∀ W, (binOp .neq 33 (gv v.1 v.2) (gv v.1 v.2)).run Tryd.prog W = .ok (.bool false) W := fun W => by rw [neqr_run]; simp
          go_wp2_with fail
          go_quiet (fail)
          go_wp2_with fail
          go_roundw
          case rel => exact ⟨j + 1, by go_num, by omega, by rw [T1.out, T2.out, HTK.out], below_drewN hw _⟩
          case measure => simp [intOf]; omega
        · have NE : ∀ W, (binOp .neq 33 (gv v.1 v.2) (gv u.1 u.2)).run Tryd.prog W = .ok (.bool true) W := fun W => by rw [neqr_run, decide_eq_true (show (v.1, v.2) ≠ (u.1, u.2) from hvu)]
          have hno : R = false := by
            rw [HR.out]
            refine decide_eq_false fun e => hvu ?_
            have g1 := G1.out
            rw [e, G2.out] at g1
            exact (Option.some.inj g1).symm
          subst hno
          clear hvu
          go_wp2_with fail
          go_quiet (fail)
          go_wp2_with fail
          go_ret
          exact ⟨rfl, below_drewN hw _⟩
      · obtain rfl : j = l.length := by omega
        have hyes : R = true := by
          rw [HR.out]
          refine decide_eq_true ?_
          have := HTK.out
          rwa [List.take_length, List.take_of_length_le (by rw [HLN.out]; exact Nat.le_refl _)] at this
        subst hyes
        go_wp2_with fail
        go_ret
        exact ⟨rfl, hw⟩
  · have ne : ((l.length : Int) != (k.length : Int)) = true := by simpa using fun e : (l.length : Int) = k.length => hlen (by omega)
    have hno : decide (l = k) = false := decide_eq_false fun e => hlen (by rw [e])
    rw [hno]
    clear hno hlen
    go_enter Tryd.func11, Tryd.ntmps11
    go_wp2_with fail
    go_ret
    exact ⟨rfl, Below.refl _ _⟩
theorem rsmallr_any (A : Option Addr) (n c : Nat) (h m t : Int) : Ct Tryd.prog 18 #[rgv A n c h m t] (.bool (decide (n ≤ 60))) := fun w => by
  by_cases hn : n ≤ 60
  · have e : decide (n ≤ 60) = true := decide_eq_true hn
    have e2 : decide ((n : Int) ≤ 60) = true := decide_eq_true (by omega)
    rw [e]
    clear hn e
    go_enter Tryd.func18, Tryd.ntmps18
    go_wp2_with fail
    go_ret
    exact ⟨rfl, (Below.refl _ _).alloc (Nat.le_refl _) _⟩
  · have e : decide (n ≤ 60) = false := decide_eq_false hn
    have e2 : decide ((n : Int) ≤ 60) = false := decide_eq_false (by omega)
    rw [e]
    clear hn e
    go_enter Tryd.func18, Tryd.ntmps18
    go_wp2_with fail
    go_ret
    exact ⟨rfl, (Below.refl _ _).alloc (Nat.le_refl _) _⟩
set_option maxHeartbeats 1000000 in
theorem rmayr_any (A : Option Addr) (n c : Nat) (h m t : Int) : Ct Tryd.prog 14 #[rgv A n c h m t] (.bool (mayN n h m t)) := fun w => by
  have hb : Below w.heap.size w (w.alloc (.cells #[.slice A n c, .int .i64 h, .int .i64 m, .int .i64 t] 46)) := (Below.refl _ _).alloc (Nat.le_refl _) _
  have hm : mayN n h m t = mayN n h m t := rfl
  have HM : Hid (mayN n h m t = (decide (1 ≤ t) && decide (t ≤ 1024) && (decide (1 ≤ (n : Int)) && decide ((n : Int) ≤ t)) && (decide (0 ≤ h) && decide (h < n)) && (decide (0 ≤ m) && decide (m ≤ n)))) := Lib.hid rfl
  generalize mayN n h m t = R at *
  clear hm
  go_enter Tryd.func14, Tryd.ntmps14
  go_wp2_with fail
  all_goals
    go_ret
    rw [HM.out]
    refine ⟨ret_bool ?_, hb⟩
    rw [Bool.eq_iff_iff]
    simp
    try omega
end Go.Proofs.YtjibkgildfjjoaaDoor

/- Layer 11: the document's Items. -/
namespace Go.Proofs.YtjibkgildfjjoaaDoor
set_option linter.unusedVariables false
set_option linter.unusedSimpArgs false
open Go.RowKit Go.ChangeShapes Go.WideShapes Go.ChangeAt Go.Sort

theorem tyGR : 46 ≠ 33 := by decide
/-- What a call leaves that tells a list. -/
def ListQ (w : World) (l : List P2) (e : Ending) (w' : World) : Prop := ∃ A c, e = .returned (.slice A l.length c) ∧ OwnR w' w.heap.size (.slice A l.length c) l ∧ Below w.heap.size w w'
set_option maxHeartbeats 2000000 in
set_option maxRecDepth 100000 in
theorem ritems_no {A : Option Addr} {r : Rng} (c : Nat) (w : World) (h : mayR r = false) : Calls Tryd.prog 9 #[rgv A r.buf.length c r.head r.many r.most] w (ListQ w (itemsR r)) := by
  have he : itemsR r = [] := by unfold itemsR; rw [h]; rfl
  rw [he]
  have CM := rmayr_any A r.buf.length c r.head r.many r.most
  rw [show mayN r.buf.length r.head r.many r.most = false from h] at CM
  clear h he
  obtain ⟨b, hd, m, t⟩ := r
  simp only at CM ⊢
  generalize b.length = n at *
  have hx := (Held.new w 46 #[.slice A n c, .int .i64 hd, .int .i64 m, .int .i64 t]).alloc (.cells #[] 33)
  have ho := Own2.made 33 (w.alloc (.cells #[.slice A n c, .int .i64 hd, .int .i64 m, .int .i64 t] 46))
  have hb0 := below2 w (.cells #[.slice A n c, .int .i64 hd, .int .i64 m, .int .i64 t] 46) (.cells #[] 33)
  have hs1 : (w.alloc (.cells #[.slice A n c, .int .i64 hd, .int .i64 m, .int .i64 t] 46)).heap.size = w.heap.size + 1 := by simp
  rw [hs1] at ho
  have HO := Lib.hid ho
  have HB0 := Lib.hid hb0
  clear ho hb0 hs1
  go_enter Tryd.func9, Tryd.ntmps9
  go_wp2_with fail
  generalize (w.alloc (.cells #[.slice A n c, .int .i64 hd, .int .i64 m, .int .i64 t] 46)).alloc (.cells #[] 33) = W0 at *
  go_loopw [4, 3] (fun iv sv wr => iv = .int .i64 0 ∧ sv = .slice (some ⟨w.heap.size + 1, 0, none⟩) 0 0 ∧ wr = W0) (fun _ _ _ => 0)
  case atStart => exact ⟨rfl, rfl, rfl⟩
  case round =>
    obtain ⟨rfl, rfl, rfl⟩ := hrel
    have x0 := hx.cell 0
    have x1 := hx.cell 1
    have x2 := hx.cell 2
    have x3 := hx.cell 3
    simp at x0 x1 x2 x3
    cases hm : decide ((0 : Int) < m)
    all_goals go_wp2_with (go_at_call 14; (with_reducible refine (CM.go _).mono ?_); rintro _ u ⟨rfl, hb⟩)
    · go_ret
      exact ⟨_, _, rfl, r_mono HO.out (Nat.le_succ _), HB0.out⟩
    · go_ret
      exact ⟨_, _, rfl, r_mono (r_later HO.out hb) (Nat.le_succ _), Below.step HB0.out hb⟩
set_option maxHeartbeats 4000000 in
set_option maxRecDepth 100000 in
theorem ritems_yes {A : Option Addr} {b : List P2} {hd m t B : Nat} (c : Nat) (w : World) (hp : PAt w B A b) (hB : B ≤ w.heap.size) (h : mayR ⟨b, hd, m, t⟩ = true) (ht : t ≤ 1024) (hbt : b.length ≤ t) (hhd : hd < b.length) (hm : m ≤ b.length) :
    Calls Tryd.prog 9 #[rgv A b.length c hd m t] w (ListQ w (itemsN b hd m)) := by
  have CM := rmayr_any A b.length c hd m t
  rw [show mayN b.length (hd : Int) (m : Int) (t : Int) = true from h] at CM
  obtain ⟨gb, ob, rfl, hgb, hcb⟩ := hp (by omega)
  have hx := (Held.new w 46 #[.slice (some ⟨gb, ob, none⟩) b.length c, .int .i64 hd, .int .i64 m, .int .i64 t]).alloc (.cells #[] 33)
  have ho := Own2.made 33 (w.alloc (.cells #[.slice (some ⟨gb, ob, none⟩) b.length c, .int .i64 hd, .int .i64 m, .int .i64 t] 46))
  have hb0 := below2 w (.cells #[.slice (some ⟨gb, ob, none⟩) b.length c, .int .i64 hd, .int .i64 m, .int .i64 t] 46) (.cells #[] 33)
  have hs1 : (w.alloc (.cells #[.slice (some ⟨gb, ob, none⟩) b.length c, .int .i64 hd, .int .i64 m, .int .i64 t] 46)).heap.size = w.heap.size + 1 := by simp
  rw [hs1] at ho
  have HX := Lib.hid hx
  have HO := Lib.hid (r_mono ho (Nat.le_succ _) : OwnR _ w.heap.size _ [])
  have HB0 := Lib.hid hb0
  have HCB := Lib.hid hcb
  have HGB := Lib.hid (Nat.lt_of_lt_of_le hgb hB)
  have HBD := Lib.hid (And.intro ht (And.intro hbt (And.intro hhd hm)))
  clear ho hb0 hs1 hcb hgb hB hp h hx ht hbt hhd hm
  go_enter Tryd.func9, Tryd.ntmps9
  go_wp2_with fail
  generalize (w.alloc (.cells #[.slice (some ⟨gb, ob, none⟩) b.length c, .int .i64 hd, .int .i64 m, .int .i64 t] 46)).alloc (.cells #[] 33) = W0 at *
  go_loopw [4, 3] (fun iv sv wr => ∃ (j : Nat) (A9 : Option Addr) (c9 : Nat), iv = .int .i64 j ∧ sv = .slice A9 j c9 ∧ j ≤ m ∧ OwnR wr w.heap.size (.slice A9 j c9) (itemsN b hd j) ∧ Held wr w.heap.size 46 #[.slice (some ⟨gb, ob, none⟩) b.length c, .int .i64 hd, .int .i64 m, .int .i64 t] ∧ Below w.heap.size w wr) (fun iv _ _ => m - (intOf iv).toNat)
  case atStart => exact ⟨0, _, _, rfl, rfl, Nat.zero_le _, HO.out, HX.out, HB0.out⟩
  case round =>
    obtain ⟨j, A9, c9, rfl, rfl, hj, hol, hx, hbw⟩ := hrel
    obtain ⟨ht, hbt, hhd, hm⟩ := HBD.out
    have x0 := hx.cell 0
    have x1 := hx.cell 1
    have x2 := hx.cell 2
    have x3 := hx.cell 3
    simp at x0 x1 x2 x3
    by_cases hlt : j < m
    · have hlt2 : (j : Int) < m := by omega
      have hj0 : (0 : Int) ≤ j := Int.natCast_nonneg j
      have hd0 : (0 : Int) ≤ hd := Int.natCast_nonneg hd
      have hj1 : (j : Int) ≤ 1024 := by omega
      have hd1 : (hd : Int) ≤ 1024 := by omega
      have hb1 : (b.length : Int) ≤ 1024 := by omega
      have hi : idxR hd b.length j < b.length := idxN_lt hhd (by omega)
      obtain ⟨y0, y1⟩ := HCB.out _ hi
      replace y0 := (hbw.cell (p := ⟨gb, _, none⟩) HGB.out).trans y0
      replace y1 := (hbw.cell (p := ⟨gb, _, none⟩) HGB.out).trans y1
      have hgd : b.getD (idxR hd b.length j) (0, 0) = b[idxR hd b.length j] := by rw [List.getD_eq_getElem?_getD, List.getElem?_eq_getElem hi]; rfl
      have HSC := Lib.hid (itemsN_succ b hd j)
      rw [hgd] at HSC
      generalize b[idxR hd b.length j] = x at *
      obtain ⟨xa, xb⟩ := x
      simp only at y0 y1
      have hix : ((decide ((b.length : Int) ≤ (hd : Int) + j) = true ∧ (idxR hd b.length j : Int) = (hd : Int) + j - b.length) ∨ (decide ((b.length : Int) ≤ (hd : Int) + j) = false ∧ (idxR hd b.length j : Int) = (hd : Int) + j)) := by
        unfold idxR
        by_cases hc : b.length ≤ hd + j
        · exact .inl ⟨decide_eq_true (by omega), by rw [if_pos hc]; omega⟩
        · exact .inr ⟨decide_eq_false (by omega), by rw [if_neg hc]; omega⟩
      have hiI : (idxR hd b.length j : Int) < b.length := by omega
      have hi0 : (0 : Int) ≤ (idxR hd b.length j : Int) := Int.natCast_nonneg _
      generalize hI : idxR hd b.length j = I at *
      generalize hL : itemsN b hd j = L at *
      have hLl : L.length = j := by rw [← hL, itemsN_len]
      have HLL := Lib.hid hLl
      have HX := Lib.hid hx
      have HOL := Lib.hid hol
      have HBW := Lib.hid hbw
      clear hgd hL hLl hI hi hx hol hbw hbt hhd hm
      rcases hix with ⟨hc1, hc2⟩ | ⟨hc1, hc2⟩
      all_goals
        rw [hc2] at hiI hi0
        go_upto_region 8 with (go_at_call 14; (with_reducible refine (CM.go _).mono ?_); rintro _ u ⟨rfl, hb⟩; have hxu := HX.out.below hb; have x0 := hxu.cell 0; have x1 := hxu.cell 1; simp at x0 x1; have y0 := (hb.cell (p := ⟨gb, _, none⟩) (block_lt_of_cell y0)).trans y0; have y1 := (hb.cell (p := ⟨gb, _, none⟩) (block_lt_of_cell y1)).trans y1)
        have hiI2 : (I : Int) < b.length := by omega
        have hI0 : (0 : Int) ≤ (I : Int) := Int.natCast_nonneg _
        rw [← hc2]
        have hbA : Below u.heap.size u (u.alloc (.cells #[.int .i64 xa, .int .i64 xb] 33)) := (Below.refl _ _).alloc (Nat.le_refl _) _
        have HOA := Lib.hid (r_later (r_later HOL.out hb) hbA : OwnR _ w.heap.size (.slice A9 j c9) L)
        have HVA := Lib.hid (one2_at (t := 33) (w := u) xa xb)
        have HBB := Lib.hid (Below.step (Below.step HBW.out hb) hbA)
        have HLE := Lib.hid (show L.length + 1 ≤ 1000000 by rw [HLL.out]; omega)
        have HXA := Lib.hid (hxu.below hbA)
        have HNE : Hid ((Value.slice A9 j c9).ownBlock ≠ some w.heap.size) := Lib.hid (fun e => r_apart HOA.out HXA.out tyGR _ e rfl)
        have HKL := Lib.hid (show (L ++ [(xa, xb)]).length = j + 1 by rw [List.length_append, HLL.out]; rfl)
        clear hiI hi0 hc1 hc2 hbA hb hxu HX HOL HBW hd0 hd1 hb1
        go_wp2_with (at_builtin; refine wpList_append_rs (k := [(xa, xb)]) (n := 1) rfl _ _ rfl w.heap.size _ L rfl HOA.out rfl rfl HVA.out (Nat.le_refl _) HLE.out HBB.out.size ?_; intro v' u6 k1 k2 k3; obtain ⟨A', c', rfl, _⟩ := k1.lies; have K1 := Lib.hid k1; have K2 := Lib.hid k2; clear k1 k2 k3)
        go_roundw
        case rel =>
          refine ⟨j + 1, A', c', by go_num, by rw [HLL.out], by omega, ?_, held_grown HXA.out K2.out HNE.out, HBB.out.grown K2.out HBB.out.size (fun q e => (HOA.out.lt q e).1)⟩
          have h9 := K1.out
          rw [HKL.out, ← HSC.out] at h9
          exact h9
        case measure => simp [intOf]; omega
    · obtain rfl : j = m := by omega
      have hlt2 : decide ((j : Int) < j) = false := by simp
      have hll : (itemsN b hd j).length = j := itemsN_len _ _ _
      have HOL := Lib.hid hol
      have HLL := Lib.hid hll
      clear hol hll hlt hj hbt hhd hm ht
      go_wp2_with fail
      go_ret
      refine ⟨A9, c9, ?_, ?_, hbw⟩
      · rw [HLL.out]; rfl
      · rw [HLL.out]; exact HOL.out
theorem ritems_any {A : Option Addr} {r : Rng} {B : Nat} (c : Nat) (w : World) (hp : PAt w B A r.buf) (hB : B ≤ w.heap.size) : Calls Tryd.prog 9 #[rgv A r.buf.length c r.head r.many r.most] w (ListQ w (itemsR r)) := by
  cases h : mayR r with
  | false => exact ritems_no c w h
  | true =>
    obtain ⟨b, hd, m, t, rfl, h1, h2, h3, h4, h5, h6⟩ := ring_nat h
    rw [items_nat h]
    exact ritems_yes c w hp hB h h2 h4 h5 h6
end Go.Proofs.YtjibkgildfjjoaaDoor

/- Layer 11: the document's Same, New, Pop, Steal. -/
namespace Go.Proofs.YtjibkgildfjjoaaDoor
set_option linter.unusedVariables false
set_option linter.unusedSimpArgs false
open Go.RowKit Go.ChangeShapes Go.WideShapes Go.ChangeAt Go.Sort

abbrev rgc (A : Option Addr) (n c : Nat) (h m t : Int) : Array Value := #[.slice A n c, .int .i64 h, .int .i64 m, .int .i64 t]
set_option maxHeartbeats 2000000 in
set_option maxRecDepth 100000 in
theorem rsamer_any {A A2 : Option Addr} {r q : Rng} {B : Nat} (c c2 : Nat) (w : World) (h1 : PAt w B A r.buf) (h2 : PAt w B A2 q.buf) (hB : B ≤ w.heap.size) (l1 : r.buf.length ≤ 100000) (l2 : q.buf.length ≤ 100000) :
    Calls Tryd.prog 15 #[rgv A r.buf.length c r.head r.many r.most, rgv A2 q.buf.length c2 q.head q.many q.most] w
      fun e w' => e = .returned (.bool (decide (r.buf = q.buf) && (r.head == q.head) && (r.many == q.many) && (r.most == q.most))) ∧ Below w.heap.size w w' := by
  have hb0 := below2 w (.cells (rgc A r.buf.length c r.head r.many r.most) 46) (.cells (rgc A2 q.buf.length c2 q.head q.many q.most) 46)
  have g2 := (Held.new w 46 (rgc A r.buf.length c r.head r.many r.most)).alloc (.cells (rgc A2 q.buf.length c2 q.head q.many q.most) 46)
  have g3 := Held.new1 w (.cells (rgc A r.buf.length c r.head r.many r.most) 46) 46 (rgc A2 q.buf.length c2 q.head q.many q.most)
  have CR := rrefs_any c c2 _ (h1.below hb0 hB) (h2.below hb0 hB) l1 l2
  obtain ⟨b1, h1', m1, t1⟩ := r
  obtain ⟨b2, h2', m2, t2⟩ := q
  simp only at *
  generalize decide (b1 = b2) = X at *
  generalize b1.length = n1 at *
  generalize b2.length = n2 at *
  clear h1 h2 hB l1 l2
  go_enter Tryd.func15, Tryd.ntmps15
  go_upto_region 1 with (fail)
  generalize (w.alloc (.cells (rgc A n1 c h1' m1 t1) 46)).alloc (.cells (rgc A2 n2 c2 h2' m2 t2) 46) = W0 at *
  have x0 := g2.cell 0
  have y0 := g3.cell 0
  simp at x0 y0
  cases X
  · go_wp2_with (go_at_call 11; (with_reducible refine CR.mono ?_); rintro _ u ⟨rfl, hb⟩)
    go_ret
    exact ⟨rfl, Below.step hb0 hb⟩
  · cases e1 : (h1' == h2')
    · go_wp2_with (go_at_call 11; (with_reducible refine CR.mono ?_); rintro _ u ⟨rfl, hb⟩; have k2 := g2.below hb; have k3 := g3.below hb; have x1 := k2.cell 1; have y1 := k3.cell 1; simp at x1 y1)
      go_ret
      exact ⟨ret_bool (by rw [e1]; simp), Below.step hb0 hb⟩
    · cases e2 : (m1 == m2)
      · go_wp2_with (go_at_call 11; (with_reducible refine CR.mono ?_); rintro _ u ⟨rfl, hb⟩; have k2 := g2.below hb; have k3 := g3.below hb; have x1 := k2.cell 1; have y1 := k3.cell 1; have x2 := k2.cell 2; have y2 := k3.cell 2; simp at x1 y1 x2 y2)
        go_ret
        exact ⟨ret_bool (by rw [e1, e2]; simp), Below.step hb0 hb⟩
      · go_wp2_with (go_at_call 11; (with_reducible refine CR.mono ?_); rintro _ u ⟨rfl, hb⟩; have k2 := g2.below hb; have k3 := g3.below hb; have x1 := k2.cell 1; have y1 := k3.cell 1; have x2 := k2.cell 2; have y2 := k3.cell 2; have x3 := k2.cell 3; have y3 := k3.cell 3; simp at x1 y1 x2 y2 x3 y3)
        go_ret
        exact ⟨ret_bool (by rw [e1, e2]; simp), Below.step hb0 hb⟩
end Go.Proofs.YtjibkgildfjjoaaDoor

/- Layer 11: the document's Steal, Pop. -/
namespace Go.Proofs.YtjibkgildfjjoaaDoor
set_option linter.unusedVariables false
set_option linter.unusedSimpArgs false
open Go.RowKit Go.ChangeShapes Go.WideShapes Go.ChangeAt Go.Sort

theorem load_ring {w : World} {g : Nat} {cs : Array Value} (h : Held w g 46 cs) (hs : cs.size = 4) : (loadVar 46 ⟨g, 0, none⟩).run Tryd.prog w = .ok (.agg cs) w :=
  run_loadVar_row (P := Tryd.prog) _ g 46 46 _ (0, 0) _ h Tryd.underlying46 rfl (by rw [hs]; kernel_rfl)
end Go.Proofs.YtjibkgildfjjoaaDoor

/- Layer 11: the document's Pop. -/
namespace Go.Proofs.YtjibkgildfjjoaaDoor
set_option linter.unusedVariables false
set_option linter.unusedSimpArgs false
open Go.RowKit Go.ChangeShapes Go.WideShapes Go.ChangeAt Go.Sort

end Go.Proofs.YtjibkgildfjjoaaDoor

/- Layer 11: the document's New: refs that are made. -/
namespace Go.Proofs.YtjibkgildfjjoaaDoor
set_option linter.unusedVariables false
set_option linter.unusedSimpArgs false
open Go.RowKit Go.ChangeShapes Go.WideShapes Go.ChangeAt Go.Sort

def zeroR (n : Nat) : Array Value := (flatP (List.replicate n (0, 0))).toArray
theorem flatP_rep : ∀ n, flatP (List.replicate n (0, 0)) = List.replicate (n * 2) (.int .i64 0)
  | 0 => rfl
  | n + 1 => by
    rw [List.replicate_succ, show (n + 1) * 2 = n * 2 + 1 + 1 by omega, List.replicate_succ, List.replicate_succ, ← flatP_rep n]
    rfl
theorem madeR (n : Nat) : madeCells #[Value.int .i64 0, .int .i64 0] (n * 2) = zeroR n := by
  unfold zeroR
  rw [flatP_rep]
  apply Array.ext'
  apply List.ext_getElem?
  intro j
  simp only [madeCells]
  by_cases hj : j < n * 2
  · have hm : j % 2 = 0 ∨ j % 2 = 1 := by omega
    rcases hm with hm | hm <;> simp [hj, hm]
  · simp [hj]
theorem make_rs {n : Nat} (hn : n ≤ 2000) (w : World) : (Instr.makeSlice 31 (.int .i64 (n : Int)) (.int .i64 (n : Int))).run Tryd.prog w = .ok (.slice (some ⟨w.heap.size, 0, none⟩) n n) (w.alloc (.cells (zeroR n) 33)) := by
  obtain ⟨q, hi, hz0, hz1, hz2⟩ := info_parts infoR
  have hr := run_make (P := Tryd.prog) w 31 33 q _ Tryd.underlying31 hi hz0 .i64 .i64 n n (by omega) (Int.le_refl _) (by rw [hz2]; omega) (by omega)
  simp only [Int.toNat_natCast, hz1] at hr
  rw [hr, ← madeR]
  rfl
theorem zeroR_own {w : World} {B g n : Nat} (h : Held w g 33 (zeroR n)) (hB : B ≤ g) (hn : n ≤ 1000000) : OwnR w B (.slice (some ⟨g, 0, none⟩) n n) (List.replicate n (0, 0)) := by
  have := own2_held (l := List.replicate n ((0, 0) : P2)) h hB (by rw [List.length_replicate]; exact hn)
  rwa [List.length_replicate] at this
abbrev rz0 : Array Value := #[.slice none 0 0, .int .i64 0, .int .i64 0, .int .i64 0]
/-- A ring of the call's own, and more. -/
def RingO (w : World) (B : Nat) (v : Value) (r : Rng) : Prop := ∃ A c, v = rgv A r.buf.length c r.head r.many r.most ∧ OwnR w B (.slice A r.buf.length c) r.buf
def RingQ (w : World) (R : Rng) (x : Value) (e : Ending) (w' : World) : Prop := ∃ v, e = .returned (.tuple #[v, x]) ∧ RingO w' w.heap.size v R ∧ Below w.heap.size w w'
end Go.Proofs.YtjibkgildfjjoaaDoor

/- Layer 11: the document's one: an item more. -/
namespace Go.Proofs.YtjibkgildfjjoaaDoor
set_option linter.unusedVariables false
set_option linter.unusedSimpArgs false
open Go.RowKit Go.ChangeShapes Go.WideShapes Go.ChangeAt Go.Sort

theorem fill_set (L : List P2) (N i : Nat) (hi : i < L.length) (hN : L.length ≤ N) : (L.take i ++ List.replicate (N - i) ((0, 0) : P2)).set i L[i] = L.take (i + 1) ++ List.replicate (N - (i + 1)) (0, 0) := by
  have hl : (L.take i).length = i := by rw [List.length_take]; omega
  rw [List.set_append_right _ _ (by omega), hl, Nat.sub_self, List.take_succ_eq_append_getElem hi, show N - i = (N - (i + 1)) + 1 by omega, List.replicate_succ, List.set_cons_zero, List.append_assoc]
  rfl
/-- On the way: the ring, the ref, the result's cell. -/
structure OneS (w : World) (A : Option Addr) (n c : Nat) (hd m t xa xb : Int) (W : World) : Prop where
  g2 : Held W w.heap.size 46 (rgc A n c hd m t)
  g3 : Held W (w.heap.size + 1) 33 #[.int .i64 xa, .int .i64 xb]
  g4 : Held W (w.heap.size + 1 + 1) 46 rz0
  b : Below w.heap.size w W
  z : w.heap.size + 3 ≤ W.heap.size
theorem OneS.below {w : World} {A : Option Addr} {n c : Nat} {hd m t xa xb : Int} {W W' : World} (h : OneS w A n c hd m t xa xb W) (hb : Below W.heap.size W W') : OneS w A n c hd m t xa xb W' :=
  ⟨h.g2.below hb, h.g3.below hb, h.g4.below hb, Below.step h.b hb, Nat.le_trans h.z hb.size⟩
/-- Refs of the call's own are turned. -/
theorem OneS.turn {w : World} {A : Option Addr} {n c g : Nat} {hd m t xa xb : Int} {W : World} (h : OneS w A n c hd m t xa xb W) (hg : w.heap.size + 3 ≤ g) (i j : Nat) (x y : Value) : OneS w A n c hd m t xa xb ((W.setCell ⟨g, i, none⟩ x).setCell ⟨g, j, none⟩ y) :=
  ⟨(h.g2.far (by omega) _ _).far (by omega) _ _, (h.g3.far (by omega) _ _).far (by omega) _ _, (h.g4.far (by omega) _ _).far (by omega) _ _, (h.b.setCell (p := ⟨g, i, none⟩) (by show w.heap.size ≤ g; omega) _).setCell (p := ⟨g, j, none⟩) (by show w.heap.size ≤ g; omega) _, by simpa [World.setCell] using h.z⟩
end Go.Proofs.YtjibkgildfjjoaaDoor

/- Layer 11: the document's Push. -/
namespace Go.Proofs.YtjibkgildfjjoaaDoor
set_option linter.unusedVariables false
set_option linter.unusedSimpArgs false
open Go.RowKit Go.ChangeShapes Go.WideShapes Go.ChangeAt Go.Sort

/-- A round begins: the ring so far in its block. -/
structure PuS (w : World) (R : Rng) (A9 : Option Addr) (c9 : Nat) (W : World) : Prop where
  g : Held W w.heap.size 46 (rgc A9 R.buf.length c9 R.head R.many R.most)
  g4 : Held W (w.heap.size + 1) 46 rz0
  p : PAt W W.heap.size A9 R.buf
  ne : ∀ b off, A9 = some ⟨b, off, none⟩ → b ≠ w.heap.size ∧ b ≠ w.heap.size + 1
  b : Below w.heap.size w W
theorem PuS.drew {w : World} {R : Rng} {A9 : Option Addr} {c9 : Nat} {W : World} (h : PuS w R A9 c9 W) : PuS w R A9 c9 W.drew := ⟨h.g, h.g4, h.p, h.ne, h.b.drew⟩
theorem PuS.below {w : World} {R : Rng} {A9 : Option Addr} {c9 : Nat} {W W' : World} (h : PuS w R A9 c9 W) (hb : Below W.heap.size W W') : PuS w R A9 c9 W' := ⟨h.g.below hb, h.g4.below hb, (h.p.below hb (Nat.le_refl _)).more hb.size, h.ne, Below.step h.b hb⟩
theorem PuS.start {w : World} {r : Rng} {A : Option Addr} {B c : Nat} (hp : PAt w B A r.buf) (hB : B ≤ w.heap.size) : PuS w r A c ((w.alloc (.cells (rgc A r.buf.length c r.head r.many r.most) 46)).alloc (.cells rz0 46)) ∨ r.buf = [] := by
  by_cases h0 : 0 < r.buf.length
  · left
    have hb := below2 w (.cells (rgc A r.buf.length c r.head r.many r.most) 46) (.cells rz0 46)
    obtain ⟨b, off, e, hlt, hc⟩ := hp h0
    exact ⟨(Held.new w 46 _).alloc _, Held.new1 w _ 46 rz0, (hp.below hb hB).more (Nat.le_trans hB hb.size), fun b' off' e' => by rw [e] at e'; cases e'; omega, hb⟩
  · right
    exact List.eq_nil_of_length_eq_zero (by omega)
end Go.Proofs.YtjibkgildfjjoaaDoor

/- Layer 11: the document's Half. -/
namespace Go.Proofs.YtjibkgildfjjoaaDoor
set_option linter.unusedVariables false
set_option linter.unusedSimpArgs false
open Go.RowKit Go.ChangeShapes Go.WideShapes Go.ChangeAt Go.Sort

/-- On the way: the ring in its block, the result's cell, what was stolen. -/
structure HaS (w : World) (A : Option Addr) (n c : Nat) (R : Rng) (A9 : Option Addr) (c9 : Nat) (K : List P2) (j : Nat) (W : World) : Prop where
  g : Held W w.heap.size 46 (rgc A n c R.head R.many R.most)
  g2 : Held W (w.heap.size + 1) 46 rz0
  o : OwnR W (w.heap.size + 2) (.slice A9 j c9) K
  b : Below w.heap.size w W
theorem HaS.below {w : World} {A : Option Addr} {n c : Nat} {R : Rng} {A9 : Option Addr} {c9 : Nat} {K : List P2} {j : Nat} {W W' : World} (h : HaS w A n c R A9 c9 K j W) (hb : Below W.heap.size W W') : HaS w A n c R A9 c9 K j W' :=
  ⟨h.g.below hb, h.g2.below hb, r_later h.o hb, Below.step h.b hb⟩
end Go.Proofs.YtjibkgildfjjoaaDoor

/- Layer 11: arguments that are rings, lists of refs, two numbers, opened. -/
namespace Go.Proofs.YtjibkgildfjjoaaDoor
set_option linter.unusedVariables false
set_option linter.unusedSimpArgs false
open Go.RowKit Go.ChangeShapes Go.WideShapes Go.ChangeAt Go.Deep Go.Joins

section
variable {H : Type} {enc : TypeId × Value → H} {W : World} {base : Nat} {sp : Nat → Bool} {hd : Bool} {fuel : Nat}
set_option maxRecDepth 100000 in
theorem ci1r : Tryd.prog.cellsOf 3 = 1 := by kernel_rfl
set_option maxRecDepth 100000 in
theorem ciR : Tryd.prog.cellsOf 33 = 2 := by kernel_rfl
set_option maxRecDepth 100000 in
theorem ciRs : Tryd.prog.cellsOf 31 = 1 := by kernel_rfl
set_option maxRecDepth 100000 in
theorem ciG : Tryd.prog.cellsOf 46 = 4 := by kernel_rfl
set_option maxRecDepth 100000 in
theorem open_ir {c : Value} {y : DataW H × List MemPlace} (g : DataW.trod enc Tryd.prog W base sp hd fuel 3 [c] = some y) : ∃ n : Int, c = .int .i64 n := by
  obtain ⟨n0, e0, _, _⟩ := DataW.trod_int Tryd.underlying3 g
  simp at e0
  exact ⟨n0, e0⟩
set_option maxRecDepth 100000 in
theorem open_ref2r {a b : Value} {y : DataW H × List MemPlace} (g : DataW.trod enc Tryd.prog W base sp hd fuel 33 [a, b] = some y) : ∃ n m : Int, a = .int .i64 n ∧ b = .int .i64 m := by
  obtain ⟨y0, y1, k, _, _, g0, g1⟩ := trod_struct2 Tryd.underlying33 g
  simp [ci1r] at g0 g1
  obtain ⟨n, rfl⟩ := open_ir g0
  obtain ⟨m, rfl⟩ := open_ir g1
  exact ⟨n, m, rfl, rfl⟩
set_option maxRecDepth 100000 in
theorem open_refs {cs : List Value} {x : DataW H × List MemPlace} (h : DataW.trod enc Tryd.prog W base sp hd fuel 31 cs = some x) : ∃ A c l, cs = [.slice A l.length c] ∧ PAt W W.heap.size A l ∧ l.length ≤ maxLen ∧ l.length ≤ c := by
  rcases open_slice Tryd.underlying31 h with ⟨rfl, _⟩ | ⟨a, len, cap, m, n, D, Pl, rfl, _, hl, hm, hmm, rfl, hx⟩
  · exact ⟨none, 0, [], rfl, PAt.nil _ _ _, by simp, by simp⟩
  · have hlm : len ≤ m := by rw [hmm]; split <;> omega
    have each : ∀ i, i < len → ∃ q : P2, W.cell? (a.add (i * 2)) = some (.int .i64 q.1) ∧ W.cell? (a.add (i * 2 + 1)) = some (.int .i64 q.2) := by
      intro i hi
      obtain ⟨cs', h1, h2⟩ := hx i (by omega)
      rw [ciR] at h1
      obtain ⟨_, hlen, hcell⟩ := World.cells?_some h1
      match cs', hlen with
      | [v0, v1], _ =>
        obtain ⟨n0, n1, rfl, rfl⟩ := open_ref2r h2
        have c0 := hcell 0 (by omega)
        have c1 := hcell 1 (by omega)
        rw [add_add] at c0 c1
        exact ⟨(n0, n1), by simpa using c0, by simpa using c1⟩
    obtain ⟨q, hq⟩ := choose_lt each
    refine ⟨some a, cap, (List.range len).map q, by simp, fun h0 => ?_, by simp; omega, by simpa using hl⟩
    have hlen : 0 < len := by simpa using h0
    obtain ⟨b, off, spot⟩ := a
    have hspot : spot = none := by simpa [Addr.add] using World.cell?_spot (hq 0 hlen).1
    subst hspot
    refine ⟨b, off, rfl, block_lt_of_cell (a := Addr.add ⟨b, off, none⟩ (0 * 2)) (hq 0 hlen).1, fun j hj => ?_⟩
    have hj' : j < len := by simpa using hj
    obtain ⟨c0, c1⟩ := hq j hj'
    rw [p_add] at c0 c1
    simp only [List.getElem_map, List.getElem_range]
    exact ⟨c0, c1⟩
end
end Go.Proofs.YtjibkgildfjjoaaDoor

/- Layer 11: the code's May, has, place, clone. -/
namespace Go.Proofs.YtjibkgildfjjoaaDoor
set_option linter.unusedVariables false
set_option linter.unusedSimpArgs false
open Go.RowKit Go.ChangeShapes Go.WideShapes Go.ChangeAt Go.Sort

set_option maxHeartbeats 1000000 in
theorem may_r (A : Option Addr) (n c : Nat) (h m t : Int) : Ct Tryd.prog 59 #[rgv A n c h m t] (.bool (mayN n h m t)) := fun w => by
  have hb : Below w.heap.size w (w.alloc (.cells #[.slice A n c, .int .i64 h, .int .i64 m, .int .i64 t] 46)) := (Below.refl _ _).alloc (Nat.le_refl _) _
  have hm : mayN n h m t = mayN n h m t := rfl
  have HM : Hid (mayN n h m t = (decide (1 ≤ t) && decide (t ≤ 1024) && (decide (1 ≤ (n : Int)) && decide ((n : Int) ≤ t)) && (decide (0 ≤ h) && decide (h < n)) && (decide (0 ≤ m) && decide (m ≤ n)))) := Lib.hid rfl
  generalize mayN n h m t = R at *
  clear hm
  go_enter Tryd.func59, Tryd.ntmps59
  go_wp2_with fail
  all_goals
    go_ret
    rw [HM.out]
    refine ⟨ret_bool ?_, hb⟩
    rw [Bool.eq_iff_iff]
    simp
    try omega
theorem has_iff (r : Rng) : (0 < (itemsR r).length) = (mayR r = true ∧ 0 < r.many) := by
  apply propext
  cases h : mayR r with
  | false => unfold itemsR; rw [h]; simp
  | true =>
    have := items_len h
    simp
    constructor
    · intro h1; omega
    · intro h1; omega
set_option maxHeartbeats 1000000 in
theorem has_r (A : Option Addr) (c : Nat) (r : Rng) : Ct Tryd.prog 36 #[rgv A r.buf.length c r.head r.many r.most] (.bool (decide (0 < (itemsR r).length))) := fun w => by
  have hb : Below w.heap.size w (w.alloc (.cells (rgc A r.buf.length c r.head r.many r.most) 46)) := (Below.refl _ _).alloc (Nat.le_refl _) _
  have CM := may_r A r.buf.length c r.head r.many r.most
  have hx := Held.new w 46 (rgc A r.buf.length c r.head r.many r.most)
  have HR : Hid (decide (0 < (itemsR r).length) = (mayR r && decide (0 < r.many))) := Lib.hid (by
    rw [Bool.eq_iff_iff]
    simp only [decide_eq_true_eq, Bool.and_eq_true]
    rw [has_iff])
  generalize decide (0 < (itemsR r).length) = R at *
  obtain ⟨b, h, m, t⟩ := r
  simp only at *
  have hmr : mayR ⟨b, h, m, t⟩ = mayN b.length h m t := rfl
  rw [hmr] at HR
  generalize mayN b.length h m t = M at *
  generalize b.length = n at *
  clear hmr
  go_enter Tryd.func36, Tryd.ntmps36
  go_upto_region 1 with (fail)
  generalize w.alloc (.cells (rgc A n c h m t) 46) = W0 at *
  cases M
  all_goals
    go_wp2_with (first
      | (guard_target = wpList _ _ _ (Oper.mk _ (Op.load 46 (.tmp 1)) _ _ _ none :: _) _ _; refine wpList_load_row rfl 46 _ rfl w.heap.size rfl _ _ _ _ hx Tryd.underlying46 rfl (by kernel_rfl) ?_)
      | (go_at_call 59; (with_reducible refine (CM.go _).mono ?_); rintro _ u ⟨rfl, hbu⟩; have x2 := (hx.below hbu).cell 2; simp at x2))
    go_ret
    rw [HR.out]
    refine ⟨?_, Below.step hb hbu⟩
    simp
/-- The place of what stands so many behind the top. -/
theorem place_mod {h n i : Nat} (hh : h < n) (hi : i ≤ n) : (h + i) % n = idxR h n i := by
  unfold idxR
  split
  · rename_i hc
    rw [Nat.mod_eq_sub_mod hc, Nat.mod_eq_of_lt (by omega)]
  · exact Nat.mod_eq_of_lt (by omega)
set_option maxHeartbeats 1000000 in
theorem place_r {A : Option Addr} {n h i : Nat} (c : Nat) (m t : Int) (hh : h < n) (hi : i ≤ n) (hn : n ≤ 1024) : Ct Tryd.prog 37 #[rgv A n c h m t, .int .i64 i] (.int .i64 (idxR h n i)) := fun w => by
  have hb : Below w.heap.size w (w.alloc (.cells (rgc A n c h m t) 46)) := (Below.refl _ _).alloc (Nat.le_refl _) _
  have h0 : (0 : Int) ≤ h := Int.natCast_nonneg h
  have i0 : (0 : Int) ≤ i := Int.natCast_nonneg i
  have h1 : (h : Int) ≤ 1024 := by omega
  have i1 : (i : Int) ≤ 1024 := by omega
  have n0 : (0 : Int) < n := by omega
  have n1 : (n : Int) ≤ 1024 := by omega
  have hr : Int.tmod ((h : Int) + i) n = (idxR h n i : Nat) := by
    rw [← place_mod hh hi]
    rfl
  have nz : ((n : Int) == 0) = false := by simp; omega
  generalize hI : idxR h n i = I at *
  have hI2 : (I : Int) ≤ 1024 := by
    have : I ≤ 1024 := by
      rw [← hI]; unfold idxR; split <;> omega
    omega
  have I0 : (0 : Int) ≤ I := Int.natCast_nonneg I
  clear hI hh hi hn
  go_enter Tryd.func37, Tryd.ntmps37
  go_wp2_with fail
  go_ret
  exact ⟨rfl, hb⟩
end Go.Proofs.YtjibkgildfjjoaaDoor

/- Layer 11: the code's Items. -/
namespace Go.Proofs.YtjibkgildfjjoaaDoor
set_option linter.unusedVariables false
set_option linter.unusedSimpArgs false
open Go.RowKit Go.ChangeShapes Go.WideShapes Go.ChangeAt Go.Sort

set_option maxHeartbeats 4000000 in
set_option maxRecDepth 100000 in
theorem items_r {A : Option Addr} {r : Rng} {B : Nat} (c : Nat) (w : World) (hp : PAt w B A r.buf) (hB : B ≤ w.heap.size) : Calls Tryd.prog 21 #[rgv A r.buf.length c r.head r.many r.most] w (ListQ w (itemsR r)) := by
  have hb0 : Below w.heap.size w (w.alloc (.cells (rgc A r.buf.length c r.head r.many r.most) 46)) := (Below.refl _ _).alloc (Nat.le_refl _) _
  have hx := Held.new w 46 (rgc A r.buf.length c r.head r.many r.most)
  have CH := has_r A c r
  by_cases h0 : 0 < (itemsR r).length
  · rw [decide_eq_true h0] at CH
    have hmy := ((has_iff r) ▸ h0 : mayR r = true ∧ 0 < r.many).1
    obtain ⟨b, hd, m, t, rfl, h1, h2, h3, h4, h5, h6⟩ := ring_nat hmy
    rw [items_nat hmy] at h0 ⊢
    rw [itemsN_len] at h0
    simp only at hp
    obtain ⟨gb, ob, rfl, hgb, hcb⟩ := hp (by omega)
    have HCB := Lib.hid hcb
    have HGB := Lib.hid (Nat.lt_of_lt_of_le hgb hB)
    have MK := fun W => make_rs (n := m) (by omega) W
    have HBD := Lib.hid (And.intro h2 (And.intro h4 (And.intro h5 h6)))
    have hm0 : (0 : Int) ≤ m := Int.natCast_nonneg m
    have hm1 : (m : Int) ≤ 1024 := by omega
    clear hmy hp hcb h1 h2 h3 h4 h5 h6 hgb hB
    simp only at *
    go_enter Tryd.func21, Tryd.ntmps21
    go_upto_region 1 with (fail)
    generalize w.alloc (.cells (rgc (some ⟨gb, ob, none⟩) b.length c hd m t) 46) = W0 at *
    go_upto_region 3 with (first
      | (guard_target = wpList _ _ _ (Oper.mk _ (Op.load 46 (.tmp 1)) _ _ _ none :: _) _ _; refine wpList_load_row rfl 46 _ rfl w.heap.size rfl _ _ _ _ hx Tryd.underlying46 rfl (by kernel_rfl) ?_)
      | (go_at_call 36; (with_reducible refine (CH.go _).mono ?_); rintro _ u ⟨rfl, hbu⟩))
    have hxu := hx.below hbu
    have hbw := Below.step hb0 hbu
    have x2 := hxu.cell 2
    simp at x2
    clear hx hbu hb0 CH
    go_upto_region 4 with (fail)
    have hbz : Below u.heap.size u (u.alloc (.cells (zeroR m) 33)) := (Below.refl _ _).alloc (Nat.le_refl _) _
    have hgu : w.heap.size + 1 ≤ u.heap.size := hxu.lt
    have hzo : OwnR (u.alloc (.cells (zeroR m) 33)) (w.heap.size + 1) (.slice (some ⟨u.heap.size, 0, none⟩) m m) ((itemsN b hd m).take 0 ++ List.replicate (m - 0) (0, 0)) := by
      have := zeroR_own (Held.new u 33 (zeroR m)) hgu (by omega)
      simpa using this
    have HZ := Lib.hid (And.intro hzo (And.intro (hxu.below hbz) (Below.step hbw hbz)))
    clear hzo hbz hxu hbw x2 MK
    generalize u.alloc (.cells (zeroR m) 33) = W1 at *
    generalize u.heap.size = g at *
    have HGU := Lib.hid hgu
    clear hgu
    go_wp2_with fail
    go_loopw [13] (fun iv wr => ∃ i : Nat, iv = .int .i64 i ∧ i ≤ m ∧ OwnR wr (w.heap.size + 1) (.slice (some ⟨g, 0, none⟩) m m) ((itemsN b hd m).take i ++ List.replicate (m - i) (0, 0)) ∧ Held wr w.heap.size 46 (rgc (some ⟨gb, ob, none⟩) b.length c hd m t) ∧ Below w.heap.size w wr) (fun iv _ => m - (intOf iv).toNat)
    case atStart => exact ⟨0, rfl, Nat.zero_le _, HZ.out.1, HZ.out.2.1, HZ.out.2.2⟩
    case round =>
      obtain ⟨i, rfl, hi, ho, hx, hb⟩ := hrel
      obtain ⟨h2, h4, h5, h6⟩ := HBD.out
      by_cases hlt : i < m
      · have CP := place_r (A := some ⟨gb, ob, none⟩) (n := b.length) (h := hd) (i := i) c m t h5 (by omega) (by omega)
        have hi2 : idxR hd b.length i < b.length := idxN_lt h5 (by omega)
        obtain ⟨y0, y1⟩ := HCB.out _ hi2
        replace y0 := (hb.cell (p := ⟨gb, _, none⟩) HGB.out).trans y0
        replace y1 := (hb.cell (p := ⟨gb, _, none⟩) HGB.out).trans y1
        have hiL : i < (itemsN b hd m).length := by rw [itemsN_len]; exact hlt
        have hfs := fill_set (itemsN b hd m) m i hiL (by rw [itemsN_len]; exact Nat.le_refl _)
        have hgi : (itemsN b hd m)[i] = b[idxR hd b.length i] := by
          have := itemsN_get (b := b) (h := hd) hlt
          rw [List.getElem?_eq_getElem hiL] at this
          rw [Option.some.inj this, List.getD_eq_getElem?_getD, List.getElem?_eq_getElem hi2]
          rfl
        rw [hgi] at hfs
        have hlen : ((itemsN b hd m).take i ++ List.replicate (m - i) ((0, 0) : P2)).length = m := by rw [List.length_append, List.length_take, List.length_replicate, itemsN_len]; omega
        have hlt2 : (i : Int) < m := by omega
        have hi0 : (0 : Int) ≤ i := Int.natCast_nonneg i
        have hiI : (idxR hd b.length i : Int) < b.length := by omega
        have hI0 : (0 : Int) ≤ (idxR hd b.length i : Int) := Int.natCast_nonneg _
        have HFS := Lib.hid hfs
        clear hgi hfs hiL
        generalize b[idxR hd b.length i] = x at *
        generalize idxR hd b.length i = I at *
        obtain ⟨xa, xb⟩ := x
        simp only at y0 y1
        have HO := Lib.hid ho
        have HLN := Lib.hid hlen
        have HLT := Lib.hid (show i < ((itemsN b hd m).take i ++ List.replicate (m - i) ((0, 0) : P2)).length by rw [hlen]; exact hlt)
        have HB := Lib.hid hb
        have x0 := hx.cell 0
        have x1 := hx.cell 1
        have x2 := hx.cell 2
        have x3 := hx.cell 3
        simp at x0 x1 x2 x3
        clear hb ho hlen h2 h4 h5 h6 hi2
        go_upto_region 7 with (fail)
        have g0 := fun d os => cell_regrown x0 d os
        have g1 := fun d os => cell_regrown x1 d os
        have g2 := fun d os => cell_regrown x2 d os
        have g3 := fun d os => cell_regrown x3 d os
        have g4 := fun d os => cell_regrown y0 d os
        have g5 := fun d os => cell_regrown y1 d os
        clear x0 x1 x2 x3 y0 y1
        refine wp_region_below_tail 10 (by kernel_rfl) (by kernel_rfl) ?_
        simp only [List.take_succ_cons, List.take_zero, List.drop_succ_cons, List.drop_zero]
        repeat (first
          | go_big_quiet_step ((go_at_call 37; (with_reducible exact Calls.regrown_of (CP.go _))))
          | quiet_step ((go_at_call 37; (with_reducible exact Calls.regrown_of (CP.go _)))))
        refine wpQuiet_nil ?_
        intro v hv
        have hbu := below_of_regrown hv
        clear hv g0 g1 g2 g3 g4 g5
        have ho' : OwnR v (w.heap.size + 1) _ _ := r_later HO.out hbu
        have hx' := hx.below hbu
        obtain ⟨z0, z1, w0, w1⟩ := own2_cells ho' (k := i) HLT.out
        have hset := ho'.set i (xa, xb) HLT.out
        rw [HFS.out] at hset
        have hb' := Below.step HB.out hbu
        have HGU2 := Lib.hid HGU.out
        generalize ((itemsN b hd m).take i ++ List.replicate (m - i) ((0, 0) : P2))[i] = v0 at *
        go_wp2_with fail
        go_roundw
        case rel => exact ⟨i + 1, by go_num, by omega, hset, (hx'.far (by have := HGU.out; omega) _ _).far (by have := HGU.out; omega) _ _, (hb'.setCell (p := ⟨g, _, none⟩) (by have := HGU.out; show w.heap.size ≤ g; omega) _).setCell (p := ⟨g, _, none⟩) (by have := HGU.out; show w.heap.size ≤ g; omega) _⟩
        case measure => simp [intOf]; omega
      · obtain rfl : i = m := by omega
        have hend : decide ((i : Int) < i) = false := by simp
        have hll : (itemsN b hd i).length = i := itemsN_len _ _ _
        have htk : (itemsN b hd i).take i ++ List.replicate (i - i) ((0, 0) : P2) = itemsN b hd i := by rw [List.take_of_length_le (by omega), Nat.sub_self]; simp
        rw [htk] at ho
        have HO := Lib.hid ho
        have HLL := Lib.hid hll
        clear ho hll htk hlt hi h2 h4 h5 h6
        go_wp2_with fail
        go_ret
        refine ⟨some ⟨g, 0, none⟩, i, ?_, ?_, hb⟩
        · rw [HLL.out]; rfl
        · rw [HLL.out]; exact r_mono HO.out (Nat.le_succ _)
  · rw [decide_eq_false h0] at CH
    have hnil : itemsR r = [] := List.eq_nil_of_length_eq_zero (by omega)
    rw [hnil]
    clear hnil h0 hp
    obtain ⟨b, hd, m, t⟩ := r
    simp only at *
    generalize b.length = n at *
    go_enter Tryd.func21, Tryd.ntmps21
    go_upto_region 1 with (fail)
    generalize w.alloc (.cells (rgc A n c hd m t) 46) = W0 at *
    go_wp2_with (first
      | (guard_target = wpList _ _ _ (Oper.mk _ (Op.load 46 (.tmp 1)) _ _ _ none :: _) _ _; refine wpList_load_row rfl 46 _ rfl w.heap.size rfl _ _ _ _ hx Tryd.underlying46 rfl (by kernel_rfl) ?_)
      | (go_at_call 36; (with_reducible refine (CH.go _).mono ?_); rintro _ u ⟨rfl, hbu⟩))
    go_ret
    exact ⟨none, 0, rfl, Own2.nil _ _ _, Below.step hb0 hbu⟩
end Go.Proofs.YtjibkgildfjjoaaDoor

/- Layer 11: the code's methods of an end: pop, steal. -/
namespace Go.Proofs.YtjibkgildfjjoaaDoor
set_option linter.unusedVariables false
set_option linter.unusedSimpArgs false
open Go.RowKit Go.ChangeShapes Go.WideShapes Go.ChangeAt Go.Sort

end Go.Proofs.YtjibkgildfjjoaaDoor

/- Layer 11: copy of pairs; the code's grow. -/
namespace Go.Proofs.YtjibkgildfjjoaaDoor
set_option linter.unusedVariables false
set_option linter.unusedSimpArgs false
open Go.RowKit Go.ChangeShapes Go.WideShapes Go.ChangeAt Go.Sort

end Go.Proofs.YtjibkgildfjjoaaDoor

/- Layer 11: the code's method push. -/
namespace Go.Proofs.YtjibkgildfjjoaaDoor
set_option linter.unusedVariables false
set_option linter.unusedSimpArgs false
open Go.RowKit Go.ChangeShapes Go.WideShapes Go.ChangeAt Go.Sort

end Go.Proofs.YtjibkgildfjjoaaDoor

/- Layer 11: the code's Push. -/
namespace Go.Proofs.YtjibkgildfjjoaaDoor
set_option linter.unusedVariables false
set_option linter.unusedSimpArgs false
open Go.RowKit Go.ChangeShapes Go.WideShapes Go.ChangeAt Go.Sort

/-- A ring of one's own in a variable's block. -/
structure RgS (w : World) (B g : Nat) (t : TypeId) (r : Rng) (A : Option Addr) (c : Nat) (W : World) : Prop where
  x : Held W g t (rgc A r.buf.length c r.head r.many r.most)
  o : OwnR W B (.slice A r.buf.length c) r.buf
  b : Below w.heap.size w W
  bg : w.heap.size ≤ g
  bo : w.heap.size ≤ B
theorem RgS.below {w : World} {B g : Nat} {t : TypeId} {r : Rng} {A : Option Addr} {c : Nat} {W W' : World} (h : RgS w B g t r A c W) (hb : Below W.heap.size W W') : RgS w B g t r A c W' := ⟨h.x.below hb, r_later h.o hb, Below.step h.b hb, h.bg, h.bo⟩
/-- Another block is turned, of another type than refs. -/
theorem RgS.row {w : World} {B g k : Nat} {t t2 : TypeId} {r : Rng} {A : Option Addr} {c : Nat} {W : World} {cs : Array Value} (h : RgS w B g t r A c W) (hk : Held W k t2 cs) (ht : t2 ≠ 33) (hne : g ≠ k) (hw : w.heap.size ≤ k) (cs' : Array Value) : RgS w B g t r A c (W.setRow k cs') :=
  ⟨held_row h.x hne cs', r_same h.o fun q e => row_far0 W k cs' q (r_apart h.o hk ht q e), below_setRow h.b hw cs', h.bg, h.bo⟩
/-- It is the call's own. -/
theorem RgS.own {w : World} {B g : Nat} {t : TypeId} {r : Rng} {A : Option Addr} {c : Nat} {W : World} (h : RgS w B g t r A c W) : RingO W w.heap.size (.agg (rgc A r.buf.length c r.head r.many r.most)) r := ⟨A, c, rfl, r_mono h.o h.bo⟩
end Go.Proofs.YtjibkgildfjjoaaDoor

/- Layer 11: the code's Pop, Steal. -/
namespace Go.Proofs.YtjibkgildfjjoaaDoor
set_option linter.unusedVariables false
set_option linter.unusedSimpArgs false
open Go.RowKit Go.ChangeShapes Go.WideShapes Go.ChangeAt Go.Sort

/-- A block of refs ahead of one's own is turned. -/
theorem RgS.far {w : World} {B g k : Nat} {t t2 : TypeId} {r : Rng} {A : Option Addr} {c : Nat} {W : World} {cs : Array Value} (h : RgS w (B + 1) g t r A c W) (_hk : Held W k t2 cs) (hkB : k ≤ B) (hne : g ≠ k) (cs' : Array Value) (hw : w.heap.size ≤ k := by omega) : RgS w (B + 1) g t r A c (W.setRow k cs') :=
  ⟨held_row h.x hne cs', r_same h.o fun q e => row_far0 W k cs' q (by have := (h.o.lt q e).1; omega), below_setRow h.b hw cs', h.bg, h.bo⟩
end Go.Proofs.YtjibkgildfjjoaaDoor

/- Layer 11: the code's Half, New. -/
namespace Go.Proofs.YtjibkgildfjjoaaDoor
set_option linter.unusedVariables false
set_option linter.unusedSimpArgs false
open Go.RowKit Go.ChangeShapes Go.WideShapes Go.ChangeAt Go.Sort

set_option maxHeartbeats 2000000 in
set_option maxRecDepth 100000 in
theorem new_r (room most : Int) (w : World) : Calls Tryd.prog 28 #[.int .i64 room, .int .i64 most] w (RingQ w (newR room most).1 (.bool (newR room most).2)) := by
  have g4 := Held.new w 46 rz0
  have hb0 : Below w.heap.size w (w.alloc (.cells rz0 46)) := (Below.refl _ _).alloc (Nat.le_refl _) _
  by_cases h : 1 ≤ most ∧ most ≤ 1024 ∧ 1 ≤ room ∧ room ≤ most
  · have e : newR room most = (⟨List.replicate room.toNat (0, 0), 0, 0, most⟩, true) := if_pos h
    rw [e]
    obtain ⟨h1, h2, h3, h4⟩ := h
    obtain ⟨n, rfl⟩ : ∃ n : Nat, room = n := ⟨room.toNat, by omega⟩
    have c1 : decide (most < 1) = false := decide_eq_false (by omega)
    have c2 : decide (1024 < most) = false := decide_eq_false (by omega)
    have c3 : decide ((n : Int) < 1) = false := decide_eq_false (by omega)
    have c4 : decide (most < (n : Int)) = false := decide_eq_false (by omega)
    have HN := Lib.hid (show n ≤ 1024 by omega)
    have MK := fun W => make_rs (n := n) (by omega) W
    clear h1 h2 h3 h4 e
    go_enter Tryd.func28, Tryd.ntmps28
    go_upto_region 1 with (fail)
    generalize w.alloc (.cells rz0 46) = W0 at *
    have k4 := g4.alloc (.cells (zeroR n) 33)
    have hne := g4.lt
    go_wp2_with (guard_target = wpList _ _ _ (Oper.mk _ (Op.store 46 (.tmp 4) _) _ _ _ none :: _) _ _; refine wpList_store_row rfl 46 _ _ rfl w.heap.size (rgc (some ⟨W0.heap.size, 0, none⟩) n n 0 0 most) rfl rfl _ _ k4 (by kernel_rfl) rfl (by simp [Value.oneCell']) ?_)
    have ho : OwnR ((W0.alloc (.cells (zeroR n) 33)).setRow w.heap.size (rgc (some ⟨W0.heap.size, 0, none⟩) n n 0 0 most)) w.heap.size (.slice (some ⟨W0.heap.size, 0, none⟩) n n) (List.replicate n (0, 0)) :=
      zeroR_own (held_row (Held.new W0 33 (zeroR n)) (by omega) _) (by omega) (by have := HN.out; omega)
    refine bodyPost_ret (results_ct0 rfl _ _ rfl rfl (load_ring (held_rowSelf k4 (rgc (some ⟨W0.heap.size, 0, none⟩) n n 0 0 most)) rfl)) rfl ⟨_, rfl, ⟨some ⟨W0.heap.size, 0, none⟩, n, ?_, ?_⟩, below_setRow (hb0.alloc hb0.size _) (Nat.le_refl _) _⟩
    · simp only [Int.toNat_natCast, List.length_replicate]
    · simp only [Int.toNat_natCast, List.length_replicate]; exact ho
  · have e : newR room most = (⟨[], 0, 0, 0⟩, false) := if_neg h
    rw [e]
    have hcs : decide (most < 1) = true ∨ (decide (most < 1) = false ∧ decide (1024 < most) = true) ∨ (decide (most < 1) = false ∧ decide (1024 < most) = false ∧ decide (room < 1) = true) ∨ (decide (most < 1) = false ∧ decide (1024 < most) = false ∧ decide (room < 1) = false ∧ decide (most < room) = true) := by
      simp only [decide_eq_true_eq, decide_eq_false_iff_not]
      omega
    clear h e
    rcases hcs with c1 | ⟨c1, c2⟩ | ⟨c1, c2, c3⟩ | ⟨c1, c2, c3, c4⟩
    all_goals
      go_enter Tryd.func28, Tryd.ntmps28
      go_wp2_with (guard_target = wpList _ _ _ (Oper.mk _ (Op.store 46 (.tmp 4) _) _ _ _ none :: _) _ _; refine wpList_store_row rfl 46 _ _ rfl w.heap.size rz0 rfl rfl _ _ g4 (by kernel_rfl) rfl (by simp [Value.oneCell']) ?_)
      exact bodyPost_ret (results_ct0 rfl _ _ rfl rfl (load_ring (held_rowSelf g4 rz0) rfl)) rfl ⟨_, rfl, ⟨none, 0, rfl, Own2.nil _ _ _⟩, below_setRow hb0 (Nat.le_refl _) _⟩
end Go.Proofs.YtjibkgildfjjoaaDoor

