/- Lists of pairs of ints in memory (refs, values), read and of one's own, whatever their type. -/
import Derived.Test.YtjibkgildfjjoaaGreatDoorRows
import Derived.Test.YtjibkgildfjjoaaGreatDoorzGw
import Derived.Test.YtjibkgildfjjoaaGreatDoorzKit
import Derived.Deep.AppendLies
import Derived.Laws.OwnMore
import Derived.Great.BuildSlice
import Derived.Laws.CopyOwn
import Derived.Deep.MidRow
import Derived.OrdersHeld
import Derived.Deep.RegionHeld
import Derived.Deep.DeepCutAuto
import Derived.Deep.CutBlock
import Derived.Deep.QuietTactic
import Derived.BigQuiet
import Derived.WalkLawsBesides
namespace Go.Proofs.YtjibkgildfjjoaaGreatDoor
set_option linter.unusedVariables false
set_option linter.unusedSimpArgs false
open Go.RowKit Go.ChangeShapes Go.WideShapes Go.ChangeAt Go.Sort

abbrev P2 := Int × Int
theorem p_add (b off n : Nat) : (⟨b, off, none⟩ : Addr).add n = ⟨b, off + n, none⟩ := by unfold Addr.add; split <;> simp [*]
/-- The slice at A holds these pairs, below block B. -/
def PAt (w : World) (B : Nat) (A : Option Addr) (l : List P2) : Prop :=
  0 < l.length → ∃ b off, A = some ⟨b, off, none⟩ ∧ b < B ∧ ∀ j (h : j < l.length), w.cell? ⟨b, off + j * 2, none⟩ = some (.int .i64 l[j].1) ∧ w.cell? ⟨b, off + j * 2 + 1, none⟩ = some (.int .i64 l[j].2)
def flatP (l : List P2) : List Value := l.flatMap fun x => [.int .i64 x.1, .int .i64 x.2]
theorem PAt.nil (w : World) (B : Nat) (A : Option Addr) : PAt w B A [] := fun h => absurd h (by simp)
theorem PAt.below {w w' : World} {B : Nat} {A : Option Addr} {l : List P2} (h : PAt w B A l) {C : Nat} (hb : Below C w w') (hC : B ≤ C) : PAt w' B A l := fun h0 => by
  obtain ⟨b, off, e, hlt, hc⟩ := h h0
  refine ⟨b, off, e, hlt, fun j hj => ⟨?_, ?_⟩⟩
  · exact (hb.cell (p := ⟨b, off + j * 2, none⟩) (by show b < C; omega)).trans (hc j hj).1
  · exact (hb.cell (p := ⟨b, off + j * 2 + 1, none⟩) (by show b < C; omega)).trans (hc j hj).2
theorem PAt.more {w : World} {B C : Nat} {A : Option Addr} {l : List P2} (h : PAt w B A l) (hC : B ≤ C) : PAt w C A l := fun h0 => by
  obtain ⟨b, off, e, hlt, hc⟩ := h h0
  exact ⟨b, off, e, by omega, hc⟩
theorem flatP_len : ∀ l, (flatP l).length = l.length * 2
  | [] => rfl
  | x :: l => by
    have := flatP_len l
    unfold flatP at *
    simp only [List.flatMap_cons, List.length_append, List.length_cons, List.length_nil]
    omega
theorem flatP_append (l k : List P2) : flatP (l ++ k) = flatP l ++ flatP k := by simp [flatP]
theorem flatP_at : ∀ (l : List P2) (j : Nat) (h : j < l.length), (flatP l)[j * 2]? = some (.int .i64 l[j].1) ∧ (flatP l)[j * 2 + 1]? = some (.int .i64 l[j].2)
  | x :: l, 0, _ => by simp [flatP]
  | x :: l, j + 1, h => by
    have ih := flatP_at l j (by simpa using h)
    have e : flatP (x :: l) = [.int .i64 x.1, .int .i64 x.2] ++ flatP l := by simp [flatP]
    have sh : ∀ k, (flatP (x :: l))[k + 2]? = (flatP l)[k]? := fun k => by rw [e, List.getElem?_append_right (by simp)]; simp
    rw [show (j + 1) * 2 = j * 2 + 2 by omega, show j * 2 + 2 + 1 = (j * 2 + 1) + 2 by omega, sh, sh]
    exact ih
theorem flatP_set : ∀ (l : List P2) (k : Nat) (y : P2), k < l.length → ((flatP l).set (k * 2) (.int .i64 y.1)).set (k * 2 + 1) (.int .i64 y.2) = flatP (l.set k y)
  | z :: l, 0, y, _ => rfl
  | z :: l, k + 1, y, h => by
    have ih := flatP_set l k y (by simpa using h)
    rw [List.set_cons_succ, show (k + 1) * 2 = k * 2 + 2 by omega]
    show .int .i64 z.1 :: .int .i64 z.2 :: ((flatP l).set (k * 2) _).set (k * 2 + 1) _ = .int .i64 z.1 :: .int .i64 z.2 :: flatP (l.set k y)
    rw [ih]
theorem newsP {w : World} {C b off : Nat} {k : List P2} (hf : ∀ j (h : j < k.length), w.cell? ⟨b, off + j * 2, none⟩ = some (.int .i64 k[j].1) ∧ w.cell? ⟨b, off + j * 2 + 1, none⟩ = some (.int .i64 k[j].2)) :
    ∀ j u, (flatP k)[j]? = some u → w.cell? ((⟨b, off, none⟩ : Addr).add j) = some u := fun j u hj => by
  rw [p_add]
  have hjl : j < (flatP k).length := by
    rcases Nat.lt_or_ge j (flatP k).length with h | h
    · exact h
    · rw [List.getElem?_eq_none h] at hj; cases hj
  rw [flatP_len] at hjl
  have hd : j = j / 2 * 2 + j % 2 := by omega
  obtain ⟨e0, e1⟩ := flatP_at k (j / 2) (by omega)
  obtain ⟨c0, c1⟩ := hf (j / 2) (by omega)
  have hm : j % 2 = 0 ∨ j % 2 = 1 := by omega
  rcases hm with hm | hm
  · rw [hm, Nat.add_zero] at hd
    rw [hd] at hj ⊢
    rw [e0] at hj
    rw [c0, hj]
  · rw [hm] at hd
    rw [hd] at hj ⊢
    rw [e1] at hj
    rw [show off + (j / 2 * 2 + 1) = off + j / 2 * 2 + 1 by omega, c1, hj]
theorem oneP {k : List P2} : ∀ u ∈ flatP k, u.oneCell' = true := fun u hu => by
  unfold flatP at hu
  obtain ⟨y, _, hy⟩ := List.mem_flatMap.1 hu
  simp at hy
  rcases hy with rfl | rfl <;> rfl
/-- The call's own pairs. -/
def Own2 (t : TypeId) (w : World) (B : Nat) (v : Value) (l : List P2) : Prop := w.ownsRow B t 2 v l.length (flatP l)
theorem Own2.nil (t : TypeId) (w : World) (B : Nat) : Own2 t w B (.slice none 0 0) [] := World.ownsRow_nil _ _ _ _
theorem Own2.made (t : TypeId) (w : World) : Own2 t (w.alloc (.cells #[] t)) w.heap.size (.slice (some ⟨w.heap.size, 0, none⟩) 0 0) [] := World.ownsRow_made w #[] 0 (Nat.le_refl _) (by decide) rfl
theorem Own2.lies {t : TypeId} {w : World} {B : Nat} {v : Value} {l : List P2} (h : Own2 t w B v l) : ∃ A c, v = .slice A l.length c ∧ PAt w w.heap.size A l := by
  unfold Own2 at h
  have hc := fun g hg => h.cells (g := g) hg
  have hlt := h.lt
  rcases h.2 with ⟨rfl, h0⟩ | ⟨g, cap, cur, rfl, _⟩
  · have e : l = [] := List.eq_nil_of_length_eq_zero h0
    subst e
    exact ⟨none, 0, rfl, PAt.nil _ _ _⟩
  · refine ⟨_, _, rfl, fun _ => ⟨g, 0, rfl, (hlt g rfl).2, fun j hj => ?_⟩⟩
    obtain ⟨e0, e1⟩ := flatP_at l j hj
    have k0 := hc g rfl _ _ e0
    have k1 := hc g rfl _ _ e1
    rw [p_add] at k0 k1
    exact ⟨k0, k1⟩
theorem Own2.len {t : TypeId} {w : World} {B n c : Nat} {A : Option Addr} {l : List P2} (h : Own2 t w B (.slice A n c) l) : l.length = n := by
  rcases h.2 with ⟨e, h0⟩ | ⟨g, cap, cur, e, _⟩
  · simp at e; omega
  · simp at e; omega
theorem Own2.set {t : TypeId} {w : World} {B g cap n : Nat} {l : List P2} (h : Own2 t w B (.slice (some ⟨g, 0, none⟩) n cap) l) (k : Nat) (y : P2) (hk : k < l.length) :
    Own2 t ((w.setCell ⟨g, k * 2, none⟩ (.int .i64 y.1)).setCell ⟨g, k * 2 + 1, none⟩ (.int .i64 y.2)) B (.slice (some ⟨g, 0, none⟩) n cap) (l.set k y) := by
  obtain rfl := h.len
  unfold Own2 at *
  rw [List.length_set, ← flatP_set l k y hk]
  exact ((h.stored (k * 2) _).1.stored (k * 2 + 1) _).1
/-- Rows where their blocks are as they were. -/
theorem r_same {w w' : World} {B n size : Nat} {e : TypeId} {v : Value} {xs : List Value} (h : w.ownsRow B e size v n xs) (hh : ∀ g, v.ownBlock = some g → w'.heap[g]? = w.heap[g]?) : w'.ownsRow B e size v n xs := by
  refine ⟨h.1, ?_⟩
  rcases h.2 with h' | ⟨g, cap, cur, rfl, hb, hg, r⟩
  · exact .inl h'
  · exact .inr ⟨g, cap, cur, rfl, hb, (hh g rfl).trans hg, r⟩
theorem r_mono {w : World} {B C n size : Nat} {e : TypeId} {v : Value} {xs : List Value} (h : w.ownsRow B e size v n xs) (hC : C ≤ B) : w.ownsRow C e size v n xs :=
  ⟨h.1, h.2.imp id fun ⟨g, cap, cur, e, hb, r⟩ => ⟨g, cap, cur, e, Nat.le_trans hC hb, r⟩⟩
theorem r_later {u u' : World} {B n size : Nat} {e : TypeId} {v : Value} {xs : List Value} (h : u.ownsRow B e size v n xs) (hb : Below u.heap.size u u') : u'.ownsRow B e size v n xs :=
  r_same h fun g hgv => hb.block g (h.lt g hgv).2
theorem r_apart {w : World} {B n size k : Nat} {e t : TypeId} {v : Value} {xs : List Value} {cs : Array Value} (h : w.ownsRow B e size v n xs) (hk : Held w k t cs) (ht : t ≠ e) : ∀ g, v.ownBlock = some g → g ≠ k := by
  rintro g hg rfl
  rcases h.2 with ⟨rfl, _⟩ | ⟨g', cap, cur, rfl, _, hh, _⟩
  · simp [Value.ownBlock] at hg
  · simp only [Value.ownBlock, Option.some.injEq] at hg
    subst hg
    rw [Held] at hk
    rw [hk] at hh
    simp at hh
    exact ht hh.2
theorem r_form {w : World} {B size n : Nat} {e : TypeId} {v : Value} {xs : List Value} (h : w.ownsRow B e size v n xs) (h0 : 0 < n) : ∃ g c, v = .slice (some ⟨g, 0, none⟩) n c := by
  rcases h.2 with ⟨_, e0⟩ | ⟨g, cap, cur, e, _⟩
  · omega
  · exact ⟨g, cap, e⟩
theorem r_fz {w : World} {B size n c g : Nat} {e : TypeId} {xs : List Value} (h : w.ownsRow B e size (.slice (some ⟨g, 0, none⟩) n c) n xs) (i : Nat) : w.frozen? ⟨g, i, none⟩ = false := by
  rcases h.2 with ⟨e0, _⟩ | ⟨g', cap, cur, e, _, hg, _⟩
  · simp at e0
  · simp only [Value.slice.injEq, Option.some.injEq, Addr.mk.injEq, and_true, true_and] at e
    obtain ⟨rfl, rfl⟩ := e
    exact fz_at hg i
theorem own2_cells {t : TypeId} {w : World} {B n c g : Nat} {l : List P2} (h : Own2 t w B (.slice (some ⟨g, 0, none⟩) n c) l) {k : Nat} (hk : k < l.length) :
    w.cell? ⟨g, k * 2, none⟩ = some (.int .i64 l[k].1) ∧ w.cell? ⟨g, k * 2 + 1, none⟩ = some (.int .i64 l[k].2) ∧ w.frozen? ⟨g, k * 2, none⟩ = false ∧ w.frozen? ⟨g, k * 2 + 1, none⟩ = false := by
  obtain rfl := h.len
  obtain ⟨e0, e1⟩ := flatP_at l k hk
  exact ⟨(h.cellAt (k * 2) (by omega)).trans e0, (h.cellAt (k * 2 + 1) (by omega)).trans e1, r_fz h _, r_fz h _⟩
theorem own2_at {t : TypeId} {w : World} {B n c : Nat} {A : Option Addr} {l : List P2} (h : Own2 t w B (.slice A n c) l) : PAt w w.heap.size A l := by
  obtain ⟨A9, c9, e9, hv9⟩ := h.lies
  simp only [Value.slice.injEq] at e9
  obtain ⟨rfl, _, rfl⟩ := e9
  exact hv9
theorem own2_held {t : TypeId} {w : World} {B g : Nat} {l : List P2} (h : Held w g t (flatP l).toArray) (hB : B ≤ g) (hl : l.length ≤ 1000000) : Own2 t w B (.slice (some ⟨g, 0, none⟩) l.length l.length) l := by
  refine ⟨flatP_len l, .inr ⟨g, l.length, (flatP l).toArray, rfl, hB, h, Nat.le_refl _, by unfold maxLen; omega, ?_, ?_⟩⟩
  · simp [flatP_len]
  · rw [← flatP_len l]
    simp
theorem row_far0 (w : World) (g : Nat) (cs : Array Value) (k : Nat) (hk : k ≠ g) : (w.setRow g cs).heap[k]? = w.heap[k]? := by
  simp [World.setRow, Array.getElem?_modify, Ne.symm hk]
theorem held_row {W : World} {g k : Nat} {t : TypeId} {cs : Array Value} (h : Held W g t cs) (hk : g ≠ k) (cs' : Array Value) : Held (W.setRow k cs') g t cs := (row_far0 W k cs' g hk).trans h
theorem held_rowSelf {W : World} {g : Nat} {t : TypeId} {cs : Array Value} (h : Held W g t cs) (cs' : Array Value) : Held (W.setRow g cs') g t cs' := setRow_heap W g cs cs' t (0, 0) h
theorem held_grown {w w' : World} {g : Nat} {t : TypeId} {cs : Array Value} {row : Option Nat} (h : Held w g t cs) (hg : w.grownBy w' row) (hr : row ≠ some g) : Held w' g t cs := (hg.block g h.lt (Ne.symm hr)).trans h
/-- One pair, in a block of its own. -/
theorem one2_at {t : TypeId} {w : World} (x y : Int) : PAt (w.alloc (.cells #[.int .i64 x, .int .i64 y] t)) (w.alloc (.cells #[.int .i64 x, .int .i64 y] t)).heap.size (some ⟨w.heap.size, 0, none⟩) [(x, y)] := fun _ => by
  have h := Held.new w t #[.int .i64 x, .int .i64 y]
  refine ⟨_, _, rfl, h.lt, fun j hj => ?_⟩
  obtain rfl : j = 0 := by simpa using hj
  exact ⟨h.cell 0, h.cell 1⟩
/-- Refs appended. -/
theorem infoR : (Tryz.prog.info? 36).map (fun i => (i.zero, i.size, i.bytes)) = some (some (.agg #[.int .i64 0, .int .i64 0]), 2, 16) := by kernel_rfl
abbrev OwnR (w : World) (B : Nat) (v : Value) (l : List P2) : Prop := Own2 36 w B v l
theorem wpList_append_rs {w : World} {ops : Array Oper} {rest : List Oper} {o : Oper} {a : Act} {Q : Exit → Act → World → Prop}
    (hg : o.guard = none) (s x : Operand) (hop : o.op = Op.call { callee := Callee.builtin Builtin.append, args := #[s, x], argTypes := #[34, 34] })
    (B : Nat) (v : Value) (l : List P2) (hs : a.eval s = v) (own : OwnR w B v l) {A : Option Addr} {k : List P2} {n c C : Nat} (hn : k.length = n) (hx : a.eval x = .slice A n c) (hc : PAt w C A k)
    (h1 : 1 ≤ n) (hlen : l.length + n ≤ 1000000) (hB : B ≤ w.heap.size)
    (h : ∀ v' w', OwnR w' B v' (l ++ k) → w.grownBy w' v.ownBlock → (∀ b, v'.ownBlock = some b → v.ownBlock = some b ∨ w.heap.size ≤ b) → wpList Tryz.prog ops Q rest (a.put o.dst v') w') : wpList Tryz.prog ops Q (o :: rest) a w := by
  subst hn
  obtain ⟨b, off, rfl, hbC, hf⟩ := hc (by omega)
  obtain ⟨q, hi, hz0, hz1, hz2⟩ := info_parts infoR
  refine wpList_append_lies _ hg s x 34 hop B 36 q (.agg #[.int .i64 0, .int .i64 0]) 2 16 Tryz.underlying34 hi hz0 hz1 hz2 rfl (by decide) v l.length (flatP l) hs own ⟨b, off, none⟩ k.length c
    (flatP k) hx (flatP_len k) (newsP (C := C) hf) oneP (by omega) (by unfold maxLen; omega) (by omega) hB _ rfl ?_
  intro g cap w' k1 k2 k3 k4
  refine h _ w' ?_ k2 ?_
  · unfold OwnR Own2
    rw [List.length_append, flatP_append]
    exact k1
  · intro b hb
    simp only [Value.ownBlock, Option.some.injEq] at hb
    subst hb
    rcases k3 with k3 | k3
    · exact .inl k3
    · exact .inr (by omega)
end Go.Proofs.YtjibkgildfjjoaaGreatDoor

/- The steps of drawn regions; lists built; rows stored, loaded. -/
namespace Go.Proofs.YtjibkgildfjjoaaGreatDoor
set_option linter.unusedVariables false
set_option linter.unusedSimpArgs false
open Go.RowKit Go.ChangeShapes Go.WideShapes Go.ChangeAt Go.Sort

theorem wp_build1R {o : Oper} {a : Act} {w : World} {K : Act → World → Prop} {Q : Exit → Act → World → Prop} {x : Operand} {p q : Int} (ho : o.op = .buildSlice 34 1 #[(0, x)]) (hx : a.eval x = .agg #[.int .i64 p, .int .i64 q])
    (h : K (a.put o.dst (.slice (some ⟨w.heap.size, 0, none⟩) 1 1)) (w.alloc (.cells #[.int .i64 p, .int .i64 q] 36))) : o.wp Tryz.prog a w K Q := by
  obtain ⟨i, hi, hz0, hz1, hz2⟩ := info_parts infoR
  exact wp_buildSlice 34 36 1 _ ho _ i _ Tryz.underlying34 hi hz0 (by rw [hz1]; decide) (by rw [hz1]; decide) (by simp only [List.map_toArray, List.map_cons, List.map_nil, hx, hz1]; kernel_rfl) h
/-- That no operation is a select is said once for a region. -/
theorem wpAnyH_begin {P : Program} {ops : Array Oper} {Q : Exit → Act → World → Prop} {md : Region.Mode} {S : World → Prop} {fuel : Nat} {listed : Array Bool} {a : Act} {w : World} (hs : Region.noSelect ops = true) (h : Hid (Region.noSelect ops = true) → wpAnyH P md ops Q S fuel listed a w) : wpAnyH P md ops Q S fuel listed a w := h hs
theorem wpAnyH_takeS {P : Program} {ops : Array Oper} {Q : Exit → Act → World → Prop} {md : Region.Mode} {S : World → Prop} {i : Nat} {oi : Oper} {v : Value} {fuel : Nat} {listed : Array Bool} {a : Act} {w : World} (HS : Hid (Region.noSelect ops = true)) (hi : ops[i]? = some oi)
    (hf : Region.free md ops listed i = true) (hr : (Region.ready md ops listed).contains i = true) (hQ : ∀ c a w, Q (.panic c) (a.put oi.dst v) w → Q (.panic c) a w) (hy : YieldsIf P ops S oi v a) (hS : S w)
    (h : wpAnyH P md ops Q S fuel (listed.setIfInBounds i true) (a.put oi.dst v) w) : wpAnyH P md ops Q S (fuel + 1) listed a w :=
  wpAnyH_take hi HS.out hf hr hQ hy hS h
theorem join2 {S : World → Value → Value → Prop} {G : Prop} {H : World → Value → Value → Prop} (both : (∀ W x y, H W x y → S W x y) → G) (key : ∀ W x y, H W x y → S W x y) : G := both key
theorem wp_alloc_R {P : Program} {w : World} {o : Oper} {a : Act} {K : Act → World → Prop} {Q : Exit → Act → World → Prop} (t : TypeId) (ho : o.op = .alloc t) (c : Array Value)
    (hz : (P.info? t).map (·.zero) = some (some (.agg c))) (h : K (a.put o.dst (.pointer (some ⟨w.heap.size, 0, none⟩))) (w.alloc (.cells c t))) : o.wp P a w K Q := by
  cases hq : P.info? t with
  | none => simp [hq] at hz
  | some i =>
    simp [hq] at hz
    have hrun : (Instr.alloc t true (.tuple #[])).run P w = .ok (.pointer (some ⟨w.heap.size, 0, none⟩)) (w.alloc (.cells c t)) := by
      simp [Instr.alloc, zeroValue, typeInfo, hq, hz, newVar, newRow, Value.cells]
    unfold Oper.wp execOp
    simp only [ho, Sem.run_bind, hrun, Result.andThen_ok]
    exact h
/-- A row out of the middle of a block. -/
theorem wpList_load_midA {P : Program} {ops : Array Oper} {rest : List Oper} {op : Oper} {a : Act} {w : World} {Q : Exit → Act → World → Prop} (hgd : op.guard = none) (ty : TypeId) (x : Operand) (ho : op.op = .load ty x)
    (b o : Nat) (hx : a.eval x = .pointer (some ⟨b, o, none⟩)) (cs : Array Value) (d : TypeDesc) (hc : w.rangeAt b o cs.toList)
    (hu : P.underlying ty = some d) (hd : d.isRow = true) (hi : (P.info? ty).map (·.size) = some cs.size)
    (h : wpList P ops Q rest (a.put op.dst (.agg cs)) w) : wpList P ops Q (op :: rest) a w :=
  wpList_load_mid hgd ty x ho b o hx cs.toList d hc hu hd (by rw [hi]; simp) (by simpa using h)
theorem yieldsIf_load_midA {P : Program} {ops : Array Oper} {S : World → Prop} {op : Oper} {a : Act} (hw : Region.wanted op (yielded ops a.tmps) = true) (ty : TypeId) (x : Operand) (ho : op.op = .load ty x)
    (b o : Nat) (hx : a.eval x = .pointer (some ⟨b, o, none⟩)) (cs : Array Value) (d : TypeDesc) (hS : ∀ w, S w → w.rangeAt b o cs.toList)
    (hu : P.underlying ty = some d) (hd : d.isRow = true) (hi : (P.info? ty).map (·.size) = some cs.size) : YieldsIf P ops S op (.agg cs) a := by
  have := yieldsIf_load_mid (P := P) (ops := ops) (S := S) hw ty x ho b o hx cs.toList d hS hu hd (by rw [hi]; simp)
  simpa using this
theorem wpList_box_arr {P : Program} {ops : Array Oper} {rest : List Oper} {o : Oper} {a : Act} {w : World} {Q : Exit → Act → World → Prop} (hg : o.guard = none) (t : TypeId) (x : Operand) (ho : o.op = .box t x)
    (cells : Array Value) (hx : a.eval x = .agg cells) (h : wpList P ops Q rest (a.put o.dst (.pointer (some ⟨w.heap.size, 0, none⟩))) (w.alloc (.cells cells t))) : wpList P ops Q (o :: rest) a w := by
  refine wpList_plain hg fun K hK => ?_
  unfold Oper.wp execOp
  simp only [ho, Sem.run_bind, Instr.box, newVar, newRow, run_newObj_alloc, Sem.run_pure, Result.andThen_ok, hx, Value.cells]
  exact hK _ _ h
/-- A guarded operation that is done. -/
theorem wpList_done {P : Program} {w : World} {ops : Array Oper} {rest : List Oper} {o : Oper} {a : Act} {Q : Exit → Act → World → Prop}
    (hw : Region.wanted o (yielded ops a.tmps) = true) (h : wpList P ops Q ({ o with guard := none } :: rest) a w) : wpList P ops Q (o :: rest) a w := by
  unfold wpList at h ⊢
  rw [if_pos hw]
  rw [if_pos (by simp [Region.wanted])] at h
  exact h
theorem infoI : (Tryz.prog.info? 3).map (fun i => (i.zero, i.size, i.bytes)) = some (some (.int .i64 0), 1, 8) := by kernel_rfl
end Go.Proofs.YtjibkgildfjjoaaGreatDoor

/- Layer 11: the document's comparisons of refs and rings, and whether a ring may be. -/
namespace Go.Proofs.YtjibkgildfjjoaaGreatDoor
set_option linter.unusedVariables false
set_option linter.unusedSimpArgs false
open Go.RowKit Go.ChangeShapes Go.WideShapes Go.ChangeAt Go.Sort

abbrev rgv (A : Option Addr) (n c : Nat) (h m t : Int) : Value := .agg #[.slice A n c, .int .i64 h, .int .i64 m, .int .i64 t]
theorem neqr_run (a b c d : Int) (W : World) : (binOp .neq 36 (gv a b) (gv c d)).run Tryz.prog W = .ok (.bool (decide ((a, b) ≠ (c, d)))) W := by
  by_cases h1 : a = c <;> by_cases h2 : b = d <;> simp [go_sem, h1, h2]
theorem eqr_run (a b c d : Int) (W : World) : (binOp .eql 36 (gv a b) (gv c d)).run Tryz.prog W = .ok (.bool (decide ((a, b) = (c, d)))) W := by
  by_cases h1 : a = c <;> by_cases h2 : b = d <;> simp [go_sem, h1, h2]
set_option maxHeartbeats 1000000 in
set_option maxRecDepth 100000 in
theorem rrefs_any {A A2 : Option Addr} {l k : List P2} {B B' : Nat} (c c2 : Nat) (w : World) (h1 : PAt w B A l) (h2 : PAt w B' A2 k) (hl : l.length ≤ 100000) (hk : k.length ≤ 100000) :
    Calls Tryz.prog 12 #[.slice A l.length c, .slice A2 k.length c2] w fun e w' => e = .returned (.bool (decide (l = k))) ∧ Below w.heap.size w w' := by
  have H1 := Lib.hid h1
  have H2 := Lib.hid h2
  clear h1 h2
  by_cases hlen : l.length = k.length
  · have hl2 : (l.length : Int) ≤ 100000 := by omega
    have ne : ((l.length : Int) != (k.length : Int)) = false := by simp [hlen]
    have HLN := Lib.hid hlen
    obtain ⟨R, hR⟩ : ∃ R : Bool, R = decide (l = k) := ⟨_, rfl⟩
    rw [← hR]
    have HR := Lib.hid hR
    clear hR hlen
    go_enter Tryz.func12, Tryz.ntmps12
    go_wp2_with fail
    go_loopw [5] (fun iv W => ∃ j : Nat, iv = .int .i64 j ∧ j ≤ l.length ∧ l.take j = k.take j ∧ Below w.heap.size w W) (fun iv _ => l.length - (intOf iv).toNat)
    case atStart => exact ⟨0, rfl, by omega, by simp, Below.refl _ _⟩
    case round =>
      obtain ⟨j, rfl, hj, htk, hw⟩ := hrel
      have HTK := Lib.hid htk
      clear htk
      by_cases hlt : j < l.length
      · have hltk : j < k.length := by have := HLN.out; omega
        obtain ⟨b1, off1, rfl, _, hc1⟩ := H1.out (by omega)
        obtain ⟨b2, off2, rfl, _, hc2⟩ := H2.out (by omega)
        obtain ⟨a0, a1⟩ := hc1 j hlt
        obtain ⟨d0, d1⟩ := hc2 j hltk
        replace a0 := (hw.cell (p := ⟨b1, off1 + j * 2, none⟩) (block_lt_of_cell a0)).trans a0
        replace a1 := (hw.cell (p := ⟨b1, off1 + j * 2 + 1, none⟩) (block_lt_of_cell a1)).trans a1
        replace d0 := (hw.cell (p := ⟨b2, off2 + j * 2, none⟩) (block_lt_of_cell d0)).trans d0
        replace d1 := (hw.cell (p := ⟨b2, off2 + j * 2 + 1, none⟩) (block_lt_of_cell d1)).trans d1
        clear hc1 hc2
        have T1 := Lib.hid (List.take_succ_eq_append_getElem hlt)
        have T2 := Lib.hid (List.take_succ_eq_append_getElem hltk)
        have G1 := Lib.hid (List.getElem?_eq_getElem hlt)
        have G2 := Lib.hid (List.getElem?_eq_getElem hltk)
        have hlt2 : (j : Int) < l.length := by omega
        have hltk2 : (j : Int) < k.length := by omega
        have hj0 : (0 : Int) ≤ j := Int.natCast_nonneg j
        generalize l[j] = v at *
        generalize k[j] = u at *
        by_cases hvu : v = u
        · subst hvu
          have NE : ∀ W, (binOp .neq 36 (gv v.1 v.2) (gv v.1 v.2)).run Tryz.prog W = .ok (.bool false) W := fun W => by rw [neqr_run]; simp
          go_wp2_with fail
          go_quiet (fail)
          go_wp2_with fail
          go_roundw
          case rel => exact ⟨j + 1, by go_num, by omega, by rw [T1.out, T2.out, HTK.out], below_drewN hw _⟩
          case measure => simp [intOf]; omega
        · have NE : ∀ W, (binOp .neq 36 (gv v.1 v.2) (gv u.1 u.2)).run Tryz.prog W = .ok (.bool true) W := fun W => by rw [neqr_run, decide_eq_true (show (v.1, v.2) ≠ (u.1, u.2) from hvu)]
          have hno : R = false := by
            rw [HR.out]
            refine decide_eq_false fun e => hvu ?_
            have g1 := G1.out
            rw [e, G2.out] at g1
            exact (Option.some.inj g1).symm
          subst hno
          clear hvu
          go_wp2_with fail
          go_quiet (fail)
          go_wp2_with fail
          go_ret
          exact ⟨rfl, below_drewN hw _⟩
      · obtain rfl : j = l.length := by omega
        have hyes : R = true := by
          rw [HR.out]
          refine decide_eq_true ?_
          have := HTK.out
          rwa [List.take_length, List.take_of_length_le (by rw [HLN.out]; exact Nat.le_refl _)] at this
        subst hyes
        go_wp2_with fail
        go_ret
        exact ⟨rfl, hw⟩
  · have ne : ((l.length : Int) != (k.length : Int)) = true := by simpa using fun e : (l.length : Int) = k.length => hlen (by omega)
    have hno : decide (l = k) = false := decide_eq_false fun e => hlen (by rw [e])
    rw [hno]
    clear hno hlen
    go_enter Tryz.func12, Tryz.ntmps12
    go_wp2_with fail
    go_ret
    exact ⟨rfl, Below.refl _ _⟩
theorem rsmallr_any (A : Option Addr) (n c : Nat) (h m t : Int) : Ct Tryz.prog 26 #[rgv A n c h m t] (.bool (decide (n ≤ 60))) := fun w => by
  by_cases hn : n ≤ 60
  · have e : decide (n ≤ 60) = true := decide_eq_true hn
    have e2 : decide ((n : Int) ≤ 60) = true := decide_eq_true (by omega)
    rw [e]
    clear hn e
    go_enter Tryz.func26, Tryz.ntmps26
    go_wp2_with fail
    go_ret
    exact ⟨rfl, (Below.refl _ _).alloc (Nat.le_refl _) _⟩
  · have e : decide (n ≤ 60) = false := decide_eq_false hn
    have e2 : decide ((n : Int) ≤ 60) = false := decide_eq_false (by omega)
    rw [e]
    clear hn e
    go_enter Tryz.func26, Tryz.ntmps26
    go_wp2_with fail
    go_ret
    exact ⟨rfl, (Below.refl _ _).alloc (Nat.le_refl _) _⟩
set_option maxHeartbeats 1000000 in
theorem rmayr_any (A : Option Addr) (n c : Nat) (h m t : Int) : Ct Tryz.prog 21 #[rgv A n c h m t] (.bool (mayN n h m t)) := fun w => by
  have hb : Below w.heap.size w (w.alloc (.cells #[.slice A n c, .int .i64 h, .int .i64 m, .int .i64 t] 54)) := (Below.refl _ _).alloc (Nat.le_refl _) _
  have hm : mayN n h m t = mayN n h m t := rfl
  have HM : Hid (mayN n h m t = (decide (1 ≤ t) && decide (t ≤ 1024) && (decide (1 ≤ (n : Int)) && decide ((n : Int) ≤ t)) && (decide (0 ≤ h) && decide (h < n)) && (decide (0 ≤ m) && decide (m ≤ n)))) := Lib.hid rfl
  generalize mayN n h m t = R at *
  clear hm
  go_enter Tryz.func21, Tryz.ntmps21
  go_wp2_with fail
  all_goals
    go_ret
    rw [HM.out]
    refine ⟨ret_bool ?_, hb⟩
    rw [Bool.eq_iff_iff]
    simp
    try omega
end Go.Proofs.YtjibkgildfjjoaaGreatDoor

/- Layer 11: the document's Items. -/
namespace Go.Proofs.YtjibkgildfjjoaaGreatDoor
set_option linter.unusedVariables false
set_option linter.unusedSimpArgs false
open Go.RowKit Go.ChangeShapes Go.WideShapes Go.ChangeAt Go.Sort

theorem tyGR : 54 ≠ 36 := by decide
/-- What a call leaves that tells a list. -/
def ListQ (w : World) (l : List P2) (e : Ending) (w' : World) : Prop := ∃ A c, e = .returned (.slice A l.length c) ∧ OwnR w' w.heap.size (.slice A l.length c) l ∧ Below w.heap.size w w'
set_option maxHeartbeats 2000000 in
set_option maxRecDepth 100000 in
theorem ritems_no {A : Option Addr} {r : Rng} (c : Nat) (w : World) (h : mayR r = false) : Calls Tryz.prog 20 #[rgv A r.buf.length c r.head r.many r.most] w (ListQ w (itemsR r)) := by
  have he : itemsR r = [] := by unfold itemsR; rw [h]; rfl
  rw [he]
  have CM := rmayr_any A r.buf.length c r.head r.many r.most
  rw [show mayN r.buf.length r.head r.many r.most = false from h] at CM
  clear h he
  obtain ⟨b, hd, m, t⟩ := r
  simp only at CM ⊢
  generalize b.length = n at *
  have hx := (Held.new w 54 #[.slice A n c, .int .i64 hd, .int .i64 m, .int .i64 t]).alloc (.cells #[] 36)
  have ho := Own2.made 36 (w.alloc (.cells #[.slice A n c, .int .i64 hd, .int .i64 m, .int .i64 t] 54))
  have hb0 := below2 w (.cells #[.slice A n c, .int .i64 hd, .int .i64 m, .int .i64 t] 54) (.cells #[] 36)
  have hs1 : (w.alloc (.cells #[.slice A n c, .int .i64 hd, .int .i64 m, .int .i64 t] 54)).heap.size = w.heap.size + 1 := by simp
  rw [hs1] at ho
  have HO := Lib.hid ho
  have HB0 := Lib.hid hb0
  clear ho hb0 hs1
  go_enter Tryz.func20, Tryz.ntmps20
  go_wp2_with fail
  generalize (w.alloc (.cells #[.slice A n c, .int .i64 hd, .int .i64 m, .int .i64 t] 54)).alloc (.cells #[] 36) = W0 at *
  go_loopw [4, 3] (fun iv sv wr => iv = .int .i64 0 ∧ sv = .slice (some ⟨w.heap.size + 1, 0, none⟩) 0 0 ∧ wr = W0) (fun _ _ _ => 0)
  case atStart => exact ⟨rfl, rfl, rfl⟩
  case round =>
    obtain ⟨rfl, rfl, rfl⟩ := hrel
    have x0 := hx.cell 0
    have x1 := hx.cell 1
    have x2 := hx.cell 2
    have x3 := hx.cell 3
    simp at x0 x1 x2 x3
    cases hm : decide ((0 : Int) < m)
    all_goals go_wp2_with (go_at_call 21; (with_reducible refine (CM.go _).mono ?_); rintro _ u ⟨rfl, hb⟩)
    · go_ret
      exact ⟨_, _, rfl, r_mono HO.out (Nat.le_succ _), HB0.out⟩
    · go_ret
      exact ⟨_, _, rfl, r_mono (r_later HO.out hb) (Nat.le_succ _), Below.step HB0.out hb⟩
set_option maxHeartbeats 4000000 in
set_option maxRecDepth 100000 in
theorem ritems_yes {A : Option Addr} {b : List P2} {hd m t B : Nat} (c : Nat) (w : World) (hp : PAt w B A b) (hB : B ≤ w.heap.size) (h : mayR ⟨b, hd, m, t⟩ = true) (ht : t ≤ 1024) (hbt : b.length ≤ t) (hhd : hd < b.length) (hm : m ≤ b.length) :
    Calls Tryz.prog 20 #[rgv A b.length c hd m t] w (ListQ w (itemsN b hd m)) := by
  have CM := rmayr_any A b.length c hd m t
  rw [show mayN b.length (hd : Int) (m : Int) (t : Int) = true from h] at CM
  obtain ⟨gb, ob, rfl, hgb, hcb⟩ := hp (by omega)
  have hx := (Held.new w 54 #[.slice (some ⟨gb, ob, none⟩) b.length c, .int .i64 hd, .int .i64 m, .int .i64 t]).alloc (.cells #[] 36)
  have ho := Own2.made 36 (w.alloc (.cells #[.slice (some ⟨gb, ob, none⟩) b.length c, .int .i64 hd, .int .i64 m, .int .i64 t] 54))
  have hb0 := below2 w (.cells #[.slice (some ⟨gb, ob, none⟩) b.length c, .int .i64 hd, .int .i64 m, .int .i64 t] 54) (.cells #[] 36)
  have hs1 : (w.alloc (.cells #[.slice (some ⟨gb, ob, none⟩) b.length c, .int .i64 hd, .int .i64 m, .int .i64 t] 54)).heap.size = w.heap.size + 1 := by simp
  rw [hs1] at ho
  have HX := Lib.hid hx
  have HO := Lib.hid (r_mono ho (Nat.le_succ _) : OwnR _ w.heap.size _ [])
  have HB0 := Lib.hid hb0
  have HCB := Lib.hid hcb
  have HGB := Lib.hid (Nat.lt_of_lt_of_le hgb hB)
  have HBD := Lib.hid (And.intro ht (And.intro hbt (And.intro hhd hm)))
  clear ho hb0 hs1 hcb hgb hB hp h hx ht hbt hhd hm
  go_enter Tryz.func20, Tryz.ntmps20
  go_wp2_with fail
  generalize (w.alloc (.cells #[.slice (some ⟨gb, ob, none⟩) b.length c, .int .i64 hd, .int .i64 m, .int .i64 t] 54)).alloc (.cells #[] 36) = W0 at *
  go_loopw [4, 3] (fun iv sv wr => ∃ (j : Nat) (A9 : Option Addr) (c9 : Nat), iv = .int .i64 j ∧ sv = .slice A9 j c9 ∧ j ≤ m ∧ OwnR wr w.heap.size (.slice A9 j c9) (itemsN b hd j) ∧ Held wr w.heap.size 54 #[.slice (some ⟨gb, ob, none⟩) b.length c, .int .i64 hd, .int .i64 m, .int .i64 t] ∧ Below w.heap.size w wr) (fun iv _ _ => m - (intOf iv).toNat)
  case atStart => exact ⟨0, _, _, rfl, rfl, Nat.zero_le _, HO.out, HX.out, HB0.out⟩
  case round =>
    obtain ⟨j, A9, c9, rfl, rfl, hj, hol, hx, hbw⟩ := hrel
    obtain ⟨ht, hbt, hhd, hm⟩ := HBD.out
    have x0 := hx.cell 0
    have x1 := hx.cell 1
    have x2 := hx.cell 2
    have x3 := hx.cell 3
    simp at x0 x1 x2 x3
    by_cases hlt : j < m
    · have hlt2 : (j : Int) < m := by omega
      have hj0 : (0 : Int) ≤ j := Int.natCast_nonneg j
      have hd0 : (0 : Int) ≤ hd := Int.natCast_nonneg hd
      have hj1 : (j : Int) ≤ 1024 := by omega
      have hd1 : (hd : Int) ≤ 1024 := by omega
      have hb1 : (b.length : Int) ≤ 1024 := by omega
      have hi : idxR hd b.length j < b.length := idxN_lt hhd (by omega)
      obtain ⟨y0, y1⟩ := HCB.out _ hi
      replace y0 := (hbw.cell (p := ⟨gb, _, none⟩) HGB.out).trans y0
      replace y1 := (hbw.cell (p := ⟨gb, _, none⟩) HGB.out).trans y1
      have hgd : b.getD (idxR hd b.length j) (0, 0) = b[idxR hd b.length j] := by rw [List.getD_eq_getElem?_getD, List.getElem?_eq_getElem hi]; rfl
      have HSC := Lib.hid (itemsN_succ b hd j)
      rw [hgd] at HSC
      generalize b[idxR hd b.length j] = x at *
      obtain ⟨xa, xb⟩ := x
      simp only at y0 y1
      have hix : ((decide ((b.length : Int) ≤ (hd : Int) + j) = true ∧ (idxR hd b.length j : Int) = (hd : Int) + j - b.length) ∨ (decide ((b.length : Int) ≤ (hd : Int) + j) = false ∧ (idxR hd b.length j : Int) = (hd : Int) + j)) := by
        unfold idxR
        by_cases hc : b.length ≤ hd + j
        · exact .inl ⟨decide_eq_true (by omega), by rw [if_pos hc]; omega⟩
        · exact .inr ⟨decide_eq_false (by omega), by rw [if_neg hc]; omega⟩
      have hiI : (idxR hd b.length j : Int) < b.length := by omega
      have hi0 : (0 : Int) ≤ (idxR hd b.length j : Int) := Int.natCast_nonneg _
      generalize hI : idxR hd b.length j = I at *
      generalize hL : itemsN b hd j = L at *
      have hLl : L.length = j := by rw [← hL, itemsN_len]
      have HLL := Lib.hid hLl
      have HX := Lib.hid hx
      have HOL := Lib.hid hol
      have HBW := Lib.hid hbw
      clear hgd hL hLl hI hi hx hol hbw hbt hhd hm
      rcases hix with ⟨hc1, hc2⟩ | ⟨hc1, hc2⟩
      all_goals
        rw [hc2] at hiI hi0
        go_upto_region 8 with (go_at_call 21; (with_reducible refine (CM.go _).mono ?_); rintro _ u ⟨rfl, hb⟩; have hxu := HX.out.below hb; have x0 := hxu.cell 0; have x1 := hxu.cell 1; simp at x0 x1; have y0 := (hb.cell (p := ⟨gb, _, none⟩) (block_lt_of_cell y0)).trans y0; have y1 := (hb.cell (p := ⟨gb, _, none⟩) (block_lt_of_cell y1)).trans y1)
        have hiI2 : (I : Int) < b.length := by omega
        have hI0 : (0 : Int) ≤ (I : Int) := Int.natCast_nonneg _
        rw [← hc2]
        have hbA : Below u.heap.size u (u.alloc (.cells #[.int .i64 xa, .int .i64 xb] 36)) := (Below.refl _ _).alloc (Nat.le_refl _) _
        have HOA := Lib.hid (r_later (r_later HOL.out hb) hbA : OwnR _ w.heap.size (.slice A9 j c9) L)
        have HVA := Lib.hid (one2_at (t := 36) (w := u) xa xb)
        have HBB := Lib.hid (Below.step (Below.step HBW.out hb) hbA)
        have HLE := Lib.hid (show L.length + 1 ≤ 1000000 by rw [HLL.out]; omega)
        have HXA := Lib.hid (hxu.below hbA)
        have HNE : Hid ((Value.slice A9 j c9).ownBlock ≠ some w.heap.size) := Lib.hid (fun e => r_apart HOA.out HXA.out tyGR _ e rfl)
        have HKL := Lib.hid (show (L ++ [(xa, xb)]).length = j + 1 by rw [List.length_append, HLL.out]; rfl)
        clear hiI hi0 hc1 hc2 hbA hb hxu HX HOL HBW hd0 hd1 hb1
        go_wp2_with (at_builtin; refine wpList_append_rs (k := [(xa, xb)]) (n := 1) rfl _ _ rfl w.heap.size _ L rfl HOA.out rfl rfl HVA.out (Nat.le_refl _) HLE.out HBB.out.size ?_; intro v' u6 k1 k2 k3; obtain ⟨A', c', rfl, _⟩ := k1.lies; have K1 := Lib.hid k1; have K2 := Lib.hid k2; clear k1 k2 k3)
        go_roundw
        case rel =>
          refine ⟨j + 1, A', c', by go_num, by rw [HLL.out], by omega, ?_, held_grown HXA.out K2.out HNE.out, HBB.out.grown K2.out HBB.out.size (fun q e => (HOA.out.lt q e).1)⟩
          have h9 := K1.out
          rw [HKL.out, ← HSC.out] at h9
          exact h9
        case measure => simp [intOf]; omega
    · obtain rfl : j = m := by omega
      have hlt2 : decide ((j : Int) < j) = false := by simp
      have hll : (itemsN b hd j).length = j := itemsN_len _ _ _
      have HOL := Lib.hid hol
      have HLL := Lib.hid hll
      clear hol hll hlt hj hbt hhd hm ht
      go_wp2_with fail
      go_ret
      refine ⟨A9, c9, ?_, ?_, hbw⟩
      · rw [HLL.out]; rfl
      · rw [HLL.out]; exact HOL.out
theorem ritems_any {A : Option Addr} {r : Rng} {B : Nat} (c : Nat) (w : World) (hp : PAt w B A r.buf) (hB : B ≤ w.heap.size) : Calls Tryz.prog 20 #[rgv A r.buf.length c r.head r.many r.most] w (ListQ w (itemsR r)) := by
  cases h : mayR r with
  | false => exact ritems_no c w h
  | true =>
    obtain ⟨b, hd, m, t, rfl, h1, h2, h3, h4, h5, h6⟩ := ring_nat h
    rw [items_nat h]
    exact ritems_yes c w hp hB h h2 h4 h5 h6
end Go.Proofs.YtjibkgildfjjoaaGreatDoor

