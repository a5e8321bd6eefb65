/- Layer 12: cells and pens in memory, read and of one's own. -/
import Derived.Test.YtjibkgildfjjoaaDoorzRw
import Derived.Test.YtjibkgildfjjoaaDoorzYm
import Derived.Lib.SmallJoins
import Derived.Deep.SlicePairs
import Derived.Laws.Rows
import Derived.Test.YtjibkgildfjjoaaDoorzHd
namespace Go.Proofs.YtjibkgildfjjoaaDoor
set_option linter.unusedVariables false
set_option linter.unusedSimpArgs false
open Go.RowKit Go.ChangeShapes Go.WideShapes Go.ChangeAt Go.Sort

/-! Ints. -/
abbrev ivs (l : List Int) : List Value := l.map fun x => .int .i64 x
def IAt (w : World) (B : Nat) (A : Option Addr) (l : List Int) : Prop := 0 < l.length → ∃ b off, A = some ⟨b, off, none⟩ ∧ b < B ∧ ∀ j (h : j < l.length), w.cell? ⟨b, off + j, none⟩ = some (.int .i64 l[j])
theorem IAt.nil (w : World) (B : Nat) (A : Option Addr) : IAt w B A [] := fun h => absurd h (by simp)
theorem IAt.below {w w' : World} {B : Nat} {A : Option Addr} {l : List Int} (h : IAt w B A l) {C : Nat} (hb : Below C w w') (hC : B ≤ C) : IAt w' B A l := fun h0 => by
  obtain ⟨b, off, e, hlt, hc⟩ := h h0
  exact ⟨b, off, e, hlt, fun j hj => (hb.cell (p := ⟨b, off + j, none⟩) (by show b < C; omega)).trans (hc j hj)⟩
theorem IAt.more {w : World} {B C : Nat} {A : Option Addr} {l : List Int} (h : IAt w B A l) (hC : B ≤ C) : IAt w C A l := fun h0 => by
  obtain ⟨b, off, e, hlt, hc⟩ := h h0
  exact ⟨b, off, e, by omega, hc⟩
def OwnI (w : World) (B : Nat) (v : Value) (l : List Int) : Prop := w.ownsRow B 3 1 v l.length (ivs l)
theorem OwnI.nil (w : World) (B : Nat) : OwnI w B (.slice none 0 0) [] := World.ownsRow_nil _ _ _ _
theorem OwnI.made (w : World) : OwnI (w.alloc (.cells #[] 3)) w.heap.size (.slice (some ⟨w.heap.size, 0, none⟩) 0 0) [] := World.ownsRow_made w #[] 0 (Nat.le_refl _) (by decide) rfl
theorem OwnI.lies {w : World} {B : Nat} {v : Value} {l : List Int} (h : OwnI w B v l) : ∃ A c, v = .slice A l.length c ∧ IAt w w.heap.size A l := by
  unfold OwnI at h
  have hc := fun g hg => h.cells (g := g) hg
  have hlt := h.lt
  rcases h.2 with ⟨rfl, h0⟩ | ⟨g, cap, cur, rfl, _⟩
  · have e : l = [] := List.eq_nil_of_length_eq_zero h0
    subst e
    exact ⟨none, 0, rfl, IAt.nil _ _ _⟩
  · refine ⟨_, _, rfl, fun _ => ⟨g, 0, rfl, (hlt g rfl).2, fun j hj => ?_⟩⟩
    have k0 := hc g rfl j (.int .i64 l[j]) (by simp [hj])
    rwa [p_add] at k0
theorem OwnI.at {w : World} {B n c : Nat} {A : Option Addr} {l : List Int} (h : OwnI w B (.slice A n c) l) : IAt w w.heap.size A l := by
  obtain ⟨A', c', e, k⟩ := h.lies
  simp only [Value.slice.injEq] at e
  obtain ⟨rfl, _, rfl⟩ := e
  exact k
theorem oneI {l : List Int} : ∀ u ∈ ivs l, u.oneCell' = true := fun u hu => by
  obtain ⟨x, _, rfl⟩ := List.mem_map.1 hu
  rfl
theorem newsI {w : World} {b off : Nat} {k : List Int} (hf : ∀ j (h : j < k.length), w.cell? ⟨b, off + j, none⟩ = some (.int .i64 k[j])) : ∀ j u, (ivs k)[j]? = some u → w.cell? ((⟨b, off, none⟩ : Addr).add j) = some u := fun j u hj => by
  rw [p_add]
  have hjl : j < k.length := by
    have := (List.getElem?_eq_some_iff.1 hj).1
    simpa using this
  rw [hf j hjl]
  simpa [hjl] using hj
/-- Some ints appended. -/
theorem wpList_append_is {w : World} {ops : Array Oper} {rest : List Oper} {o : Oper} {a : Act} {Q : Exit → Act → World → Prop}
    (hg : o.guard = none) (s x : Operand) (hop : o.op = Op.call { callee := Callee.builtin Builtin.append, args := #[s, x], argTypes := #[27, 27] })
    (B : Nat) (v : Value) (l : List Int) (hs : a.eval s = v) (own : OwnI w B v l) {A : Option Addr} {k : List Int} {n c C : Nat} (hn : k.length = n) (hx : a.eval x = .slice A n c) (hc : IAt w C A k)
    (h1 : 1 ≤ n) (hlen : l.length + n ≤ 1000000) (hB : B ≤ w.heap.size)
    (h : ∀ A' m c' w', m = l.length + n → OwnI w' B (.slice A' m c') (l ++ k) → w.grownBy w' v.ownBlock → wpList Tryd.prog ops Q rest (a.put o.dst (.slice A' m c')) w') : wpList Tryd.prog ops Q (o :: rest) a w := by
  subst hn
  obtain ⟨b, off, rfl, hbC, hf⟩ := hc (by omega)
  obtain ⟨q, hi, hz0, hz1, hz2⟩ := info_parts infoI
  refine wpList_append_lies _ hg s x 27 hop B 3 q (.int .i64 0) 1 8 Tryd.underlying27 hi hz0 hz1 hz2 rfl (by decide) v l.length (ivs l) hs own ⟨b, off, none⟩ k.length c
    (ivs k) hx (by simp) (newsI hf) oneI (by omega) (by unfold maxLen; omega) (by omega) hB _ rfl ?_
  intro g cap w' k1 k2 k3 k4
  refine h _ _ _ w' rfl ?_ k2
  unfold OwnI ivs
  rw [List.length_append, List.map_append]
  exact k1
theorem run_zeroI (w : World) (g c c2 : Nat) (A : Option Addr) (ty : TypeId) : (Builtin.append_ #[27, 27] ty #[.slice (some ⟨g, 0, none⟩) 0 c, .slice A 0 c2]).run Tryd.prog w = .ok (.slice (some ⟨g, 0, none⟩) 0 c) w := by
  obtain ⟨i, hi, hz0, hz1, hz2⟩ := info_parts infoI
  cases A <;> simp [Builtin.append_, run_underlying Tryd.underlying27, sizeOf, typeInfo, hi, storeCells, loadCellsFrom, Builtin.lenOf, Builtin.firstCells, loadCells]
theorem wpList_append_is0 {w : World} {ops : Array Oper} {rest : List Oper} {o : Oper} {a : Act} {Q : Exit → Act → World → Prop}
    (hg : o.guard = none) (s x : Operand) (hop : o.op = Op.call { callee := Callee.builtin Builtin.append, args := #[s, x], argTypes := #[27, 27] })
    (w0 : World) (hw : w = w0.alloc (.cells #[] 3)) (hs : a.eval s = .slice (some ⟨w0.heap.size, 0, none⟩) 0 0) {A : Option Addr} {k : List Int} {n c C : Nat} (hn : k.length = n) (hx : a.eval x = .slice A n c) (hc : IAt w C A k)
    (hlen : n ≤ 1000000)
    (h : ∀ A' c' w', OwnI w' w0.heap.size (.slice A' n c') k → Below w0.heap.size w0 w' → wpList Tryd.prog ops Q rest (a.put o.dst (.slice A' n c')) w') : wpList Tryd.prog ops Q (o :: rest) a w := by
  subst hn
  subst hw
  by_cases hk : k = []
  · subst hk
    refine wpList_plain hg fun K hK' => ?_
    have hr := fun ty => run_zeroI (w0.alloc (.cells #[] 3)) w0.heap.size 0 c A ty
    have hx2 : a.eval x = .slice A 0 c := hx
    unfold Oper.wp execOp
    simp only [hop, resolve, invoke, builtin, Sem.run_bind, Sem.run_pure, Result.andThen_ok, List.map_toArray, List.map_cons, List.map_nil, hs, hx2, hr]
    exact hK' _ _ (h _ _ _ (OwnI.made w0) ((Below.refl _ _).alloc (Nat.le_refl _) _))
  · have h1 : 1 ≤ k.length := by
      cases k with
      | nil => exact absurd rfl hk
      | cons y ys => simp
    refine wpList_append_is hg s x hop w0.heap.size _ [] hs (OwnI.made w0) rfl hx hc h1 (by simpa using hlen) (by simp) fun A' m c' w' hm k1 k2 => ?_
    rw [List.nil_append] at k1
    have e : m = k.length := by simpa using hm
    subst e
    exact h A' c' w' k1 (((Below.refl _ _).alloc (Nat.le_refl _) _).grown k2 (by simp) (by intro j hj; simp [Value.ownBlock] at hj; omega))
theorem OwnI.len {w : World} {B n c : Nat} {A : Option Addr} {l : List Int} (h : OwnI w B (.slice A n c) l) : l.length = n := by
  rcases h.2 with ⟨e, h0⟩ | ⟨g, cap, cur, e, _⟩
  · simp at e; omega
  · simp at e; omega
/-- The last ones taken off. -/
theorem OwnI.cut {w : World} {B n c m : Nat} {A : Option Addr} {l : List Int} (h : OwnI w B (.slice A n c) l) (hm : m ≤ l.length) : OwnI w B (.slice A m c) (l.take m) := by
  have hlen : (l.take m).length = m := by rw [List.length_take]; omega
  unfold OwnI at *
  rw [hlen]
  refine ⟨by simp [hm], ?_⟩
  rcases h.2 with ⟨e, h0⟩ | ⟨g, cap, cur, e, hb, hg, hnc, hcm, hcs, ht⟩
  · simp at e
    obtain ⟨rfl, rfl, rfl⟩ := e
    exact .inl ⟨by rw [show m = 0 by omega], by omega⟩
  · simp only [Value.slice.injEq] at e
    obtain ⟨rfl, rfl, rfl⟩ := e
    refine .inr ⟨g, _, cur, rfl, hb, hg, by omega, hcm, hcs, ?_⟩
    have e2 : ivs (l.take m) = (ivs l).take m := by simp [ivs, List.map_take]
    rw [e2, ← ht, List.take_take]
    congr 1
    omega

/-! Cells. -/
abbrev celv (c : Cel) (cs : Array Value) : List Value := .int .i64 c.gen :: .bool c.used :: cs.toList
def CelsOf (F : Nat → Value → Frm → Prop) (xs : List Value) (l : List Cel) : Prop :=
  xs.length = l.length * 18 ∧ ∀ j (h : j < l.length), ∃ cs : Array Value, cs.size = 16 ∧ cs.all (·.oneCell') = true ∧ F j (.agg cs) l[j].frm ∧ ∀ i, i < 18 → xs[j * 18 + i]? = (celv l[j] cs)[i]?
theorem CelsOf.mono {F G : Nat → Value → Frm → Prop} {xs : List Value} {l : List Cel} (h : CelsOf F xs l) (hF : ∀ j v f, F j v f → G j v f) : CelsOf G xs l :=
  ⟨h.1, fun j hj => by
    obtain ⟨cs, h1, h2, h3, h4⟩ := h.2 j hj
    exact ⟨cs, h1, h2, hF _ _ _ h3, h4⟩⟩
def CAt (w : World) (B : Nat) (A : Option Addr) (l : List Cel) : Prop := 0 < l.length → ∃ b off xs, A = some ⟨b, off, none⟩ ∧ b < B ∧ w.rangeAt b off xs ∧ CelsOf (fun _ => FrmAt w B) xs l
theorem range_keep {w W : World} {b o : Nat} {l : List Value} (h : w.rangeAt b o l) (hb : W.heap[b]? = w.heap[b]?) : W.rangeAt b o l := fun j v hj => (World.cell?_of_block (a := ⟨b, o + j, none⟩) hb).trans (h j v hj)
theorem CAt.nil (w : World) (B : Nat) (A : Option Addr) : CAt w B A [] := fun h => absurd h (by simp)
theorem CAt.below {w w' : World} {B : Nat} {A : Option Addr} {l : List Cel} (h : CAt w B A l) {C : Nat} (hb : Below C w w') (hC : B ≤ C) : CAt w' B A l := fun h0 => by
  obtain ⟨b, off, xs, e, hlt, hr, hc⟩ := h h0
  exact ⟨b, off, xs, e, hlt, range_keep hr (hb.block b (by omega)), hc.mono fun _ _ _ k => k.below hb hC⟩
theorem CAt.more {w : World} {B C : Nat} {A : Option Addr} {l : List Cel} (h : CAt w B A l) (hC : B ≤ C) : CAt w C A l := fun h0 => by
  obtain ⟨b, off, xs, e, hlt, hr, hc⟩ := h h0
  exact ⟨b, off, xs, e, by omega, hr, hc.mono fun _ _ _ k => k.more hC⟩
/-- What a walk reads of a cell. -/
theorem CAt.cel {w : World} {B : Nat} {A : Option Addr} {l : List Cel} (h : CAt w B A l) {j : Nat} (hj : j < l.length) : ∃ b off, A = some ⟨b, off, none⟩ ∧ b < B ∧ ∃ cs : Array Value, cs.size = 16 ∧ cs.all (·.oneCell') = true ∧ FrmAt w B (.agg cs) l[j].frm ∧
    w.cell? ⟨b, off + j * 18, none⟩ = some (.int .i64 l[j].gen) ∧ w.cell? ⟨b, off + j * 18 + 1, none⟩ = some (.bool l[j].used) ∧ w.rangeAt b (off + j * 18 + 2) cs.toList ∧ w.rangeAt b (off + j * 18) (celv l[j] cs) := by
  obtain ⟨b, off, xs, e, hlt, hr, hc⟩ := h (by omega)
  obtain ⟨cs, h1, h2, h3, h4⟩ := hc.2 j hj
  have hR : w.rangeAt b (off + j * 18) (celv l[j] cs) := fun i u hu => by
    have hi : i < 18 := by
      have := (List.getElem?_eq_some_iff.1 hu).1
      simp only [List.length_cons, Array.length_toList, h1] at this
      omega
    rw [Nat.add_assoc]
    exact hr (j * 18 + i) u (by rw [h4 i hi]; exact hu)
  refine ⟨b, off, e, hlt, cs, h1, h2, h3, ?_, ?_, ?_, hR⟩
  · exact hR 0 _ rfl
  · exact hR 1 _ rfl
  · intro i u hu
    have := hR (i + 2) u (by simpa using hu)
    rw [show off + j * 18 + 2 + i = off + j * 18 + (i + 2) by omega]
    exact this
def OwnCe (w : World) (B : Nat) (v : Value) (l : List Cel) : Prop := ∃ xs, w.ownsRow B 56 18 v l.length xs ∧ CelsOf (fun _ => OwnF w B) xs l
theorem OwnCe.nil (w : World) (B : Nat) : OwnCe w B (.slice none 0 0) [] := ⟨[], World.ownsRow_nil _ _ _ _, rfl, fun j h => absurd h (by simp)⟩
theorem row_lies {w : World} {B n size : Nat} {e : TypeId} {v : Value} {xs : List Value} (h : w.ownsRow B e size v n xs) : ∃ A c, v = .slice A n c ∧ (0 < n → ∃ b, A = some ⟨b, 0, none⟩ ∧ B ≤ b ∧ b < w.heap.size ∧ w.rangeAt b 0 xs) := by
  have hc := fun g hg => h.cells (g := g) hg
  have hlt := h.lt
  rcases h.2 with ⟨rfl, h0⟩ | ⟨g, cap, cur, rfl, hb, _⟩
  · subst h0
    exact ⟨none, 0, rfl, fun h => absurd h (by simp)⟩
  · refine ⟨_, _, rfl, fun _ => ⟨g, rfl, hb, (hlt g rfl).2, fun j u hj => ?_⟩⟩
    have k0 := hc g rfl j u hj
    rwa [p_add] at k0
theorem OwnCe.lies {w : World} {B : Nat} {v : Value} {l : List Cel} (h : OwnCe w B v l) : ∃ A c, v = .slice A l.length c ∧ CAt w w.heap.size A l := by
  obtain ⟨xs, h1, h2⟩ := h
  obtain ⟨A, c, e, k⟩ := row_lies h1
  refine ⟨A, c, e, fun h0 => ?_⟩
  obtain ⟨b, e2, _, hlt, hr⟩ := k h0
  exact ⟨b, 0, xs, e2, hlt, hr, h2.mono fun _ _ _ k => k.at⟩
theorem OwnCe.at {w : World} {B n c : Nat} {A : Option Addr} {l : List Cel} (h : OwnCe w B (.slice A n c) l) : CAt w w.heap.size A l := by
  obtain ⟨A', c', e, k⟩ := h.lies
  simp only [Value.slice.injEq] at e
  obtain ⟨rfl, _, rfl⟩ := e
  exact k
theorem infoC : (Tryd.prog.info? 56).map (fun i => (i.zero, i.size, i.bytes)) = some (some (.agg #[.int .i64 0, .bool false, .int .i64 0, .int .i64 0, .slice none 0 0, .slice none 0 0, .slice none 0 0, .int .i64 0, .int .i64 0, .int .i64 0, .int .i64 0, .int .i64 0, .int .i64 0, .int .i64 0, .int .i64 0, .int .i64 0, .int .i64 0, .int .i64 0]), 18, 192) := by kernel_rfl
theorem celsOf_one {F : Nat → Value → Frm → Prop} {xs : List Value} {l : List Cel} (h : CelsOf F xs l) : ∀ u ∈ xs, u.oneCell' = true := fun u hu => by
  obtain ⟨i, hi, rfl⟩ := List.mem_iff_getElem.1 hu
  have hl := h.1
  have hd : i = i / 18 * 18 + i % 18 := by omega
  have hm : i % 18 < 18 := by omega
  obtain ⟨cs, h1, h2, _, h4⟩ := h.2 (i / 18) (by omega)
  have e := h4 (i % 18) hm
  rw [← hd, List.getElem?_eq_getElem hi] at e
  have hmem : xs[i] ∈ celv l[i / 18] cs := List.mem_of_getElem? e.symm
  simp only [List.mem_cons] at hmem
  rcases hmem with e | e | e
  · rw [e]; rfl
  · rw [e]; rfl
  · exact (Array.all_eq_true_iff_forall_mem.1 h2) _ (by simpa using e)

/-! Pens. -/
abbrev pv (A : Option Addr) (n c : Nat) (A2 : Option Addr) (m c2 : Nat) (t : Int) : Value := .agg #[.slice A n c, .slice A2 m c2, .int .i64 t]
abbrev pc (A : Option Addr) (n c : Nat) (A2 : Option Addr) (m c2 : Nat) (t : Int) : Array Value := #[.slice A n c, .slice A2 m c2, .int .i64 t]
abbrev pz0 : Array Value := #[.slice none 0 0, .slice none 0 0, .int .i64 0]
/-- A pen's lists can be read. -/
structure PAtZ (w : World) (B : Nat) (A A2 : Option Addr) (p : Zp) : Prop where
  cells : CAt w B A p.cells
  free : IAt w B A2 p.free
theorem PAtZ.below {w w' : World} {B : Nat} {A A2 : Option Addr} {p : Zp} (h : PAtZ w B A A2 p) {C : Nat} (hb : Below C w w') (hC : B ≤ C) : PAtZ w' B A A2 p := ⟨h.cells.below hb hC, h.free.below hb hC⟩
theorem PAtZ.more {w : World} {B C : Nat} {A A2 : Option Addr} {p : Zp} (h : PAtZ w B A A2 p) (hC : B ≤ C) : PAtZ w C A A2 p := ⟨h.cells.more hC, h.free.more hC⟩
theorem PAtZ.later {w w' : World} {A A2 : Option Addr} {p : Zp} (h : PAtZ w w.heap.size A A2 p) (hb : Below w.heap.size w w') : PAtZ w' w'.heap.size A A2 p := (h.below hb (Nat.le_refl _)).more hb.size
/-- A pen of one's own. -/
structure OwnZ (w : World) (B : Nat) (A : Option Addr) (c : Nat) (A2 : Option Addr) (c2 : Nat) (p : Zp) : Prop where
  cells : OwnCe w B (.slice A p.cells.length c) p.cells
  free : OwnI w B (.slice A2 p.free.length c2) p.free
theorem OwnZ.at {w : World} {B c c2 : Nat} {A A2 : Option Addr} {p : Zp} (h : OwnZ w B A c A2 c2 p) : PAtZ w w.heap.size A A2 p := ⟨h.cells.at, h.free.at⟩
/-- Where the blocks from B on that are of other types than t are as they were. -/
def KTy (w w' : World) (t : TypeId) : Prop := ∀ (g : Nat) (e : TypeId) (cs : Array Value) (fr : Nat × Nat), w.heap[g]? = some (Obj.cells cs e fr) → e ≠ t → w'.heap[g]? = w.heap[g]?
theorem row_kt {w w' : World} {B n size : Nat} {e t : TypeId} {v : Value} {xs : List Value} (h : w.ownsRow B e size v n xs) (hk : KTy w w' t) (ht : e ≠ t) : w'.ownsRow B e size v n xs := by
  refine ⟨h.1, ?_⟩
  rcases h.2 with h' | ⟨g, cap, cur, rfl, hb, hg, r⟩
  · exact .inl h'
  · exact .inr ⟨g, cap, cur, rfl, hb, (hk g e cur (0, 0) hg ht).trans hg, r⟩
theorem OwnF.kt {w w' : World} {B : Nat} {v : Value} {F : Frm} {t : TypeId} (h : OwnF w B v F) (hk : KTy w w' t) (h1 : 35 ≠ t) (h2 : 121 ≠ t) : OwnF w' B v F := by
  obtain ⟨s, l, o, e, k1, k2, k3⟩ := h
  exact ⟨s, l, o, e, row_kt k1 hk h1, row_kt k2 hk h1, row_kt k3 hk h2⟩
theorem OwnCe.kt {w w' : World} {B : Nat} {v : Value} {l : List Cel} {t : TypeId} (h : OwnCe w B v l) (hk : KTy w w' t) (h1 : 35 ≠ t) (h2 : 121 ≠ t) (h3 : 56 ≠ t) : OwnCe w' B v l := by
  obtain ⟨xs, k1, k2⟩ := h
  exact ⟨xs, row_kt k1 hk h3, k2.mono fun _ _ _ k => k.kt hk h1 h2⟩
theorem OwnZ.kt {w w' : World} {B c c2 : Nat} {A A2 : Option Addr} {p : Zp} {t : TypeId} (h : OwnZ w B A c A2 c2 p) (hk : KTy w w' t) (h1 : 35 ≠ t) (h2 : 121 ≠ t) (h3 : 56 ≠ t) (h4 : 3 ≠ t) : OwnZ w' B A c A2 c2 p :=
  ⟨h.cells.kt hk h1 h2 h3, row_kt h.free hk h4⟩
theorem OwnCe.below {w w' : World} {B : Nat} {v : Value} {l : List Cel} (h : OwnCe w B v l) (hb : Below w.heap.size w w') : OwnCe w' B v l := by
  obtain ⟨xs, k1, k2⟩ := h
  exact ⟨xs, r_later k1 hb, k2.mono fun _ _ _ k => k.below hb⟩
theorem OwnZ.below {w w' : World} {B c c2 : Nat} {A A2 : Option Addr} {p : Zp} (h : OwnZ w B A c A2 c2 p) (hb : Below w.heap.size w w') : OwnZ w' B A c A2 c2 p := ⟨h.cells.below hb, r_later h.free hb⟩
theorem OwnCe.mono {w : World} {B C : Nat} {v : Value} {l : List Cel} (h : OwnCe w B v l) (hC : C ≤ B) : OwnCe w C v l := by
  obtain ⟨xs, k1, k2⟩ := h
  exact ⟨xs, row_mono k1 hC, k2.mono fun _ _ _ k => k.mono hC⟩
theorem OwnZ.mono {w : World} {B C c c2 : Nat} {A A2 : Option Addr} {p : Zp} (h : OwnZ w B A c A2 c2 p) (hC : C ≤ B) : OwnZ w C A c A2 c2 p := ⟨h.cells.mono hC, row_mono h.free hC⟩
end Go.Proofs.YtjibkgildfjjoaaDoor

/- Layer 12: arguments that are frames, pens, opened. -/
namespace Go.Proofs.YtjibkgildfjjoaaDoor
set_option linter.unusedVariables false
set_option linter.unusedSimpArgs false
open Go.RowKit Go.ChangeShapes Go.WideShapes Go.ChangeAt Go.Deep Go.Joins

section
variable {H : Type} {enc : TypeId × Value → H} {W : World} {base : Nat} {sp : Nat → Bool} {hd : Bool} {fuel : Nat}
set_option maxRecDepth 100000 in
theorem ci1 : Tryd.prog.cellsOf 3 = 1 := by kernel_rfl
set_option maxRecDepth 100000 in
theorem ci2 : Tryd.prog.cellsOf 33 = 2 := by kernel_rfl
set_option maxRecDepth 100000 in
theorem ci3 : Tryd.prog.cellsOf 37 = 3 := by kernel_rfl
set_option maxRecDepth 100000 in
theorem ciV : Tryd.prog.cellsOf 35 = 2 := by kernel_rfl
set_option maxRecDepth 100000 in
theorem ciS : Tryd.prog.cellsOf 121 = 6 := by kernel_rfl
set_option maxRecDepth 100000 in
theorem ciF : Tryd.prog.cellsOf 54 = 16 := by kernel_rfl
set_option maxRecDepth 100000 in
theorem ciVs : Tryd.prog.cellsOf 51 = 1 := by kernel_rfl
set_option maxRecDepth 100000 in
theorem ciSs : Tryd.prog.cellsOf 52 = 1 := by kernel_rfl
set_option maxRecDepth 100000 in
theorem open_i {c : Value} {y : DataW H × List MemPlace} (g : DataW.trod enc Tryd.prog W base sp hd fuel 3 [c] = some y) : ∃ n : Int, c = .int .i64 n := by
  obtain ⟨n0, e0, _, _⟩ := DataW.trod_int Tryd.underlying3 g
  simp at e0
  exact ⟨n0, e0⟩
set_option maxRecDepth 100000 in
theorem open_ref2 {a b : Value} {y : DataW H × List MemPlace} (g : DataW.trod enc Tryd.prog W base sp hd fuel 33 [a, b] = some y) : ∃ n m : Int, a = .int .i64 n ∧ b = .int .i64 m := by
  obtain ⟨y0, y1, k, _, _, g0, g1⟩ := trod_struct2 Tryd.underlying33 g
  simp [ci1] at g0 g1
  obtain ⟨n, rfl⟩ := open_i g0
  obtain ⟨m, rfl⟩ := open_i g1
  exact ⟨n, m, rfl, rfl⟩
set_option maxRecDepth 100000 in
theorem open_val2 {a b : Value} {y : DataW H × List MemPlace} (g : DataW.trod enc Tryd.prog W base sp hd fuel 35 [a, b] = some y) : ∃ n m : Int, a = .int .i64 n ∧ b = .int .i64 m := by
  obtain ⟨y0, y1, k, _, _, g0, g1⟩ := trod_struct2 Tryd.underlying35 g
  simp [ci1] at g0 g1
  obtain ⟨n, rfl⟩ := open_i g0
  obtain ⟨m, rfl⟩ := open_i g1
  exact ⟨n, m, rfl, rfl⟩
set_option maxRecDepth 100000 in
theorem open_out3 {a b c : Value} {y : DataW H × List MemPlace} (g : DataW.trod enc Tryd.prog W base sp hd fuel 37 [a, b, c] = some y) : ∃ t n m : Int, a = .int .i64 t ∧ b = .int .i64 n ∧ c = .int .i64 m := by
  obtain ⟨y0, y1, k, _, _, g0, g1⟩ := trod_struct2 Tryd.underlying37 g
  simp [ci1, ciV] at g0 g1
  obtain ⟨t, rfl⟩ := open_i g0
  obtain ⟨n, m, rfl, rfl⟩ := open_val2 g1
  exact ⟨t, n, m, rfl, rfl, rfl⟩
set_option maxRecDepth 100000 in
theorem open_slot6 {a b c d e f : Value} {y : DataW H × List MemPlace} (g : DataW.trod enc Tryd.prog W base sp hd fuel 121 [a, b, c, d, e, f] = some y) :
    ∃ s : Slt, a = .int .i64 s.st ∧ b = .int .i64 s.kat ∧ c = .int .i64 s.kgn ∧ d = .int .i64 s.tr ∧ e = .int .i64 s.re ∧ f = .int .i64 s.im := by
  obtain ⟨y0, y1, y2, k, _, _, g0, g1, g2⟩ := trod_struct3 Tryd.underlying121 g
  simp [ci1, ci2, ci3] at g0 g1 g2
  obtain ⟨n0, rfl⟩ := open_i g0
  obtain ⟨n1, n2, rfl, rfl⟩ := open_ref2 g1
  obtain ⟨n3, n4, n5, rfl, rfl, rfl⟩ := open_out3 g2
  exact ⟨⟨n0, n1, n2, n3, n4, n5⟩, rfl, rfl, rfl, rfl, rfl, rfl⟩
instance : Inhabited Slt := ⟨⟨0, 0, 0, 0, 0, 0⟩⟩
set_option maxRecDepth 100000 in
theorem open_vals {cs : List Value} {x : DataW H × List MemPlace} (h : DataW.trod enc Tryd.prog W base sp hd fuel 51 cs = some x) : ∃ A c l, cs = [.slice A l.length c] ∧ VAt W W.heap.size A l ∧ l.length ≤ maxLen := by
  rcases open_slice Tryd.underlying51 h with ⟨rfl, _⟩ | ⟨a, len, cap, m, n, D, Pl, rfl, _, hl, hm, hmm, rfl, hx⟩
  · exact ⟨none, 0, [], rfl, VAt.nil _ _ _, by simp⟩
  · have hlm : len ≤ m := by rw [hmm]; split <;> omega
    have each : ∀ i, i < len → ∃ q : V, W.cell? (a.add (i * 2)) = some (.int .i64 q.1) ∧ W.cell? (a.add (i * 2 + 1)) = some (.int .i64 q.2) := by
      intro i hi
      obtain ⟨cs', h1, h2⟩ := hx i (by omega)
      rw [ciV] at h1
      obtain ⟨_, hlen, hcell⟩ := World.cells?_some h1
      match cs', hlen with
      | [v0, v1], _ =>
        obtain ⟨n0, n1, rfl, rfl⟩ := open_val2 h2
        have c0 := hcell 0 (by omega)
        have c1 := hcell 1 (by omega)
        rw [add_add] at c0 c1
        exact ⟨(n0, n1), by simpa using c0, by simpa using c1⟩
    obtain ⟨q, hq⟩ := choose_lt each
    refine ⟨some a, cap, (List.range len).map q, by simp, fun h0 => ?_, by simp; omega⟩
    have hlen : 0 < len := by simpa using h0
    obtain ⟨b, off, spot⟩ := a
    have hspot : spot = none := by simpa [Addr.add] using World.cell?_spot (hq 0 hlen).1
    subst hspot
    refine ⟨b, off, rfl, block_lt_of_cell (a := Addr.add ⟨b, off, none⟩ (0 * 2)) (hq 0 hlen).1, fun j hj => ?_⟩
    have hj' : j < len := by simpa using hj
    obtain ⟨c0, c1⟩ := hq j hj'
    rw [p_add] at c0 c1
    simp only [List.getElem_map, List.getElem_range]
    exact ⟨c0, c1⟩
set_option maxRecDepth 100000 in
theorem open_slots {cs : List Value} {x : DataW H × List MemPlace} (h : DataW.trod enc Tryd.prog W base sp hd fuel 52 cs = some x) : ∃ A c l, cs = [.slice A l.length c] ∧ SAt W W.heap.size A l ∧ l.length ≤ maxLen := by
  rcases open_slice Tryd.underlying52 h with ⟨rfl, _⟩ | ⟨a, len, cap, m, n, D, Pl, rfl, _, hl, hm, hmm, rfl, hx⟩
  · exact ⟨none, 0, [], rfl, SAt.nil _ _ _, by simp⟩
  · have hlm : len ≤ m := by rw [hmm]; split <;> omega
    have each : ∀ i, i < len → ∃ q : Slt, W.cell? (a.add (i * 6)) = some (.int .i64 q.st) ∧ W.cell? (a.add (i * 6 + 1)) = some (.int .i64 q.kat) ∧ W.cell? (a.add (i * 6 + 2)) = some (.int .i64 q.kgn) ∧ W.cell? (a.add (i * 6 + 3)) = some (.int .i64 q.tr) ∧ W.cell? (a.add (i * 6 + 4)) = some (.int .i64 q.re) ∧ W.cell? (a.add (i * 6 + 5)) = some (.int .i64 q.im) := by
      intro i hi
      obtain ⟨cs', h1, h2⟩ := hx i (by omega)
      rw [ciS] at h1
      obtain ⟨_, hlen, hcell⟩ := World.cells?_some h1
      match cs', hlen with
      | [v0, v1, v2, v3, v4, v5], _ =>
        obtain ⟨s, rfl, rfl, rfl, rfl, rfl, rfl⟩ := open_slot6 h2
        have c0 := hcell 0 (by omega)
        have c1 := hcell 1 (by omega)
        have c2 := hcell 2 (by omega)
        have c3 := hcell 3 (by omega)
        have c4 := hcell 4 (by omega)
        have c5 := hcell 5 (by omega)
        rw [add_add] at c0 c1 c2 c3 c4 c5
        exact ⟨s, by simpa using c0, by simpa using c1, by simpa using c2, by simpa using c3, by simpa using c4, by simpa using c5⟩
    obtain ⟨q, hq⟩ := choose_lt each
    refine ⟨some a, cap, (List.range len).map q, by simp, fun h0 => ?_, by simp; omega⟩
    have hlen : 0 < len := by simpa using h0
    obtain ⟨b, off, spot⟩ := a
    have hspot : spot = none := by simpa [Addr.add] using World.cell?_spot (hq 0 hlen).1
    subst hspot
    refine ⟨b, off, rfl, block_lt_of_cell (a := Addr.add ⟨b, off, none⟩ (0 * 6)) (hq 0 hlen).1, fun j hj => ?_⟩
    have hj' : j < len := by simpa using hj
    obtain ⟨c0, c1, c2, c3, c4, c5⟩ := hq j hj'
    rw [p_add] at c0 c1 c2 c3 c4 c5
    simp only [List.getElem_map, List.getElem_range]
    exact ⟨c0, c1, c2, c3, c4, c5⟩
end
set_option maxRecDepth 100000 in
theorem list16 {α : Type} {cs : List α} (h : cs.length = 16) : ∃ c0 c1 c2 c3 c4 c5 c6 c7 c8 c9 c10 c11 c12 c13 c14 c15, cs = [c0, c1, c2, c3, c4, c5, c6, c7, c8, c9, c10, c11, c12, c13, c14, c15] := by
  match cs, h with
  | [c0, c1, c2, c3, c4, c5, c6, c7, c8, c9, c10, c11, c12, c13, c14, c15], _ => exact ⟨c0, c1, c2, c3, c4, c5, c6, c7, c8, c9, c10, c11, c12, c13, c14, c15, rfl⟩
set_option maxHeartbeats 2000000 in
set_option maxRecDepth 100000 in
/-- A frame's cells, opened. -/
theorem open_fcells {H : Type} {enc : TypeId × Value → H} {W : World} {base : Nat} {sp : Nat → Bool} {hd : Bool} {fuel : Nat} {cs : List Value} {y : DataW H × List MemPlace} (hsz : cs.length = 16)
    (hf : DataW.trod enc Tryd.prog W base sp hd fuel 54 cs = some y) : ∃ f : Frm, FrmAt W W.heap.size (.agg cs.toArray) f ∧ ∀ u ∈ cs, u.oneCell' = true := by
  obtain ⟨c0, c1, c2, c3, c4, c5, c6, c7, c8, c9, c10, c11, c12, c13, c14, c15, rfl⟩ := list16 hsz
  obtain ⟨xs, n, _, _, hl, hlen, hg⟩ := DataW.trod_struct Tryd.underlying54 hf
  have hx : ∀ i, i < 13 → ∃ y, xs[i]? = some y := fun i hi => ⟨xs[i]'(by rw [hlen]; exact hi), List.getElem?_eq_getElem _⟩
  clear hf hl hsz
  obtain ⟨y0, e0⟩ := hx 0 (by omega)
  have g0 := (hg 0 _ rfl).trans e0
  simp [ci1, ci2, ci3, ciVs, ciSs] at g0
  obtain ⟨y1, e1⟩ := hx 1 (by omega)
  have g1 := (hg 1 _ rfl).trans e1
  simp [ci1, ci2, ci3, ciVs, ciSs] at g1
  obtain ⟨y2, e2⟩ := hx 2 (by omega)
  have g2 := (hg 2 _ rfl).trans e2
  simp [ci1, ci2, ci3, ciVs, ciSs] at g2
  obtain ⟨y3, e3⟩ := hx 3 (by omega)
  have g3 := (hg 3 _ rfl).trans e3
  simp [ci1, ci2, ci3, ciVs, ciSs] at g3
  obtain ⟨y4, e4⟩ := hx 4 (by omega)
  have g4 := (hg 4 _ rfl).trans e4
  simp [ci1, ci2, ci3, ciVs, ciSs] at g4
  obtain ⟨y5, e5⟩ := hx 5 (by omega)
  have g5 := (hg 5 _ rfl).trans e5
  simp [ci1, ci2, ci3, ciVs, ciSs] at g5
  obtain ⟨y6, e6⟩ := hx 6 (by omega)
  have g6 := (hg 6 _ rfl).trans e6
  simp [ci1, ci2, ci3, ciVs, ciSs] at g6
  obtain ⟨y7, e7⟩ := hx 7 (by omega)
  have g7 := (hg 7 _ rfl).trans e7
  simp [ci1, ci2, ci3, ciVs, ciSs] at g7
  obtain ⟨y8, e8⟩ := hx 8 (by omega)
  have g8 := (hg 8 _ rfl).trans e8
  simp [ci1, ci2, ci3, ciVs, ciSs] at g8
  obtain ⟨y9, e9⟩ := hx 9 (by omega)
  have g9 := (hg 9 _ rfl).trans e9
  simp [ci1, ci2, ci3, ciVs, ciSs] at g9
  obtain ⟨y10, e10⟩ := hx 10 (by omega)
  have g10 := (hg 10 _ rfl).trans e10
  simp [ci1, ci2, ci3, ciVs, ciSs] at g10
  obtain ⟨y11, e11⟩ := hx 11 (by omega)
  have g11 := (hg 11 _ rfl).trans e11
  simp [ci1, ci2, ci3, ciVs, ciSs] at g11
  obtain ⟨y12, e12⟩ := hx 12 (by omega)
  have g12 := (hg 12 _ rfl).trans e12
  simp [ci1, ci2, ci3, ciVs, ciSs] at g12
  obtain ⟨n0, rfl⟩ := open_i g0
  obtain ⟨n1, rfl⟩ := open_i g1
  obtain ⟨A2, k2, l2, q2, h2, _⟩ := open_vals g2
  simp at q2
  subst q2
  obtain ⟨A3, k3, l3, q3, h3, _⟩ := open_vals g3
  simp at q3
  subst q3
  obtain ⟨A4, k4, l4, q4, h4, _⟩ := open_slots g4
  simp at q4
  subst q4
  obtain ⟨n5, rfl⟩ := open_i g5
  obtain ⟨n6, rfl⟩ := open_i g6
  obtain ⟨n7, rfl⟩ := open_i g7
  obtain ⟨n8, rfl⟩ := open_i g8
  obtain ⟨n9, rfl⟩ := open_i g9
  obtain ⟨t1, t2, t3, rfl, rfl, rfl⟩ := open_out3 g10
  obtain ⟨r1, r2, rfl, rfl⟩ := open_ref2 g11
  obtain ⟨n12, rfl⟩ := open_i g12
  exact ⟨⟨n0, n1, l2, l3, l4, n5, n6, n7, n8, n9, t1, t2, t3, r1, r2, n12⟩, ⟨A2, k2, A3, k3, A4, k4, rfl, h2, h3, h4⟩, by simp [Value.oneCell']⟩

set_option maxRecDepth 100000 in
theorem open_b {H : Type} {enc : TypeId × Value → H} {W : World} {base : Nat} {sp : Nat → Bool} {hd : Bool} {fuel : Nat} {c : Value} {y : DataW H × List MemPlace} (g : DataW.trod enc Tryd.prog W base sp hd fuel 4 [c] = some y) : ∃ n : Bool, c = .bool n := by
  obtain ⟨n0, e0, _, _⟩ := DataW.trod_bool Tryd.underlying4 g
  simp at e0
  exact ⟨n0, e0⟩
set_option maxRecDepth 100000 in
theorem ciB : Tryd.prog.cellsOf 4 = 1 := by kernel_rfl
set_option maxRecDepth 100000 in
theorem ciC : Tryd.prog.cellsOf 56 = 18 := by kernel_rfl
set_option maxRecDepth 100000 in
theorem ciP : Tryd.prog.cellsOf 29 = 3 := by kernel_rfl
set_option maxRecDepth 100000 in
theorem ciIs : Tryd.prog.cellsOf 27 = 1 := by kernel_rfl
set_option maxRecDepth 100000 in
theorem ciCs : Tryd.prog.cellsOf 26 = 1 := by kernel_rfl
instance : Inhabited Cel := ⟨cel0⟩
set_option maxRecDepth 100000 in
theorem open_cell {H : Type} {enc : TypeId × Value → H} {W : World} {base : Nat} {sp : Nat → Bool} {hd : Bool} {fuel : Nat} {cs : List Value} {y : DataW H × List MemPlace} (hsz : cs.length = 18)
    (hf : DataW.trod enc Tryd.prog W base sp hd fuel 56 cs = some y) : ∃ (x : Cel) (fs : Array Value), fs.size = 16 ∧ fs.all (·.oneCell') = true ∧ FrmAt W W.heap.size (.agg fs) x.frm ∧ cs = celv x fs := by
  match cs, hsz with
  | a :: b :: r, hr =>
    obtain ⟨y0, y1, y2, k, _, _, g0, g1, g2⟩ := trod_struct3 Tryd.underlying56 hf
    have hr16 : r.length = 16 := by simpa using hr
    simp [ci1, ciB, ciF] at g0 g1 g2
    rw [List.take_of_length_le (by omega)] at g2
    obtain ⟨n, rfl⟩ := open_i g0
    obtain ⟨u, rfl⟩ := open_b g1
    obtain ⟨f, h1, h2⟩ := open_fcells hr16 g2
    exact ⟨⟨n, u, f⟩, r.toArray, by simpa using hr16, Array.all_eq_true_iff_forall_mem.2 fun v hv => h2 v (by simpa using hv), h1, by simp⟩
set_option maxRecDepth 100000 in
theorem open_ints {H : Type} {enc : TypeId × Value → H} {W : World} {base : Nat} {sp : Nat → Bool} {hd : Bool} {fuel : Nat} {cs : List Value} {x : DataW H × List MemPlace} (h : DataW.trod enc Tryd.prog W base sp hd fuel 27 cs = some x) : ∃ A c l, cs = [.slice A l.length c] ∧ IAt W W.heap.size A l ∧ l.length ≤ maxLen := by
  rcases open_slice Tryd.underlying27 h with ⟨rfl, _⟩ | ⟨a, len, cap, m, n, D, Pl, rfl, _, hl, hm, hmm, rfl, hx⟩
  · exact ⟨none, 0, [], rfl, IAt.nil _ _ _, by simp⟩
  · have hlm : len ≤ m := by rw [hmm]; split <;> omega
    have each : ∀ i, i < len → ∃ q : Int, W.cell? (a.add i) = some (.int .i64 q) := by
      intro i hi
      obtain ⟨cs', h1, h2⟩ := hx i (by omega)
      rw [ci1] at h1
      obtain ⟨_, hlen, hcell⟩ := World.cells?_some h1
      match cs', hlen with
      | [v0], _ =>
        obtain ⟨n0, rfl⟩ := open_i h2
        have c0 := hcell 0 (by omega)
        rw [add_add] at c0
        exact ⟨n0, by simpa using c0⟩
    obtain ⟨q, hq⟩ := choose_lt each
    refine ⟨some a, cap, (List.range len).map q, by simp, fun h0 => ?_, by simp; omega⟩
    have hlen : 0 < len := by simpa using h0
    obtain ⟨b, off, spot⟩ := a
    have hspot : spot = none := by simpa [Addr.add] using World.cell?_spot (hq 0 hlen)
    subst hspot
    refine ⟨b, off, rfl, block_lt_of_cell (a := Addr.add ⟨b, off, none⟩ 0) (hq 0 hlen), fun j hj => ?_⟩
    have hj' : j < len := by simpa using hj
    have c0 := hq j hj'
    rw [p_add] at c0
    simp only [List.getElem_map, List.getElem_range]
    exact c0
set_option maxRecDepth 100000 in
theorem open_cels {H : Type} {enc : TypeId × Value → H} {W : World} {base : Nat} {sp : Nat → Bool} {hd : Bool} {fuel : Nat} {cs : List Value} {x : DataW H × List MemPlace} (h : DataW.trod enc Tryd.prog W base sp hd fuel 26 cs = some x) : ∃ A c l, cs = [.slice A l.length c] ∧ CAt W W.heap.size A l ∧ l.length ≤ maxLen := by
  rcases open_slice Tryd.underlying26 h with ⟨rfl, _⟩ | ⟨a, len, cap, m, n, D, Pl, rfl, _, hl, hm, hmm, rfl, hx⟩
  · exact ⟨none, 0, [], rfl, CAt.nil _ _ _, by simp⟩
  · have hlm : len ≤ m := by rw [hmm]; split <;> omega
    have each : ∀ i, i < len → ∃ q : Cel × Array Value, q.2.size = 16 ∧ q.2.all (·.oneCell') = true ∧ FrmAt W W.heap.size (.agg q.2) q.1.frm ∧ ∀ k u, (celv q.1 q.2)[k]? = some u → W.cell? (a.add (i * 18 + k)) = some u := by
      intro i hi
      obtain ⟨cs', h1, h2⟩ := hx i (by omega)
      rw [ciC] at h1
      obtain ⟨_, hlen, hcell⟩ := World.cells?_some h1
      obtain ⟨x, fs, s1, s2, s3, s4⟩ := open_cell hlen h2
      refine ⟨(x, fs), s1, s2, s3, fun k u hk => ?_⟩
      rw [← s4] at hk
      have hkl := (List.getElem?_eq_some_iff.1 hk).1
      have c0 := hcell k (by omega)
      rw [add_add] at c0
      rw [c0]
      exact hk
    obtain ⟨q, hq⟩ := choose_lt each
    refine ⟨some a, cap, (List.range len).map fun i => (q i).1, by simp, fun h0 => ?_, by simp; omega⟩
    have hlen : 0 < len := by simpa using h0
    obtain ⟨b, off, spot⟩ := a
    have h00 := (hq 0 hlen).2.2.2 0 _ rfl
    have hspot : spot = none := by simpa [Addr.add] using World.cell?_spot h00
    subst hspot
    have hlt := block_lt_of_cell (a := Addr.add ⟨b, off, none⟩ (0 * 18 + 0)) h00
    have hbl : b < W.heap.size := by rw [p_add] at hlt; exact hlt
    -- the row of all cells
    have row : ∃ xs : List Value, xs.length = len * 18 ∧ W.rangeAt b off xs ∧ ∀ i, i < len → ∀ k, k < 18 → xs[i * 18 + k]? = (celv (q i).1 (q i).2)[k]? := by
      refine ⟨(List.range (len * 18)).map fun t => ((celv (q (t / 18)).1 (q (t / 18)).2)[t % 18]?).getD (.bool false), by simp, fun t u ht => ?_, fun i hi k hk => ?_⟩
      · have htl := (List.getElem?_eq_some_iff.1 ht).1
        simp at htl
        rw [List.getElem?_map, List.getElem?_range htl] at ht
        simp only [Option.map_some, Option.some.injEq] at ht
        have hi : t / 18 < len := by omega
        have hk : t % 18 < (celv (q (t / 18)).1 (q (t / 18)).2).length := by simp [(hq _ hi).1]; omega
        have h9 := (hq _ hi).2.2.2 (t % 18) _ (List.getElem?_eq_getElem hk)
        rw [List.getElem?_eq_getElem hk, Option.getD_some] at ht
        rw [ht, p_add, show off + (t / 18 * 18 + t % 18) = off + t by omega] at h9
        exact h9
      · rw [List.getElem?_map, List.getElem?_range (by omega)]
        simp only [Option.map_some]
        have e1 : (i * 18 + k) / 18 = i := by omega
        have e2 : (i * 18 + k) % 18 = k := by omega
        rw [e1, e2]
        have hk2 : k < (celv (q i).1 (q i).2).length := by simp [(hq _ hi).1]; omega
        rw [List.getElem?_eq_getElem hk2, Option.getD_some]
    obtain ⟨xs, r1, r2, r3⟩ := row
    refine ⟨b, off, xs, rfl, hbl, r2, by simpa using r1, fun j hj => ?_⟩
    have hj' : j < len := by simpa using hj
    simp only [List.getElem_map, List.getElem_range]
    exact ⟨(q j).2, (hq j hj').1, (hq j hj').2.1, (hq j hj').2.2.1, fun i hi => r3 j hj' i hi⟩
end Go.Proofs.YtjibkgildfjjoaaDoor

