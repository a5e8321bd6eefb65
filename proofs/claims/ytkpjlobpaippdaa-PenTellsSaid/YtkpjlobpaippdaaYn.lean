/- Layer 12: cells and pens in memory, read and of one's own. -/
import Derived.Test.YtkpjlobpaippdaaYm
namespace Go.Proofs.Ytkpjlobpaippdaa
set_option linter.unusedVariables false
set_option linter.unusedSimpArgs false
open Go.RowKit Go.ChangeShapes Go.WideShapes Go.ChangeAt Go.Sort

/-! Ints. -/
abbrev ivs (l : List Int) : List Value := l.map fun x => .int .i64 x
def IAt (w : World) (B : Nat) (A : Option Addr) (l : List Int) : Prop := 0 < l.length → ∃ b off, A = some ⟨b, off, none⟩ ∧ b < B ∧ ∀ j (h : j < l.length), w.cell? ⟨b, off + j, none⟩ = some (.int .i64 l[j])
theorem IAt.nil (w : World) (B : Nat) (A : Option Addr) : IAt w B A [] := fun h => absurd h (by simp)
theorem IAt.below {w w' : World} {B : Nat} {A : Option Addr} {l : List Int} (h : IAt w B A l) {C : Nat} (hb : Below C w w') (hC : B ≤ C) : IAt w' B A l := fun h0 => by
  obtain ⟨b, off, e, hlt, hc⟩ := h h0
  exact ⟨b, off, e, hlt, fun j hj => (hb.cell (p := ⟨b, off + j, none⟩) (by show b < C; omega)).trans (hc j hj)⟩
theorem IAt.more {w : World} {B C : Nat} {A : Option Addr} {l : List Int} (h : IAt w B A l) (hC : B ≤ C) : IAt w C A l := fun h0 => by
  obtain ⟨b, off, e, hlt, hc⟩ := h h0
  exact ⟨b, off, e, by omega, hc⟩
def OwnI (w : World) (B : Nat) (v : Value) (l : List Int) : Prop := w.ownsRow B 3 1 v l.length (ivs l)
theorem OwnI.nil (w : World) (B : Nat) : OwnI w B (.slice none 0 0) [] := World.ownsRow_nil _ _ _ _
theorem OwnI.made (w : World) : OwnI (w.alloc (.cells #[] 3)) w.heap.size (.slice (some ⟨w.heap.size, 0, none⟩) 0 0) [] := World.ownsRow_made w #[] 0 (Nat.le_refl _) (by decide) rfl
theorem OwnI.lies {w : World} {B : Nat} {v : Value} {l : List Int} (h : OwnI w B v l) : ∃ A c, v = .slice A l.length c ∧ IAt w w.heap.size A l := by
  unfold OwnI at h
  have hc := fun g hg => h.cells (g := g) hg
  have hlt := h.lt
  rcases h.2 with ⟨rfl, h0⟩ | ⟨g, cap, cur, rfl, _⟩
  · have e : l = [] := List.eq_nil_of_length_eq_zero h0
    subst e
    exact ⟨none, 0, rfl, IAt.nil _ _ _⟩
  · refine ⟨_, _, rfl, fun _ => ⟨g, 0, rfl, (hlt g rfl).2, fun j hj => ?_⟩⟩
    have k0 := hc g rfl j (.int .i64 l[j]) (by simp [hj])
    rwa [p_add] at k0
theorem OwnI.at {w : World} {B n c : Nat} {A : Option Addr} {l : List Int} (h : OwnI w B (.slice A n c) l) : IAt w w.heap.size A l := by
  obtain ⟨A', c', e, k⟩ := h.lies
  simp only [Value.slice.injEq] at e
  obtain ⟨rfl, _, rfl⟩ := e
  exact k
theorem infoI : (Try.prog.info? 3).map (fun i => (i.zero, i.size, i.bytes)) = some (some (.int .i64 0), 1, 8) := by kernel_rfl
theorem oneI {l : List Int} : ∀ u ∈ ivs l, u.oneCell' = true := fun u hu => by
  obtain ⟨x, _, rfl⟩ := List.mem_map.1 hu
  rfl
theorem newsI {w : World} {b off : Nat} {k : List Int} (hf : ∀ j (h : j < k.length), w.cell? ⟨b, off + j, none⟩ = some (.int .i64 k[j])) : ∀ j u, (ivs k)[j]? = some u → w.cell? ((⟨b, off, none⟩ : Addr).add j) = some u := fun j u hj => by
  rw [p_add]
  have hjl : j < k.length := by
    have := (List.getElem?_eq_some_iff.1 hj).1
    simpa using this
  rw [hf j hjl]
  simpa [hjl] using hj
/-- Some ints appended. -/
theorem wpList_append_is {w : World} {ops : Array Oper} {rest : List Oper} {o : Oper} {a : Act} {Q : Exit → Act → World → Prop}
    (hg : o.guard = none) (s x : Operand) (hop : o.op = Op.call { callee := Callee.builtin Builtin.append, args := #[s, x], argTypes := #[23, 23] })
    (B : Nat) (v : Value) (l : List Int) (hs : a.eval s = v) (own : OwnI w B v l) {A : Option Addr} {k : List Int} {n c C : Nat} (hn : k.length = n) (hx : a.eval x = .slice A n c) (hc : IAt w C A k)
    (h1 : 1 ≤ n) (hlen : l.length + n ≤ 1000000) (hB : B ≤ w.heap.size)
    (h : ∀ A' m c' w', m = l.length + n → OwnI w' B (.slice A' m c') (l ++ k) → w.grownBy w' v.ownBlock → wpList Try.prog ops Q rest (a.put o.dst (.slice A' m c')) w') : wpList Try.prog ops Q (o :: rest) a w := by
  subst hn
  obtain ⟨b, off, rfl, hbC, hf⟩ := hc (by omega)
  obtain ⟨q, hi, hz0, hz1, hz2⟩ := info_parts infoI
  refine wpList_append_lies _ hg s x 23 hop B 3 q (.int .i64 0) 1 8 Try.underlying23 hi hz0 hz1 hz2 rfl (by decide) v l.length (ivs l) hs own ⟨b, off, none⟩ k.length c
    (ivs k) hx (by simp) (newsI hf) oneI (by omega) (by unfold maxLen; omega) (by omega) hB _ rfl ?_
  intro g cap w' k1 k2 k3 k4
  refine h _ _ _ w' rfl ?_ k2
  unfold OwnI ivs
  rw [List.length_append, List.map_append]
  exact k1
theorem run_zeroI (w : World) (g c c2 : Nat) (A : Option Addr) (ty : TypeId) : (Builtin.append_ #[23, 23] ty #[.slice (some ⟨g, 0, none⟩) 0 c, .slice A 0 c2]).run Try.prog w = .ok (.slice (some ⟨g, 0, none⟩) 0 c) w := by
  obtain ⟨i, hi, hz0, hz1, hz2⟩ := info_parts infoI
  cases A <;> simp [Builtin.append_, run_underlying Try.underlying23, sizeOf, typeInfo, hi, storeCells, loadCellsFrom, Builtin.lenOf, Builtin.firstCells, loadCells]
theorem wpList_append_is0 {w : World} {ops : Array Oper} {rest : List Oper} {o : Oper} {a : Act} {Q : Exit → Act → World → Prop}
    (hg : o.guard = none) (s x : Operand) (hop : o.op = Op.call { callee := Callee.builtin Builtin.append, args := #[s, x], argTypes := #[23, 23] })
    (w0 : World) (hw : w = w0.alloc (.cells #[] 3)) (hs : a.eval s = .slice (some ⟨w0.heap.size, 0, none⟩) 0 0) {A : Option Addr} {k : List Int} {n c C : Nat} (hn : k.length = n) (hx : a.eval x = .slice A n c) (hc : IAt w C A k)
    (hlen : n ≤ 1000000)
    (h : ∀ A' c' w', OwnI w' w0.heap.size (.slice A' n c') k → Below w0.heap.size w0 w' → wpList Try.prog ops Q rest (a.put o.dst (.slice A' n c')) w') : wpList Try.prog ops Q (o :: rest) a w := by
  subst hn
  subst hw
  by_cases hk : k = []
  · subst hk
    refine wpList_plain hg fun K hK' => ?_
    have hr := fun ty => run_zeroI (w0.alloc (.cells #[] 3)) w0.heap.size 0 c A ty
    have hx2 : a.eval x = .slice A 0 c := hx
    unfold Oper.wp execOp
    simp only [hop, resolve, invoke, builtin, Sem.run_bind, Sem.run_pure, Result.andThen_ok, List.map_toArray, List.map_cons, List.map_nil, hs, hx2, hr]
    exact hK' _ _ (h _ _ _ (OwnI.made w0) ((Below.refl _ _).alloc (Nat.le_refl _) _))
  · have h1 : 1 ≤ k.length := by
      cases k with
      | nil => exact absurd rfl hk
      | cons y ys => simp
    refine wpList_append_is hg s x hop w0.heap.size _ [] hs (OwnI.made w0) rfl hx hc h1 (by simpa using hlen) (by simp) fun A' m c' w' hm k1 k2 => ?_
    rw [List.nil_append] at k1
    have e : m = k.length := by simpa using hm
    subst e
    exact h A' c' w' k1 (((Below.refl _ _).alloc (Nat.le_refl _) _).grown k2 (by simp) (by intro j hj; simp [Value.ownBlock] at hj; omega))
theorem OwnI.len {w : World} {B n c : Nat} {A : Option Addr} {l : List Int} (h : OwnI w B (.slice A n c) l) : l.length = n := by
  rcases h.2 with ⟨e, h0⟩ | ⟨g, cap, cur, e, _⟩
  · simp at e; omega
  · simp at e; omega
/-- The last ones taken off. -/
theorem OwnI.cut {w : World} {B n c m : Nat} {A : Option Addr} {l : List Int} (h : OwnI w B (.slice A n c) l) (hm : m ≤ l.length) : OwnI w B (.slice A m c) (l.take m) := by
  have hlen : (l.take m).length = m := by rw [List.length_take]; omega
  unfold OwnI at *
  rw [hlen]
  refine ⟨by simp [hm], ?_⟩
  rcases h.2 with ⟨e, h0⟩ | ⟨g, cap, cur, e, hb, hg, hnc, hcm, hcs, ht⟩
  · simp at e
    obtain ⟨rfl, rfl, rfl⟩ := e
    exact .inl ⟨by rw [show m = 0 by omega], by omega⟩
  · simp only [Value.slice.injEq] at e
    obtain ⟨rfl, rfl, rfl⟩ := e
    refine .inr ⟨g, _, cur, rfl, hb, hg, by omega, hcm, hcs, ?_⟩
    have e2 : ivs (l.take m) = (ivs l).take m := by simp [ivs, List.map_take]
    rw [e2, ← ht, List.take_take]
    congr 1
    omega

/-! Cells. -/
abbrev celv (c : Cel) (cs : Array Value) : List Value := .int .i64 c.gen :: .bool c.used :: cs.toList
def CelsOf (F : Nat → Value → Frm → Prop) (xs : List Value) (l : List Cel) : Prop :=
  xs.length = l.length * 18 ∧ ∀ j (h : j < l.length), ∃ cs : Array Value, cs.size = 16 ∧ cs.all (·.oneCell') = true ∧ F j (.agg cs) l[j].frm ∧ ∀ i, i < 18 → xs[j * 18 + i]? = (celv l[j] cs)[i]?
theorem CelsOf.mono {F G : Nat → Value → Frm → Prop} {xs : List Value} {l : List Cel} (h : CelsOf F xs l) (hF : ∀ j v f, F j v f → G j v f) : CelsOf G xs l :=
  ⟨h.1, fun j hj => by
    obtain ⟨cs, h1, h2, h3, h4⟩ := h.2 j hj
    exact ⟨cs, h1, h2, hF _ _ _ h3, h4⟩⟩
def CAt (w : World) (B : Nat) (A : Option Addr) (l : List Cel) : Prop := 0 < l.length → ∃ b off xs, A = some ⟨b, off, none⟩ ∧ b < B ∧ w.rangeAt b off xs ∧ CelsOf (fun _ => FrmAt w B) xs l
theorem range_keep {w W : World} {b o : Nat} {l : List Value} (h : w.rangeAt b o l) (hb : W.heap[b]? = w.heap[b]?) : W.rangeAt b o l := fun j v hj => (World.cell?_of_block (a := ⟨b, o + j, none⟩) hb).trans (h j v hj)
theorem CAt.nil (w : World) (B : Nat) (A : Option Addr) : CAt w B A [] := fun h => absurd h (by simp)
theorem CAt.below {w w' : World} {B : Nat} {A : Option Addr} {l : List Cel} (h : CAt w B A l) {C : Nat} (hb : Below C w w') (hC : B ≤ C) : CAt w' B A l := fun h0 => by
  obtain ⟨b, off, xs, e, hlt, hr, hc⟩ := h h0
  exact ⟨b, off, xs, e, hlt, range_keep hr (hb.block b (by omega)), hc.mono fun _ _ _ k => k.below hb hC⟩
theorem CAt.more {w : World} {B C : Nat} {A : Option Addr} {l : List Cel} (h : CAt w B A l) (hC : B ≤ C) : CAt w C A l := fun h0 => by
  obtain ⟨b, off, xs, e, hlt, hr, hc⟩ := h h0
  exact ⟨b, off, xs, e, by omega, hr, hc.mono fun _ _ _ k => k.more hC⟩
/-- What a walk reads of a cell. -/
theorem CAt.cel {w : World} {B : Nat} {A : Option Addr} {l : List Cel} (h : CAt w B A l) {j : Nat} (hj : j < l.length) : ∃ b off, A = some ⟨b, off, none⟩ ∧ b < B ∧ ∃ cs : Array Value, cs.size = 16 ∧ cs.all (·.oneCell') = true ∧ FrmAt w B (.agg cs) l[j].frm ∧
    w.cell? ⟨b, off + j * 18, none⟩ = some (.int .i64 l[j].gen) ∧ w.cell? ⟨b, off + j * 18 + 1, none⟩ = some (.bool l[j].used) ∧ w.rangeAt b (off + j * 18 + 2) cs.toList ∧ w.rangeAt b (off + j * 18) (celv l[j] cs) := by
  obtain ⟨b, off, xs, e, hlt, hr, hc⟩ := h (by omega)
  obtain ⟨cs, h1, h2, h3, h4⟩ := hc.2 j hj
  have hR : w.rangeAt b (off + j * 18) (celv l[j] cs) := fun i u hu => by
    have hi : i < 18 := by
      have := (List.getElem?_eq_some_iff.1 hu).1
      simp only [List.length_cons, Array.length_toList, h1] at this
      omega
    rw [Nat.add_assoc]
    exact hr (j * 18 + i) u (by rw [h4 i hi]; exact hu)
  refine ⟨b, off, e, hlt, cs, h1, h2, h3, ?_, ?_, ?_, hR⟩
  · exact hR 0 _ rfl
  · exact hR 1 _ rfl
  · intro i u hu
    have := hR (i + 2) u (by simpa using hu)
    rw [show off + j * 18 + 2 + i = off + j * 18 + (i + 2) by omega]
    exact this
def OwnC (w : World) (B : Nat) (v : Value) (l : List Cel) : Prop := ∃ xs, w.ownsRow B 62 18 v l.length xs ∧ CelsOf (fun _ => OwnF w B) xs l
theorem OwnC.nil (w : World) (B : Nat) : OwnC w B (.slice none 0 0) [] := ⟨[], World.ownsRow_nil _ _ _ _, rfl, fun j h => absurd h (by simp)⟩
theorem row_lies {w : World} {B n size : Nat} {e : TypeId} {v : Value} {xs : List Value} (h : w.ownsRow B e size v n xs) : ∃ A c, v = .slice A n c ∧ (0 < n → ∃ b, A = some ⟨b, 0, none⟩ ∧ B ≤ b ∧ b < w.heap.size ∧ w.rangeAt b 0 xs) := by
  have hc := fun g hg => h.cells (g := g) hg
  have hlt := h.lt
  rcases h.2 with ⟨rfl, h0⟩ | ⟨g, cap, cur, rfl, hb, _⟩
  · subst h0
    exact ⟨none, 0, rfl, fun h => absurd h (by simp)⟩
  · refine ⟨_, _, rfl, fun _ => ⟨g, rfl, hb, (hlt g rfl).2, fun j u hj => ?_⟩⟩
    have k0 := hc g rfl j u hj
    rwa [p_add] at k0
theorem OwnC.lies {w : World} {B : Nat} {v : Value} {l : List Cel} (h : OwnC w B v l) : ∃ A c, v = .slice A l.length c ∧ CAt w w.heap.size A l := by
  obtain ⟨xs, h1, h2⟩ := h
  obtain ⟨A, c, e, k⟩ := row_lies h1
  refine ⟨A, c, e, fun h0 => ?_⟩
  obtain ⟨b, e2, _, hlt, hr⟩ := k h0
  exact ⟨b, 0, xs, e2, hlt, hr, h2.mono fun _ _ _ k => k.at⟩
theorem OwnC.at {w : World} {B n c : Nat} {A : Option Addr} {l : List Cel} (h : OwnC w B (.slice A n c) l) : CAt w w.heap.size A l := by
  obtain ⟨A', c', e, k⟩ := h.lies
  simp only [Value.slice.injEq] at e
  obtain ⟨rfl, _, rfl⟩ := e
  exact k
theorem infoC : (Try.prog.info? 62).map (fun i => (i.zero, i.size, i.bytes)) = some (some (.agg #[.int .i64 0, .bool false, .int .i64 0, .int .i64 0, .slice none 0 0, .slice none 0 0, .slice none 0 0, .int .i64 0, .int .i64 0, .int .i64 0, .int .i64 0, .int .i64 0, .int .i64 0, .int .i64 0, .int .i64 0, .int .i64 0, .int .i64 0, .int .i64 0]), 18, 192) := by kernel_rfl
theorem celsOf_one {F : Nat → Value → Frm → Prop} {xs : List Value} {l : List Cel} (h : CelsOf F xs l) : ∀ u ∈ xs, u.oneCell' = true := fun u hu => by
  obtain ⟨i, hi, rfl⟩ := List.mem_iff_getElem.1 hu
  have hl := h.1
  have hd : i = i / 18 * 18 + i % 18 := by omega
  have hm : i % 18 < 18 := by omega
  obtain ⟨cs, h1, h2, _, h4⟩ := h.2 (i / 18) (by omega)
  have e := h4 (i % 18) hm
  rw [← hd, List.getElem?_eq_getElem hi] at e
  have hmem : xs[i] ∈ celv l[i / 18] cs := List.mem_of_getElem? e.symm
  simp only [List.mem_cons] at hmem
  rcases hmem with e | e | e
  · rw [e]; rfl
  · rw [e]; rfl
  · exact (Array.all_eq_true_iff_forall_mem.1 h2) _ (by simpa using e)

/-! Pens. -/
abbrev pv (A : Option Addr) (n c : Nat) (A2 : Option Addr) (m c2 : Nat) (t : Int) : Value := .agg #[.slice A n c, .slice A2 m c2, .int .i64 t]
abbrev pc (A : Option Addr) (n c : Nat) (A2 : Option Addr) (m c2 : Nat) (t : Int) : Array Value := #[.slice A n c, .slice A2 m c2, .int .i64 t]
abbrev pz0 : Array Value := #[.slice none 0 0, .slice none 0 0, .int .i64 0]
/-- A pen's lists can be read. -/
structure PAtZ (w : World) (B : Nat) (A A2 : Option Addr) (p : Zp) : Prop where
  cells : CAt w B A p.cells
  free : IAt w B A2 p.free
theorem PAtZ.below {w w' : World} {B : Nat} {A A2 : Option Addr} {p : Zp} (h : PAtZ w B A A2 p) {C : Nat} (hb : Below C w w') (hC : B ≤ C) : PAtZ w' B A A2 p := ⟨h.cells.below hb hC, h.free.below hb hC⟩
theorem PAtZ.more {w : World} {B C : Nat} {A A2 : Option Addr} {p : Zp} (h : PAtZ w B A A2 p) (hC : B ≤ C) : PAtZ w C A A2 p := ⟨h.cells.more hC, h.free.more hC⟩
theorem PAtZ.later {w w' : World} {A A2 : Option Addr} {p : Zp} (h : PAtZ w w.heap.size A A2 p) (hb : Below w.heap.size w w') : PAtZ w' w'.heap.size A A2 p := (h.below hb (Nat.le_refl _)).more hb.size
/-- A pen of one's own. -/
structure OwnZ (w : World) (B : Nat) (A : Option Addr) (c : Nat) (A2 : Option Addr) (c2 : Nat) (p : Zp) : Prop where
  cells : OwnC w B (.slice A p.cells.length c) p.cells
  free : OwnI w B (.slice A2 p.free.length c2) p.free
theorem OwnZ.at {w : World} {B c c2 : Nat} {A A2 : Option Addr} {p : Zp} (h : OwnZ w B A c A2 c2 p) : PAtZ w w.heap.size A A2 p := ⟨h.cells.at, h.free.at⟩
theorem OwnF.mono {w : World} {B C : Nat} {v : Value} {F : Frm} (h : OwnF w B v F) (hC : C ≤ B) : OwnF w C v F := by
  obtain ⟨s, l, o, e, h1, h2, h3⟩ := h
  exact ⟨s, l, o, e, row_mono h1 hC, row_mono h2 hC, row_mono h3 hC⟩
/-- Where the blocks from B on that are of other types than t are as they were. -/
def KTy (w w' : World) (t : TypeId) : Prop := ∀ (g : Nat) (e : TypeId) (cs : Array Value) (fr : Nat × Nat), w.heap[g]? = some (Obj.cells cs e fr) → e ≠ t → w'.heap[g]? = w.heap[g]?
theorem row_kt {w w' : World} {B n size : Nat} {e t : TypeId} {v : Value} {xs : List Value} (h : w.ownsRow B e size v n xs) (hk : KTy w w' t) (ht : e ≠ t) : w'.ownsRow B e size v n xs := by
  refine ⟨h.1, ?_⟩
  rcases h.2 with h' | ⟨g, cap, cur, rfl, hb, hg, r⟩
  · exact .inl h'
  · exact .inr ⟨g, cap, cur, rfl, hb, (hk g e cur (0, 0) hg ht).trans hg, r⟩
theorem OwnF.kt {w w' : World} {B : Nat} {v : Value} {F : Frm} {t : TypeId} (h : OwnF w B v F) (hk : KTy w w' t) (h1 : 31 ≠ t) (h2 : 72 ≠ t) : OwnF w' B v F := by
  obtain ⟨s, l, o, e, k1, k2, k3⟩ := h
  exact ⟨s, l, o, e, row_kt k1 hk h1, row_kt k2 hk h1, row_kt k3 hk h2⟩
theorem OwnC.kt {w w' : World} {B : Nat} {v : Value} {l : List Cel} {t : TypeId} (h : OwnC w B v l) (hk : KTy w w' t) (h1 : 31 ≠ t) (h2 : 72 ≠ t) (h3 : 62 ≠ t) : OwnC w' B v l := by
  obtain ⟨xs, k1, k2⟩ := h
  exact ⟨xs, row_kt k1 hk h3, k2.mono fun _ _ _ k => k.kt hk h1 h2⟩
theorem OwnZ.kt {w w' : World} {B c c2 : Nat} {A A2 : Option Addr} {p : Zp} {t : TypeId} (h : OwnZ w B A c A2 c2 p) (hk : KTy w w' t) (h1 : 31 ≠ t) (h2 : 72 ≠ t) (h3 : 62 ≠ t) (h4 : 3 ≠ t) : OwnZ w' B A c A2 c2 p :=
  ⟨h.cells.kt hk h1 h2 h3, row_kt h.free hk h4⟩
theorem OwnF.below {w w' : World} {B : Nat} {v : Value} {F : Frm} (h : OwnF w B v F) (hb : Below w.heap.size w w') : OwnF w' B v F := by
  obtain ⟨s, l, o, e, h1, h2, h3⟩ := h
  exact ⟨s, l, o, e, r_later h1 hb, r_later h2 hb, r_later h3 hb⟩
theorem OwnC.below {w w' : World} {B : Nat} {v : Value} {l : List Cel} (h : OwnC w B v l) (hb : Below w.heap.size w w') : OwnC w' B v l := by
  obtain ⟨xs, k1, k2⟩ := h
  exact ⟨xs, r_later k1 hb, k2.mono fun _ _ _ k => k.below hb⟩
theorem OwnZ.below {w w' : World} {B c c2 : Nat} {A A2 : Option Addr} {p : Zp} (h : OwnZ w B A c A2 c2 p) (hb : Below w.heap.size w w') : OwnZ w' B A c A2 c2 p := ⟨h.cells.below hb, r_later h.free hb⟩
theorem OwnC.mono {w : World} {B C : Nat} {v : Value} {l : List Cel} (h : OwnC w B v l) (hC : C ≤ B) : OwnC w C v l := by
  obtain ⟨xs, k1, k2⟩ := h
  exact ⟨xs, row_mono k1 hC, k2.mono fun _ _ _ k => k.mono hC⟩
theorem OwnZ.mono {w : World} {B C c c2 : Nat} {A A2 : Option Addr} {p : Zp} (h : OwnZ w B A c A2 c2 p) (hC : C ≤ B) : OwnZ w C A c A2 c2 p := ⟨h.cells.mono hC, row_mono h.free hC⟩
end Go.Proofs.Ytkpjlobpaippdaa
