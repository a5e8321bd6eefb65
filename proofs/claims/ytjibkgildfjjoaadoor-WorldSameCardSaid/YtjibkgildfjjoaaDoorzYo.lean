/- Layer 12: cells appended, stored; slices cloned. -/
import Derived.Test.YtjibkgildfjjoaaDoorzYn
import Derived.Lib.SliceRun
import Derived.WalkLawsBesides
import Derived.Deep.DeepCutAuto
import Derived.Deep.CutBlock
import Derived.Test.YtjibkgildfjjoaaDoorzRw
import Derived.Test.YtjibkgildfjjoaaDoorzQt
import Derived.Deep.RegionHeld3
import Derived.BigQuiet
import Derived.Test.YtjibkgildfjjoaaDoorzHd
namespace Go.Proofs.YtjibkgildfjjoaaDoor
set_option linter.unusedVariables false
set_option linter.unusedSimpArgs false
open Go.RowKit Go.ChangeShapes Go.WideShapes Go.ChangeAt Go.Sort

/-- What is turned is of type t alone. -/
theorem KTy.refl (w : World) (t : TypeId) : KTy w w t := fun _ _ _ _ _ _ => rfl
theorem KTy.of_below {w w' : World} (h : Below w.heap.size w w') (t : TypeId) : KTy w w' t := fun g e cs fr hg _ => h.block g (by
  rcases Nat.lt_or_ge g w.heap.size with hlt | hge
  · exact hlt
  · rw [Array.getElem?_eq_none hge] at hg; cases hg)
theorem kt_own {w w' : World} {B n size : Nat} {e : TypeId} {v : Value} {xs : List Value} (h : w.ownsRow B e size v n xs) (hg : w.grownBy w' v.ownBlock) : KTy w w' e := fun g e' cs fr hc hne => by
  refine hg.block g ?_ fun e2 => ?_
  · rcases Nat.lt_or_ge g w.heap.size with hlt | hge
    · exact hlt
    · rw [Array.getElem?_eq_none hge] at hc; cases hc
  · rcases h.2 with ⟨rfl, _⟩ | ⟨g', cap, cur, rfl, _, hh, _⟩
    · simp [Value.ownBlock] at e2
    · simp only [Value.ownBlock, Option.some.injEq] at e2
      subst e2
      rw [hc] at hh
      simp at hh
      exact hne hh.2.1
theorem tyCV : 35 ≠ 56 := by decide
theorem tyCS : 121 ≠ 56 := by decide
theorem tyCI : 3 ≠ 56 := by decide
theorem tyVI : 35 ≠ 3 := by decide
theorem tySI : 121 ≠ 3 := by decide
theorem tyCel : 56 ≠ 3 := by decide

/-- A list, some of it laid over. -/
def setL : List Value → Nat → List Value → List Value
  | xs, _, [] => xs
  | xs, o, v :: r => setL (xs.set o v) (o + 1) r
theorem setL_len : ∀ (vs xs : List Value) (o : Nat), (setL xs o vs).length = xs.length
  | [], _, _ => rfl
  | v :: r, xs, o => by rw [setL, setL_len r]; simp
theorem setL_out : ∀ (vs xs : List Value) (o k : Nat), k < o ∨ o + vs.length ≤ k → (setL xs o vs)[k]? = xs[k]?
  | [], _, _, _, _ => rfl
  | v :: r, xs, o, k, h => by
    rw [setL, setL_out r (xs.set o v) (o + 1) k (by simp at h; omega), List.getElem?_set_ne (by simp at h; omega)]
theorem setL_in : ∀ (vs xs : List Value) (o k : Nat), o ≤ k → k < o + vs.length → o + vs.length ≤ xs.length → (setL xs o vs)[k]? = vs[k - o]?
  | [], _, _, _, _, h, _ => absurd h (by simp; omega)
  | v :: r, xs, o, k, h1, h2, h3 => by
    rw [setL]
    by_cases hk : k = o
    · subst hk
      rw [setL_out r _ _ _ (by omega), List.getElem?_set_self (by simp at h3; omega)]
      simp
    · rw [setL_in r (xs.set o v) (o + 1) k (by omega) (by simp at h2; omega) (by simp at h3 ⊢; omega)]
      obtain ⟨d, hd⟩ : ∃ d, k - o = d + 1 := ⟨k - o - 1, by omega⟩
      rw [hd, show k - (o + 1) = d by omega]
      simp
theorem row_setCells : ∀ (vs : List Value) (o : Nat) {w : World} {B e size n c g : Nat} {xs : List Value}, w.ownsRow B e size (.slice (some ⟨g, 0, none⟩) n c) n xs → (w.setCells g o vs).ownsRow B e size (.slice (some ⟨g, 0, none⟩) n c) n (setL xs o vs)
  | [], _, _, _, _, _, _, _, _, _, h => h
  | v :: r, o, w, B, e, size, n, c, g, xs, h => by
    rw [World.setCells, setL]
    exact row_setCells r (o + 1) (h.stored o v).1
theorem setCells_far : ∀ (vs : List Value) (o : Nat) (w : World) (g k : Nat), k ≠ g → (w.setCells g o vs).heap[k]? = w.heap[k]?
  | [], _, _, _, _, _ => rfl
  | v :: r, o, w, g, k, h => by
    rw [World.setCells, setCells_far r (o + 1) _ g k h]
    exact Below.heap_setCell w ⟨g, o, none⟩ v k h
theorem setCells_size : ∀ (vs : List Value) (o : Nat) (w : World) (g : Nat), (w.setCells g o vs).heap.size = w.heap.size
  | [], _, _, _ => rfl
  | v :: r, o, w, g => by
    rw [World.setCells, setCells_size r]
    simp [World.setCell]
theorem setCells_rest : ∀ (vs : List Value) (o : Nat) (w : World) (g : Nat), (w.setCells g o vs).os = w.os ∧ (w.setCells g o vs).tape = w.tape ∧ (w.setCells g o vs).output = w.output
  | [], _, _, _ => ⟨rfl, rfl, rfl⟩
  | v :: r, o, w, g => by
    rw [World.setCells]
    exact setCells_rest r (o + 1) (w.setCell ⟨g, o, none⟩ v) g
theorem grown_setCells (w : World) (g o : Nat) (vs : List Value) : w.grownBy (w.setCells g o vs) (some g) :=
  ⟨(setCells_rest vs o w g).1, (setCells_rest vs o w g).2.1, (setCells_rest vs o w g).2.2, Nat.le_of_eq (setCells_size vs o w g).symm, fun k _ h => setCells_far vs o w g k (fun e => h (by rw [e]))⟩
theorem below_setCells {w u : World} {B : Nat} (h : Below B w u) {g : Nat} (hg : B ≤ g) (o : Nat) (vs : List Value) : Below B w (u.setCells g o vs) :=
  ⟨(setCells_rest vs o u g).1.trans h.os, (setCells_rest vs o u g).2.1.trans h.tape, (setCells_rest vs o u g).2.2.trans h.output, by rw [setCells_size]; exact h.size, fun k hk => (setCells_far vs o u g k (by omega)).trans (h.block k hk)⟩
theorem kt_setCells {w : World} {B n size c g : Nat} {e : TypeId} {xs : List Value} (h : w.ownsRow B e size (.slice (some ⟨g, 0, none⟩) n c) n xs) (o : Nat) (vs : List Value) : KTy w (w.setCells g o vs) e := kt_own h (grown_setCells w g o vs)
theorem row_there {w : World} {B n size c g : Nat} {e : TypeId} {xs : List Value} (h : w.ownsRow B e size (.slice (some ⟨g, 0, none⟩) n c) n xs) {o k : Nat} (hk : o + k ≤ n * size) : w.there g o k := fun j hj => by
  have hl := h.1
  refine ⟨?_, h.frozenAt _⟩
  rw [h.cellAt (o + j) (by omega), List.getElem?_eq_getElem (by omega)]
  rfl
/-- A cell laid over. -/
theorem celsOf_set {F G : Nat → Value → Frm → Prop} {xs : List Value} {l : List Cel} (h : CelsOf F xs l) {j : Nat} (hj : j < l.length) {c : Cel} {cs : Array Value} (h1 : cs.size = 16) (h2 : cs.all (·.oneCell') = true) (h3 : G j (.agg cs) c.frm)
    (hF : ∀ k v f, k ≠ j → F k v f → G k v f) : CelsOf G (setL xs (j * 18) (celv c cs)) (l.set j c) := by
  have hlen : (celv c cs).length = 18 := by simp [h1]
  refine ⟨by rw [setL_len, List.length_set]; exact h.1, fun k hk => ?_⟩
  rw [List.length_set] at hk
  have hx := h.1
  by_cases e : k = j
  · subst e
    refine ⟨cs, h1, h2, by rw [List.getElem_set_self]; exact h3, fun i hi => ?_⟩
    rw [List.getElem_set_self, setL_in _ _ _ _ (by omega) (by omega) (by omega)]
    congr 1
    omega
  · obtain ⟨ds, d1, d2, d3, d4⟩ := h.2 k hk
    refine ⟨ds, d1, d2, by rw [List.getElem_set_ne (Ne.symm e)]; exact hF k _ _ e d3, fun i hi => ?_⟩
    rw [List.getElem_set_ne (Ne.symm e), setL_out _ _ _ _ (by rw [hlen]; omega)]
    exact d4 i hi
/-- A cell's frame laid over. -/
theorem celsOf_frm {F G : Nat → Value → Frm → Prop} {xs : List Value} {l : List Cel} (h : CelsOf F xs l) {j : Nat} (hj : j < l.length) {f : Frm} {cs : Array Value} (h1 : cs.size = 16) (h2 : cs.all (·.oneCell') = true) (h3 : G j (.agg cs) f)
    (hF : ∀ k v f, k ≠ j → F k v f → G k v f) : CelsOf G (setL xs (j * 18 + 2) cs.toList) (l.set j ⟨l[j].gen, l[j].used, f⟩) := by
  have hlen : cs.toList.length = 16 := by simp [h1]
  refine ⟨by rw [setL_len, List.length_set]; exact h.1, fun k hk => ?_⟩
  rw [List.length_set] at hk
  have hx := h.1
  by_cases e : k = j
  · subst e
    refine ⟨cs, h1, h2, by rw [List.getElem_set_self]; exact h3, fun i hi => ?_⟩
    rw [List.getElem_set_self]
    obtain ⟨ds, d1, d2, d3, d4⟩ := h.2 k hj
    by_cases hi2 : i < 2
    · rw [setL_out _ _ _ _ (by omega), d4 i hi]
      match i, hi2 with
      | 0, _ => rfl
      | 1, _ => rfl
    · rw [setL_in _ _ _ _ (by omega) (by omega) (by omega)]
      obtain ⟨d, rfl⟩ : ∃ d, i = d + 2 := ⟨i - 2, by omega⟩
      rw [show k * 18 + (d + 2) - (k * 18 + 2) = d by omega]
      rfl
  · obtain ⟨ds, d1, d2, d3, d4⟩ := h.2 k hk
    refine ⟨ds, d1, d2, by rw [List.getElem_set_ne (Ne.symm e)]; exact hF k _ _ e d3, fun i hi => ?_⟩
    rw [List.getElem_set_ne (Ne.symm e), setL_out _ _ _ _ (by rw [hlen]; omega)]
    exact d4 i hi
theorem celsOf_app {F : Nat → Value → Frm → Prop} {xs ys : List Value} {l k : List Cel} (h : CelsOf F xs l) (h' : CelsOf (fun j => F (l.length + j)) ys k) : CelsOf F (xs ++ ys) (l ++ k) := by
  have hx := h.1
  have hy := h'.1
  refine ⟨by rw [List.length_append, List.length_append]; omega, fun j hj => ?_⟩
  rw [List.length_append] at hj
  by_cases e : j < l.length
  · obtain ⟨cs, d1, d2, d3, d4⟩ := h.2 j e
    refine ⟨cs, d1, d2, by rw [List.getElem_append_left e]; exact d3, fun i hi => ?_⟩
    rw [List.getElem_append_left e, List.getElem?_append_left (by omega)]
    exact d4 i hi
  · obtain ⟨cs, d1, d2, d3, d4⟩ := h'.2 (j - l.length) (by omega)
    refine ⟨cs, d1, d2, ?_, fun i hi => ?_⟩
    · rw [List.getElem_append_right (by omega)]
      rw [show l.length + (j - l.length) = j by omega] at d3
      exact d3
    · rw [List.getElem_append_right (by omega), List.getElem?_append_right (by omega), show j * 18 + i - xs.length = (j - l.length) * 18 + i by omega]
      exact d4 i hi
theorem celsOf_nil (F : Nat → Value → Frm → Prop) : CelsOf F [] [] := ⟨rfl, fun j h => absurd h (by simp)⟩
theorem celsOf_one1 {F : Nat → Value → Frm → Prop} {c : Cel} {cs : Array Value} (h1 : cs.size = 16) (h2 : cs.all (·.oneCell') = true) (h3 : F 0 (.agg cs) c.frm) : CelsOf F (celv c cs) [c] :=
  ⟨by simp [h1], fun j h => by
    obtain rfl : j = 0 := by simpa using h
    exact ⟨cs, h1, h2, h3, fun i hi => by rw [Nat.zero_mul, Nat.zero_add]; rfl⟩⟩
/-- Cells appended. -/
theorem wpList_append_cs {w : World} {ops : Array Oper} {rest : List Oper} {o : Oper} {a : Act} {Q : Exit → Act → World → Prop}
    (hg : o.guard = none) (s x : Operand) (hop : o.op = Op.call { callee := Callee.builtin Builtin.append, args := #[s, x], argTypes := #[26, 26] })
    (B : Nat) (v : Value) (l : Nat) {xs : List Value} (hs : a.eval s = v) (own : w.ownsRow B 56 18 v l xs) {b off : Nat} {ys : List Value} {n c : Nat} (hx : a.eval x = .slice (some ⟨b, off, none⟩) n c) (hr : w.rangeAt b off ys) (hyl : ys.length = n * 18) (h1 : ∀ u ∈ ys, u.oneCell' = true)
    (hn1 : 1 ≤ n) (hlen : l + n ≤ 100000) (hB : B ≤ w.heap.size)
    (h : ∀ A' m c' w', m = l + n → w'.ownsRow B 56 18 (.slice A' m c') m (xs ++ ys) → w.grownBy w' v.ownBlock → wpList Tryd.prog ops Q rest (a.put o.dst (.slice A' m c')) w') : wpList Tryd.prog ops Q (o :: rest) a w := by
  obtain ⟨q, hi, hz0, hz1, hz2⟩ := info_parts infoC
  refine wpList_append_lies _ hg s x 26 hop B 56 q _ 18 192 Tryd.underlying26 hi hz0 hz1 hz2 rfl (by decide) v l xs hs own ⟨b, off, none⟩ n c
    ys hx hyl (fun j u hj => by rw [p_add]; exact hr j u hj) h1 (by omega) (by unfold maxLen; omega) (by omega) hB _ rfl ?_
  intro g cap w' k1 k2 k3 k4
  exact h _ _ _ w' rfl k1 k2
theorem run_zeroC (w : World) (g c c2 : Nat) (A : Option Addr) (ty : TypeId) : (Builtin.append_ #[26, 26] ty #[.slice (some ⟨g, 0, none⟩) 0 c, .slice A 0 c2]).run Tryd.prog w = .ok (.slice (some ⟨g, 0, none⟩) 0 c) w := by
  obtain ⟨i, hi, hz0, hz1, hz2⟩ := info_parts infoC
  cases A <;> simp [Builtin.append_, run_underlying Tryd.underlying26, sizeOf, typeInfo, hi, storeCells, loadCellsFrom, Builtin.lenOf, Builtin.firstCells, loadCells]
theorem wpList_append_cs0 {w : World} {ops : Array Oper} {rest : List Oper} {o : Oper} {a : Act} {Q : Exit → Act → World → Prop}
    (hg : o.guard = none) (s x : Operand) (hop : o.op = Op.call { callee := Callee.builtin Builtin.append, args := #[s, x], argTypes := #[26, 26] })
    (w0 : World) (hw : w = w0.alloc (.cells #[] 56)) (hs : a.eval s = .slice (some ⟨w0.heap.size, 0, none⟩) 0 0) {A : Option Addr} {l : List Cel} {n c C : Nat} (hn : l.length = n) (hx : a.eval x = .slice A n c) (hc : CAt w0 C A l) (hC : C ≤ w0.heap.size)
    (hlen : n ≤ 10000)
    (h : ∀ A' c' w' ys, w'.ownsRow w0.heap.size 56 18 (.slice A' n c') n ys → CelsOf (fun _ => FrmAt w' C) ys l → Below w0.heap.size w0 w' → wpList Tryd.prog ops Q rest (a.put o.dst (.slice A' n c')) w') : wpList Tryd.prog ops Q (o :: rest) a w := by
  subst hn
  subst hw
  by_cases hk : l = []
  · subst hk
    refine wpList_plain hg fun K hK' => ?_
    have hr := fun ty => run_zeroC (w0.alloc (.cells #[] 56)) w0.heap.size 0 c A ty
    have hx2 : a.eval x = .slice A 0 c := hx
    unfold Oper.wp execOp
    simp only [hop, resolve, invoke, builtin, Sem.run_bind, Sem.run_pure, Result.andThen_ok, List.map_toArray, List.map_cons, List.map_nil, hs, hx2, hr]
    exact hK' _ _ (h _ _ _ [] (World.ownsRow_made w0 #[] 0 (Nat.le_refl _) (by decide) rfl) (celsOf_nil _) ((Below.refl _ _).alloc (Nat.le_refl _) _))
  · have h1 : 1 ≤ l.length := by
      cases l with
      | nil => exact absurd rfl hk
      | cons y ys => simp
    have hbe : Below w0.heap.size w0 (w0.alloc (.cells #[] 56)) := (Below.refl _ _).alloc (Nat.le_refl _) _
    obtain ⟨b, off, ys, rfl, hb, hr, hcs⟩ := hc (by omega)
    refine wpList_append_cs hg s x hop w0.heap.size _ 0 (xs := []) hs (World.ownsRow_made w0 #[] 0 (Nat.le_refl _) (by decide) rfl) hx (range_keep hr (hbe.block b (by omega))) hcs.1 (celsOf_one hcs) h1 (by omega) (by simp) fun A' m c' w' hm k1 k2 => ?_
    obtain rfl : m = l.length := by omega
    rw [List.nil_append] at k1
    have hb2 : Below w0.heap.size w0 w' := ((Below.refl _ _).alloc (Nat.le_refl _) _).grown k2 (by simp) (by intro j hj; simp [Value.ownBlock] at hj; omega)
    exact h A' c' w' ys k1 (hcs.mono fun _ _ _ k => k.below hb2 hC) hb2

set_option maxHeartbeats 1000000 in
set_option maxRecDepth 100000 in
theorem cloi_any {A : Option Addr} {l : List Int} {B n : Nat} (c : Nat) (w : World) (hn : l.length = n) (h : IAt w B A l) (hl : n ≤ 10000) (hB : B ≤ w.heap.size) :
    Calls Tryd.prog 76 #[.slice A n c] w fun e w' => ∃ A' c', e = .returned (.slice A' n c') ∧ OwnI w' w.heap.size (.slice A' n c') l ∧ Below w.heap.size w w' := by
  have q : ∀ (w : World) (a : Option Addr) (n c n' c' : Nat), (binOp .eql 27 (.slice a n c) (.slice none n' c')).run Tryd.prog w = .ok (.bool a.isNone) w := fun w a n c n' c' => Lib.run_eql_slice_nil w _ _ a n c n' c' Tryd.underlying27
  have HN := Lib.hid hn
  cases A with
  | none =>
    have h0 : l = [] := by
      by_cases h1 : 0 < l.length
      · obtain ⟨b, off, e, _⟩ := h h1
        cases e
      · exact List.eq_nil_of_length_eq_zero (by omega)
    subst h0
    obtain rfl : 0 = n := hn
    go_enter Tryd.func76, Tryd.ntmps76
    go_wp2_with fail
    go_ret
    exact ⟨none, 0, rfl, OwnI.nil _ _, Below.refl _ _⟩
  | some a =>
    have HVA := Lib.hid (h.below ((Below.refl w.heap.size w).alloc (Nat.le_refl _) (.cells #[] 3)) hB)
    have HL := Lib.hid (show n ≤ 1000000 by omega)
    clear h hB hn hl
    go_enter Tryd.func76, Tryd.ntmps76
    go_wp2_with (at_builtin; refine wpList_append_is0 rfl _ _ rfl w rfl rfl HN.out rfl HVA.out HL.out ?_; intro A6 c6 u6 k1 k2)
    go_ret
    exact ⟨A6, c6, rfl, k1, k2⟩
set_option maxHeartbeats 1000000 in
set_option maxRecDepth 100000 in
theorem cloc_any {A : Option Addr} {l : List Cel} {B n : Nat} (c : Nat) (w : World) (hn : l.length = n) (h : CAt w B A l) (hl : n ≤ 10000) (hB : B ≤ w.heap.size) :
    Calls Tryd.prog 75 #[.slice A n c] w fun e w' => ∃ A' c' xs, e = .returned (.slice A' n c') ∧ w'.ownsRow w.heap.size 56 18 (.slice A' n c') n xs ∧ CelsOf (fun _ => FrmAt w' B) xs l ∧ Below w.heap.size w w' := by
  have q : ∀ (w : World) (a : Option Addr) (n c n' c' : Nat), (binOp .eql 26 (.slice a n c) (.slice none n' c')).run Tryd.prog w = .ok (.bool a.isNone) w := fun w a n c n' c' => Lib.run_eql_slice_nil w _ _ a n c n' c' Tryd.underlying26
  have HN := Lib.hid hn
  cases A with
  | none =>
    have h0 : l = [] := by
      by_cases h1 : 0 < l.length
      · obtain ⟨b, off, xs, e, _⟩ := h h1
        cases e
      · exact List.eq_nil_of_length_eq_zero (by omega)
    subst h0
    obtain rfl : 0 = n := hn
    go_enter Tryd.func75, Tryd.ntmps75
    go_wp2_with fail
    go_ret
    exact ⟨none, 0, [], rfl, World.ownsRow_nil _ _ _ _, celsOf_nil _, Below.refl _ _⟩
  | some a =>
    have HVA := Lib.hid h
    have HL := Lib.hid (show n ≤ 10000 by omega)
    have HB := Lib.hid hB
    clear h hB hn hl
    go_enter Tryd.func75, Tryd.ntmps75
    go_wp2_with (at_builtin; refine wpList_append_cs0 rfl _ _ rfl w rfl rfl HN.out rfl HVA.out HB.out HL.out ?_; intro A6 c6 u6 ys k1 k2 k3)
    go_ret
    exact ⟨A6, c6, ys, rfl, k1, k2, k3⟩
end Go.Proofs.YtjibkgildfjjoaaDoor

/- Layer 12: the steps of drawn regions. -/


/- Layer 12: what a call leaves; New; whether a ref has a cell. -/
namespace Go.Proofs.YtjibkgildfjjoaaDoor
set_option linter.unusedVariables false
set_option linter.unusedSimpArgs false
open Go.RowKit Go.ChangeShapes Go.WideShapes Go.ChangeAt Go.Sort

theorem load_pen {w : World} {g : Nat} {cs : Array Value} (h : Held w g 29 cs) (hs : cs.size = 3) : (loadVar 29 ⟨g, 0, none⟩).run Tryd.prog w = .ok (.agg cs) w :=
  run_loadVar_row (P := Tryd.prog) _ g 29 29 _ (0, 0) _ h Tryd.underlying29 rfl (by rw [hs]; kernel_rfl)
abbrev refc (x y : Int) : Array Value := #[.int .i64 x, .int .i64 y]
abbrev fzc : Array Value := #[.int .i64 0, .int .i64 0, .slice none 0 0, .slice none 0 0, .slice none 0 0, .int .i64 0, .int .i64 0, .int .i64 0, .int .i64 0, .int .i64 0, .int .i64 0, .int .i64 0, .int .i64 0, .int .i64 0, .int .i64 0, .int .i64 0]
set_option maxHeartbeats 2000000 in
set_option maxRecDepth 100000 in
theorem newZ_z (m : Int) (w : World) : Calls Tryd.prog 32 #[.int .i64 m] w fun e w' => e = .returned (.tuple #[pv none 0 0 none 0 0 (newZ m).1.most, .bool (newZ m).2]) ∧ Below w.heap.size w w' := by
  have g4 := Held.new w 29 pz0
  have hb0 : Below w.heap.size w (w.alloc (.cells pz0 29)) := (Below.refl _ _).alloc (Nat.le_refl _) _
  by_cases h : 1 ≤ m ∧ m ≤ 1024
  · have e : newZ m = (⟨[], [], m⟩, true) := if_pos h
    rw [e]
    have c1 : decide (m < 1) = false := decide_eq_false (by omega)
    have c2 : decide (1024 < m) = false := decide_eq_false (by omega)
    clear h e
    go_enter Tryd.func32, Tryd.ntmps32
    go_upto_region 1 with (fail)
    generalize w.alloc (.cells pz0 29) = W0 at *
    go_wp2_with (guard_target = wpList _ _ _ (Oper.mk _ (Op.store 29 (.tmp 2) _) _ _ _ none :: _) _ _; refine wpList_store_row rfl 29 _ _ rfl w.heap.size (pc none 0 0 none 0 0 m) rfl rfl _ _ g4 (by kernel_rfl) rfl (by simp [Value.oneCell']) ?_)
    exact bodyPost_ret (results_ct0 rfl _ _ rfl rfl (load_pen (held_rowSelf g4 (pc none 0 0 none 0 0 m)) rfl)) rfl ⟨rfl, below_setRow hb0 (Nat.le_refl _) _⟩
  · have e : newZ m = (zp0, false) := if_neg h
    rw [e]
    have hcs : decide (m < 1) = true ∨ (decide (m < 1) = false ∧ decide (1024 < m) = true) := by
      simp only [decide_eq_true_eq, decide_eq_false_iff_not]
      omega
    clear h e
    rcases hcs with c1 | ⟨c1, c2⟩
    all_goals
      go_enter Tryd.func32, Tryd.ntmps32
      go_upto_region 1 with (fail)
      generalize w.alloc (.cells pz0 29) = W0 at *
      go_wp2_with (guard_target = wpList _ _ _ (Oper.mk _ (Op.store 29 (.tmp 2) _) _ _ _ none :: _) _ _; refine wpList_store_row rfl 29 _ _ rfl w.heap.size pz0 rfl rfl _ _ g4 (by kernel_rfl) rfl (by simp [Value.oneCell']) ?_)
      exact bodyPost_ret (results_ct0 rfl _ _ rfl rfl (load_pen (held_rowSelf g4 pz0) rfl)) rfl ⟨rfl, below_setRow hb0 (Nat.le_refl _) _⟩
end Go.Proofs.YtjibkgildfjjoaaDoor

/- Layer 12: a drawn region whose last store turns what was read: what is read is told ahead of it. -/
namespace Go.Proofs.YtjibkgildfjjoaaDoor
set_option linter.unusedVariables false
set_option linter.unusedSimpArgs false
open Go Go.RowKit Go.ChangeShapes Go.WideShapes Go.ChangeAt Go.Sort

/-- Whatever order is picked; S holds behind each operation but number k. -/
def wpAnyK (P : Program) (md : Region.Mode) (ops : Array Oper) (Q : Exit → Act → World → Prop) (k : Nat) (S : World → Prop) : Nat → Array Bool → Act → World → Prop
  | 0, listed, a, w => Region.ready md ops listed = [] ∧ Q .normal a w
  | fuel + 1, listed, a, w =>
    (Region.ready md ops listed = [] → Q .normal a w) ∧
    ∀ i ∈ Region.ready md ops listed, wpOp P ops Q i (fun a' w' => (i ≠ k → S w') ∧ wpAnyK P md ops Q k S fuel (listed.setIfInBounds i true) a' w') a w
section
variable {P : Program} {md : Region.Mode} {ops : Array Oper} {Q : Exit → Act → World → Prop} {k : Nat} {S : World → Prop}
theorem wpAny_of_K : ∀ (fuel : Nat) (listed : Array Bool) (a : Act) (w : World), wpAnyK P md ops Q k S fuel listed a w → wpAny P md ops Q fuel listed a w
  | 0, _, _, _, h => h
  | fuel + 1, _, _, _, h => ⟨h.1, fun i hi => wpOp_mono (fun a' w' h' => wpAny_of_K fuel _ a' w' h'.2) (h.2 i hi)⟩
/-- Number k waits for number i. -/
def waitsB (md : Region.Mode) (ops : Array Oper) (k i : Nat) : Bool := match ops[k]? with
  | some o => o.after.any fun e => Region.binds md e && e.on == i
  | none => false
theorem waits_spec {i : Nat} {o : Oper} (h : waitsB md ops k i = true) (ho : ops[k]? = some o) : ∃ e ∈ o.after, Region.binds md e = true ∧ e.on = i := by
  unfold waitsB at h
  rw [ho] at h
  obtain ⟨e, he, h2⟩ := Array.any_eq_true'.1 h
  simp only [Bool.and_eq_true, beq_iff_eq] at h2
  exact ⟨e, he, h2⟩
/-- A row of operations, each of which waits for the one ahead of it, the first one for i. -/
def pathB (md : Region.Mode) (ops : Array Oper) : Nat → List Nat → Bool
  | _, [] => true
  | i, m :: r => waitsB md ops m i && pathB md ops m r
def unlB (listed : Array Bool) (l : List Nat) : Bool := l.all fun m => !listed.getD m true
theorem not_ready {j : Nat} {oj : Oper} {listed : Array Bool} (hoj : ops[j]? = some oj) (hall : ∀ e ∈ oj.after, Region.binds md e = true → listed.getD e.on false = true) :
    ∀ (l : List Nat) (i : Nat), listed.getD i true = false → pathB md ops i l = true → unlB listed l = true → j ∉ l
  | [], _, _, _, _ => by simp
  | m :: r, i, h0, hp, hu => by
    simp only [pathB, Bool.and_eq_true] at hp
    simp only [unlB, List.all_cons, Bool.and_eq_true, Bool.not_eq_true'] at hu
    have hr := not_ready hoj hall r m hu.1 hp.2 hu.2
    intro hj
    rcases List.mem_cons.1 hj with rfl | hj
    · obtain ⟨e, he, hb, h9⟩ := waits_spec hp.1 hoj
      have h1 := hall e he hb
      rw [h9] at h1
      rcases Nat.lt_or_ge i listed.size with h' | h'
      · simp [h'] at h0 h1; rw [h0] at h1; cases h1
      · simp [Array.getElem?_eq_none h'] at h1
    · exact hr hj
theorem unl_set {listed : Array Bool} {j : Nat} : ∀ (l : List Nat), j ∉ l → unlB listed l = true → unlB (listed.setIfInBounds j true) l = true
  | [], _, _ => rfl
  | m :: r, hj, hu => by
    simp only [unlB, List.all_cons, Bool.and_eq_true] at hu ⊢
    refine ⟨?_, unl_set r (fun h => hj (by simp [h])) hu.2⟩
    rw [getD_set_ne true (fun e => hj (by simp [e]))]
    exact hu.1
theorem wpAnyK_first {i : Nat} {oi : Oper} {v : Value} (hi : ops[i]? = some oi) (hsel : ∀ (j : Nat) (o : Oper) cs b, ops[j]? = some o → o.op ≠ .select cs b)
    (hQ : ∀ c a w, Q (.panic c) (a.put oi.dst v) w → Q (.panic c) a w) (path : List Nat) (hk : k ∈ path) (hp : pathB md ops i path = true) :
    ∀ (fuel : Nat) (listed : Array Bool) (a : Act) (w : World), unlB listed path = true →
      (∀ j oj, ops[j]? = some oj → j ≠ i → listed.getD j true = false → (∀ e ∈ oj.after, Region.binds md e = true → e.on ≠ i) → oi.apart ops oj = true) →
      i ∈ Region.ready md ops listed → YieldsIf P ops S oi v a → S w →
      wpAnyK P md ops Q k S fuel (listed.setIfInBounds i true) (a.put oi.dst v) w → wpAnyK P md ops Q k S (fuel + 1) listed a w := by
  intro fuel
  induction fuel with
  | zero =>
    intro listed a w _ _ hr hy hS H
    refine ⟨fun h => (by rw [h] at hr; cases hr), fun j hj => ?_⟩
    by_cases hji : j = i
    · subst hji
      exact hy.wpOp hi hS ⟨fun _ => hS, H⟩
    · have := ready_mono hj hji
      rw [H.1] at this
      cases this
  | succ fuel ih =>
    intro listed a w hu hfree hr hy hS H
    refine ⟨fun h => (by rw [h] at hr; cases hr), fun j hj => ?_⟩
    by_cases hji : j = i
    · subst hji
      exact hy.wpOp hi hS ⟨fun _ => hS, H⟩
    · have h1 := H.2 j (ready_mono hj hji)
      obtain ⟨hjun, oj, hoj, hall⟩ := mem_ready.1 hj
      have h0 := (mem_ready.1 hr).1
      have hnot : ∀ e ∈ oj.after, Region.binds md e = true → e.on ≠ i := fun e he hb heq => by
        have h1 := hall e he hb
        rw [heq] at h1
        rcases Nat.lt_or_ge i listed.size with h' | h'
        · simp [h'] at h0 h1; rw [h0] at h1; cases h1
        · simp [Array.getElem?_eq_none h'] at h1
      have hjp := not_ready hoj hall path i h0 hp hu
      have hjk : j ≠ k := fun e => hjp (e ▸ hk)
      have h2 := wpOp_putIf hoj (hfree j oj hoj hji hjun hnot) (fun cs b => hsel i oi cs b hi) (fun cs b => hsel j oj cs b hoj) hQ hy h1
      have hfree' : ∀ q oq, ops[q]? = some oq → q ≠ i → (listed.setIfInBounds j true).getD q true = false →
          (∀ e ∈ oq.after, Region.binds md e = true → e.on ≠ i) → oi.apart ops oq = true := fun q oq hq hqi hun hno => by
        refine hfree q oq hq hqi ?_ hno
        by_cases hjq : j = q
        · subst hjq; exact hjun
        · rw [getD_set_ne true hjq] at hun; exact hun
      refine wpOp_mono (fun a' w' h3 => ⟨fun _ => h3.2.1 hjk, ih (listed.setIfInBounds j true) a' w' (unl_set path hjp hu) hfree' (ready_mono hr (Ne.symm hji)) h3.1 (h3.2.1 hjk) ?_⟩) h2
      rw [Array.setIfInBounds_comm _ _ hji]
      exact h3.2.2
theorem wpAnyK_take {i : Nat} {oi : Oper} {v : Value} {fuel : Nat} {listed : Array Bool} {a : Act} {w : World} (HS : Hid (Region.noSelect ops = true)) (path : List Nat) (hi : ops[i]? = some oi)
    (hk : (path.contains k && (pathB md ops i path && unlB listed path)) = true) (hf : Region.free md ops listed i = true) (hr : (Region.ready md ops listed).contains i = true) (hQ : ∀ c a w, Q (.panic c) (a.put oi.dst v) w → Q (.panic c) a w) (hy : YieldsIf P ops S oi v a) (hS : S w)
    (h : wpAnyK P md ops Q k S fuel (listed.setIfInBounds i true) (a.put oi.dst v) w) : wpAnyK P md ops Q k S (fuel + 1) listed a w := by
  simp only [Bool.and_eq_true] at hk
  exact wpAnyK_first hi (Region.noSelect_spec HS.out) hQ path (by simpa using hk.1) hk.2.1 fuel listed a w hk.2.2 (Region.free_spec hi hf) (by simpa using hr) hy hS h
/-- One alone may come up: another one than number k. -/
theorem wpAnyK_mid {i : Nat} {o : Oper} {fuel : Nat} {listed : Array Bool} {a : Act} {w : World} (hr : Region.ready md ops listed = [i]) (ho : ops[i]? = some o)
    (h : ∀ K' : Act → World → Prop, Shut (∀ a w, S w → wpAnyK P md ops Q k S fuel (listed.setIfInBounds i true) a w → K' a w) → if Region.wanted o (yielded ops a.tmps) = true then Oper.wp P o a w K' Q else K' (a.put o.dst undef) w) :
    wpAnyK P md ops Q k S (fuel + 1) listed a w :=
  ⟨fun h0 => (by
    rw [hr] at h0
    cases h0), fun j hj => by
    rw [hr] at hj
    obtain rfl : j = i := by simpa using hj
    exact wpOp_step ho (fun K' hK => h K' (fun a w hS hW => hK a w ⟨fun _ => hS, hW⟩))⟩
/-- Number k itself. -/
theorem wpAnyK_last {o : Oper} {fuel : Nat} {listed : Array Bool} {a : Act} {w : World} (hr : Region.ready md ops listed = [k]) (ho : ops[k]? = some o)
    (h : ∀ K' : Act → World → Prop, Shut (∀ a w, wpAnyK P md ops Q k S fuel (listed.setIfInBounds k true) a w → K' a w) → if Region.wanted o (yielded ops a.tmps) = true then Oper.wp P o a w K' Q else K' (a.put o.dst undef) w) :
    wpAnyK P md ops Q k S (fuel + 1) listed a w :=
  ⟨fun h0 => (by
    rw [hr] at h0
    cases h0), fun j hj => by
    rw [hr] at hj
    obtain rfl : j = k := by simpa using hj
    exact wpOp_step ho (fun K' hK => h K' (fun a w hW => hK a w ⟨fun hne => absurd rfl hne, hW⟩))⟩
theorem wpAnyK_done {listed : Array Bool} {a : Act} {w : World} (hr : Region.ready md ops listed = []) (h : Q .normal a w) : ∀ fuel, wpAnyK P md ops Q k S fuel listed a w
  | 0 => ⟨hr, h⟩
  | _ + 1 => ⟨fun _ => h, by rw [hr]; simp⟩
theorem wp_region_K {id : Nat} {a : Act} {w : World} (k : Nat) (S : World → Prop) (hm : P.follows .mixedOrders = true) (hs : Region.noSelect ops = true)
    (h : Hid (Region.noSelect ops = true) → wpAnyK P .any ops Q k S ops.size (Array.replicate ops.size false) a w.drew) : (Code.region id ops true).wp P Q a w :=
  wp_region_any hm (wpAny_of_K _ _ _ _ (h hs))
end
end Go.Proofs.YtjibkgildfjjoaaDoor

/- Layer 12's code: May. -/
namespace Go.Proofs.YtjibkgildfjjoaaDoor
set_option linter.unusedVariables false
set_option linter.unusedSimpArgs false
open Go.RowKit Go.ChangeShapes Go.WideShapes Go.ChangeAt Go.Sort

/-- The marks of the free places. -/
def marks (l : List Int) : Array Value := ((List.range 1024).map fun (i : Nat) => Value.bool (decide ((i : Int) ∈ l))).toArray
theorem marks_at (l : List Int) {i : Nat} (h : i < 1024) : (marks l)[i]? = some (.bool (decide ((i : Int) ∈ l))) := by
  simp [marks, h]
theorem marks_set (l : List Int) {i : Nat} (h : i < 1024) : (marks l).setIfInBounds i (.bool true) = marks (l ++ [(i : Int)]) := by
  apply Array.ext_getElem?
  intro j
  by_cases hj : j < 1024
  · rw [marks_at _ hj]
    by_cases e : i = j
    · subst e
      rw [Array.getElem?_setIfInBounds_self_of_lt (by simp [marks, h])]
      simp
    · rw [Array.getElem?_setIfInBounds_ne e, marks_at _ hj]
      have : (j : Int) ≠ i := by omega
      simp [this]
  · rw [Array.getElem?_eq_none (by simp [marks]; omega), Array.getElem?_eq_none (by simp [marks]; omega)]
theorem marks_nil : (Tryd.prog.info? 134).map (·.zero) = some (some (.agg (marks []))) := by kernel_rfl
theorem ok_top {p : Zp} (h : ¬ topZ p) : okZ p = false := okZ_no fun k => h k.top
theorem ok_rng {p : Zp} {j : Nat} (hj : j < p.free.length) (h : p.free[j] < 0 ∨ (p.cells.length : Int) ≤ p.free[j]) : okZ p = false := okZ_no fun k => by
  have := k.rng _ (List.getElem_mem hj)
  omega
theorem ok_dup {p : Zp} {j : Nat} (hj : j < p.free.length) (h : p.free[j] ∈ p.free.take j) : okZ p = false := okZ_no fun k => by
  obtain ⟨i, hi, e⟩ := List.mem_iff_getElem.1 h
  rw [List.length_take] at hi
  rw [List.getElem_take] at e
  have := (List.nodup_iff_pairwise_ne.1 k.nod)
  have h2 := List.pairwise_iff_getElem.1 this i j (by omega) hj (by omega)
  exact h2 e
theorem ok_cel {p : Zp} {j : Nat} (hj : j < p.cells.length) (h : p.cells[j].used = decide ((j : Int) ∈ p.free) ∨ p.cells[j].gen < 0 ∨ 4294967296 ≤ p.cells[j].gen) : okZ p = false := okZ_no fun k => by
  rcases h with h | h
  · have := k.use j hj
    by_cases e : (j : Int) ∈ p.free <;> simp [h, e] at this
  · have := k.gen j hj
    omega
/-- On the way through the free ones. -/
structure MayS (w : World) (p : Zp) (A A2 : Option Addr) (n m c c2 k : Nat) (W : World) : Prop where
  pen : Held W w.heap.size 29 (pc A n c A2 m c2 p.most)
  arr : Held W (w.heap.size + 1) 134 (marks (p.free.take k))
  low : Below w.heap.size w W
  rng : ∀ a ∈ p.free.take k, 0 ≤ a ∧ a < (n : Int)
  nod : (p.free.take k).Nodup
/-- On the way through the cells. -/
structure MayT (w : World) (p : Zp) (A A2 : Option Addr) (n m c c2 k : Nat) (W : World) : Prop where
  s : MayS w p A A2 n m c c2 m W
  cel : ∀ i (h : i < p.cells.length), i < k → (p.cells[i].used = true ↔ (i : Int) ∉ p.free) ∧ 0 ≤ p.cells[i].gen ∧ p.cells[i].gen < 4294967296
theorem MayT.next {w : World} {p : Zp} {A A2 : Option Addr} {n m c c2 k : Nat} {W : World} (hw : MayT w p A A2 n m c c2 k W) (hk : k < p.cells.length) (e : p.cells[k].used = true ↔ (k : Int) ∉ p.free) (e2 : 0 ≤ p.cells[k].gen ∧ p.cells[k].gen < 4294967296) : MayT w p A A2 n m c c2 (k + 1) W :=
  ⟨hw.s, fun i hi hik => by
    by_cases e9 : i = k
    · subst e9
      exact ⟨e, e2⟩
    · exact hw.cel i hi (by omega)⟩
theorem MayS.next {w : World} {p : Zp} {A A2 : Option Addr} {n m c c2 j i : Nat} {W : World} (hw : MayS w p A A2 n m c c2 j W) (hjf : j < p.free.length) (e0 : p.free[j] = (i : Int)) (hi : i < 1024) (hr : 0 ≤ (i : Int) ∧ (i : Int) < (n : Int)) (hd : (i : Int) ∉ p.free.take j) :
    MayS w p A A2 n m c c2 (j + 1) (W.setCell ⟨w.heap.size + 1, i, none⟩ (.bool true)) := by
  have e := List.take_succ_eq_append_getElem hjf
  rw [e0] at e
  refine ⟨hw.pen.far (by omega) _ _, ?_, hw.low.setCell (p := ⟨w.heap.size + 1, i, none⟩) (Nat.le_succ _) _, ?_, ?_⟩
  · rw [e, ← marks_set _ hi]
    exact hw.arr.set_at i (.bool true)
  · intro a' ha'
    rw [e, List.mem_append] at ha'
    rcases ha' with ha' | ha'
    · exact hw.rng a' ha'
    · simp at ha'
      subst ha'
      exact hr
  · rw [e, List.nodup_append]
    refine ⟨hw.nod, by simp, ?_⟩
    intro a' ha' b' hb'
    simp at hb'
    subst hb'
    exact fun e2 => hd (e2 ▸ ha')
theorem MayT.drewN {w : World} {p : Zp} {A A2 : Option Addr} {n m c c2 k : Nat} {W : World} (h : MayT w p A A2 n m c c2 k W) (d : Nat) : MayT w p A A2 n m c c2 k (W.drewN d) := ⟨⟨h.s.pen, h.s.arr, below_drewN h.s.low d, h.s.rng, h.s.nod⟩, h.cel⟩
theorem MayT.ok {w : World} {p : Zp} {A A2 : Option Addr} {n m c c2 : Nat} {W : World} (hw : MayT w p A A2 n m c c2 n W) (hn : p.cells.length = n) (hm : p.free.length = m) (ht : topZ p) : okZ p = true := by
  rw [okZ_iff]
  have e : p.free.take m = p.free := List.take_of_length_le (by omega)
  have h1 := hw.s.rng
  have h2 := hw.s.nod
  rw [e] at h1 h2
  exact ⟨ht, fun a ha => by rw [hn]; exact h1 a ha, h2, fun i hi => (hw.cel i hi (by omega)).1, fun i hi => (hw.cel i hi (by omega)).2⟩
set_option maxHeartbeats 4000000 in
set_option maxRecDepth 100000 in
theorem may_z {A A2 : Option Addr} {p : Zp} {B n m : Nat} (c c2 : Nat) (w : World) (hn : p.cells.length = n) (hm : p.free.length = m) (h : PAtZ w B A A2 p) (hl : n ≤ 100000) (hl2 : m ≤ 100000) (hB : B ≤ w.heap.size) :
    Calls Tryd.prog 55 #[pv A n c A2 m c2 p.most] w fun e w' => e = .returned (.bool (okZ p)) ∧ Below w.heap.size w w' := by
  have hb0 : Below w.heap.size w (w.alloc (.cells (pc A n c A2 m c2 p.most) 29)) := (Below.refl _ _).alloc (Nat.le_refl _) _
  have g1 := Held.new w 29 (pc A n c A2 m c2 p.most)
  have HP := Lib.hid h
  have HN := Lib.hid hn
  have HM := Lib.hid hm
  have HBW := Lib.hid hB
  have hnI : (n : Int) ≤ 100000 := by omega
  have hmI : (m : Int) ≤ 100000 := by omega
  have hcs : (topZ p ∧ decide (p.most < 1) = false ∧ decide (1024 < p.most) = false ∧ decide (p.most < (n : Int)) = false) ∨ (¬ topZ p ∧ (decide (p.most < 1) = true ∨ (decide (p.most < 1) = false ∧ decide (1024 < p.most) = true) ∨ (decide (p.most < 1) = false ∧ decide (1024 < p.most) = false ∧ decide (p.most < (n : Int)) = true))) := by
    unfold topZ
    simp only [decide_eq_true_eq, decide_eq_false_iff_not, hn]
    omega
  obtain ⟨R, hR⟩ : ∃ R, okZ p = R := ⟨_, rfl⟩
  rw [hR]
  have HR := Lib.hid hR
  clear h hn hm hB hR
  rcases hcs with ⟨ht, d1, d2, d3⟩ | ⟨ht, hcs⟩
  · have HT := Lib.hid ht
    have hn1 : n ≤ 1024 := by
      have := HN.out
      unfold topZ at ht
      omega
    clear ht
    go_enter Tryd.func55, Tryd.ntmps55
    go_upto_region 3 with (fail)
    generalize hW0 : w.alloc (.cells (pc A n c A2 m c2 p.most) 29) = W0 at *
    have hsz : W0.heap.size = w.heap.size + 1 := by rw [← hW0]; simp
    clear hW0
    go_upto_region 4 with (refine wpList_plain rfl fun K hK => wp_alloc_R 134 rfl (marks []) marks_nil (hK _ _ ?_))
    have g1' := g1.alloc (.cells (marks []) 134)
    have g2 := Held.new W0 134 (marks [])
    have hb1 : Below w.heap.size w (W0.alloc (.cells (marks []) 134)) := hb0.alloc (by omega) _
    rw [hsz] at g2 ⊢
    generalize W0.alloc (.cells (marks []) 134) = W1 at *
    have x1 := g1'.cell 1
    simp at x1
    have HS : Hid (MayS w p A A2 n m c c2 0 W1) := Lib.hid ⟨g1', by simpa using g2, hb1, by simp, by simp⟩
    clear g1 g1' g2 hb0 hb1 hsz
    go_upto_region 5 with (fail)
    clear x1
    go_loopw [27] (fun iv W => ∃ j : Nat, iv = .int .i64 j ∧ j ≤ m ∧ MayS w p A A2 n m c c2 j W) (fun iv _ => m - (intOf iv).toNat)
    case atStart => exact ⟨0, rfl, by omega, HS.out⟩
    case round =>
      clear HS
      obtain ⟨j, rfl, hj, hw⟩ := hrel
      have HW := Lib.hid hw
      have x0 := hw.pen.cell 0
      simp at x0
      have hj0 : (0 : Int) ≤ j := by omega
      by_cases hlt : j < m
      · have hjf : j < p.free.length := by rw [HM.out]; exact hlt
        have hlt2 : (j : Int) < m := by omega
        obtain ⟨b, off, rfl, hbB, hc⟩ := HP.out.free (by omega)
        have k0 := (hw.low.cell (p := ⟨b, off + j, none⟩) (by show b < w.heap.size; have := HBW.out; omega)).trans (hc j hjf)
        obtain ⟨a, ha⟩ : ∃ a, p.free[j] = a := ⟨_, rfl⟩
        rw [ha] at k0
        have HA := Lib.hid ha
        clear hc ha hw
        by_cases hr : 0 ≤ a ∧ a < (n : Int)
        · obtain ⟨i, rfl⟩ : ∃ i : Nat, a = i := ⟨a.toNat, by omega⟩
          have hi : i < 1024 := by omega
          have y0 := HW.out.arr.cell i
          rw [marks_at _ hi] at y0
          have hi2 : (i : Int) < 1024 := by omega
          have d4 : decide ((i : Int) < 0) = false := decide_eq_false (by omega)
          have d5 : decide (n ≤ i) = false := decide_eq_false (by omega)
          have hin : i < n := by omega
          by_cases hd : (i : Int) ∈ p.free.take j
          · rw [decide_eq_true hd] at y0
            obtain rfl : R = false := HR.out.symm.trans (ok_dup hjf (by rw [HA.out]; exact hd))
            clear hd hr
            go_wp2_with fail
            go_ret
            exact ⟨rfl, HW.out.low⟩
          · have hst := HW.out.next hjf HA.out hi hr hd
            have HST := Lib.hid hst
            have z0 := HW.out.arr.fz i
            rw [decide_eq_false hd] at y0
            clear hd hst hr
            go_wp2_with fail
            go_roundw
            case rel => exact ⟨j + 1, by go_num, by omega, HST.out⟩
            case measure => simp [intOf]; omega
        · obtain rfl : R = false := HR.out.symm.trans (ok_rng hjf (by rw [HA.out, HN.out]; omega))
          have hrc : decide (a < 0) = true ∨ (decide (a < 0) = false ∧ decide ((n : Int) ≤ a) = true) := by
            simp only [decide_eq_true_eq, decide_eq_false_iff_not]
            omega
          clear hr
          rcases hrc with d4 | ⟨d4, d5⟩
          all_goals
            go_wp2_with fail
            go_ret
            exact ⟨rfl, HW.out.low⟩
      · obtain rfl : j = m := by omega
        clear hw hlt
        go_upto_region 12 with (fail)
        clear x0
        go_loopw [51] (fun iv W => ∃ k : Nat, iv = .int .i64 k ∧ k ≤ n ∧ MayT w p A A2 n j c c2 k W) (fun iv _ => n - (intOf iv).toNat)
        case atStart => exact ⟨0, rfl, by omega, HW.out, fun i h h0 => absurd h0 (by omega)⟩
        case round =>
          clear HW
          obtain ⟨k, rfl, hk, hw⟩ := hrel
          have HW := Lib.hid hw
          have x0 := hw.s.pen.cell 0
          simp at x0
          have hk0 : (0 : Int) ≤ k := by omega
          by_cases hlt : k < n
          · have hkn : k < p.cells.length := by rw [HN.out]; exact hlt
            have hlt2 : (k : Int) < n := by omega
            have hk2 : (k : Int) < 1024 := by omega
            obtain ⟨b, off, rfl, -, cs, -, -, -, k0, k1, -, -⟩ := (HP.out.cells.below hw.s.low HBW.out).cel hkn
            have y0 := hw.s.arr.cell k
            rw [marks_at _ (by omega), List.take_of_length_le (by rw [HM.out]; exact Nat.le_refl _)] at y0
            obtain ⟨g, hg⟩ : ∃ g, p.cells[k].gen = g := ⟨_, rfl⟩
            obtain ⟨u, hu⟩ : ∃ u, p.cells[k].used = u := ⟨_, rfl⟩
            rw [hg] at k0
            rw [hu] at k1
            by_cases hd : (k : Int) ∈ p.free
            all_goals
              first
                | rw [decide_eq_true hd] at y0
                | rw [decide_eq_false hd] at y0
              cases u
            case pos.true | neg.false =>
              obtain rfl : R = false := HR.out.symm.trans (ok_cel hkn (.inl (by rw [hu]; simp [hd])))
              clear hd hg hu
              go_wp2_with fail
              go_quiet (fail)
              go_wp2_with fail
              go_ret
              exact ⟨rfl, below_drewN HW.out.s.low _⟩
            all_goals
              by_cases hgr : 0 ≤ g ∧ g < 4294967296
              · have HNX := Lib.hid (HW.out.next hkn (by rw [hu]; simp [hd]) (by rw [hg]; exact hgr))
                have d4 : decide (g < 0) = false := decide_eq_false (by omega)
                have d5 : decide (4294967296 ≤ g) = false := decide_eq_false (by omega)
                clear hd hg hu hgr
                go_wp2_with fail
                go_quiet (fail)
                go_wp2_with fail
                go_roundw
                case rel => exact ⟨k + 1, by go_num, by omega, HNX.out.drewN _⟩
                case measure => simp [intOf]; omega
              · obtain rfl : R = false := HR.out.symm.trans (ok_cel hkn (.inr (by rw [hg]; omega)))
                have hgc : decide (g < 0) = true ∨ (decide (g < 0) = false ∧ decide (4294967296 ≤ g) = true) := by
                  simp only [decide_eq_true_eq, decide_eq_false_iff_not]
                  omega
                clear hd hg hu hgr
                rcases hgc with d4 | ⟨d4, d5⟩
                all_goals
                  go_wp2_with fail
                  go_quiet (fail)
                  go_wp2_with fail
                  go_ret
                  exact ⟨rfl, below_drewN HW.out.s.low _⟩
          · obtain rfl : k = n := by omega
            obtain rfl : R = true := HR.out.symm.trans (hw.ok HN.out HM.out HT.out)
            clear hw
            go_wp2_with fail
            go_ret
            exact ⟨rfl, HW.out.s.low⟩
  · obtain rfl : R = false := HR.out.symm.trans (ok_top ht)
    clear ht
    rcases hcs with d1 | ⟨d1, d2⟩ | ⟨d1, d2, d3⟩
    all_goals
      go_enter Tryd.func55, Tryd.ntmps55
      go_wp2_with fail
      go_ret
      exact ⟨rfl, hb0⟩
end Go.Proofs.YtjibkgildfjjoaaDoor

/- Layer 12: comparisons of lists, at every input. -/
namespace Go.Proofs.YtjibkgildfjjoaaDoor
set_option linter.unusedVariables false
set_option linter.unusedSimpArgs false
open Go.RowKit Go.ChangeShapes Go.WideShapes Go.ChangeAt Go.Sort

set_option maxHeartbeats 1000000 in
theorem neqs_run (x y : Slt) (W : World) : (binOp .neq 121 (sv x) (sv y)).run Tryd.prog W = .ok (.bool (decide (x ≠ y))) W := by
  obtain ⟨a, b, c, d, e, f⟩ := x
  obtain ⟨g, h, i, j, k, l⟩ := y
  by_cases h1 : a = g
  case neg => simp [go_sem, h1]
  by_cases h2 : b = h
  case neg => simp [go_sem, h1, h2]
  by_cases h3 : c = i
  case neg => simp [go_sem, h1, h2, h3]
  by_cases h4 : d = j
  case neg => simp [go_sem, h1, h2, h3, h4]
  by_cases h5 : e = k
  case neg => simp [go_sem, h1, h2, h3, h4, h5]
  by_cases h6 : f = l
  case neg => simp [go_sem, h1, h2, h3, h4, h5, h6]
  subst h1 h2 h3 h4 h5 h6
  simp [go_sem]
set_option maxHeartbeats 1000000 in
set_option maxRecDepth 100000 in
theorem svals_z {A A2 : Option Addr} {l k : List V} {B B' n m : Nat} (c c2 : Nat) (w : World) (hn : l.length = n) (hm : k.length = m) (h1 : VAt w B A l) (h2 : VAt w B' A2 k) (hl : n ≤ 100000) (hk : m ≤ 100000) :
    Calls Tryd.prog 61 #[.slice A n c, .slice A2 m c2] w fun e w' => e = .returned (.bool (decide (l = k))) ∧ Below w.heap.size w w' := by
  subst hn hm
  have H1 := Lib.hid h1
  have H2 := Lib.hid h2
  clear h1 h2
  by_cases hlen : l.length = k.length
  · have hl2 : (l.length : Int) ≤ 100000 := by omega
    have ne : ((l.length : Int) != (k.length : Int)) = false := by simp [hlen]
    have HLN := Lib.hid hlen
    obtain ⟨R, hR⟩ : ∃ R : Bool, R = decide (l = k) := ⟨_, rfl⟩
    rw [← hR]
    have HR := Lib.hid hR
    clear hR hlen
    go_enter Tryd.func61, Tryd.ntmps61
    go_wp2_with fail
    go_loopw [13] (fun iv W => ∃ j : Nat, iv = .int .i64 j ∧ j ≤ l.length ∧ l.take j = k.take j ∧ Below w.heap.size w W) (fun iv _ => l.length - (intOf iv).toNat)
    case atStart => exact ⟨0, rfl, by omega, by simp, Below.refl _ _⟩
    case round =>
      obtain ⟨j, rfl, hj, htk, hw⟩ := hrel
      have HTK := Lib.hid htk
      clear htk
      by_cases hlt : j < l.length
      · have hltk : j < k.length := by have := HLN.out; omega
        obtain ⟨b1, off1, rfl, _, hc1⟩ := H1.out (by omega)
        obtain ⟨b2, off2, rfl, _, hc2⟩ := H2.out (by omega)
        obtain ⟨a0, a1⟩ := hc1 j hlt
        obtain ⟨d0, d1⟩ := hc2 j hltk
        have lb1 := block_lt_of_cell a0
        replace a0 := (hw.cell (p := ⟨b1, off1 + j * 2, none⟩) lb1).trans a0
        replace a1 := (hw.cell (p := ⟨b1, off1 + j * 2 + 1, none⟩) lb1).trans a1
        have lb2 := block_lt_of_cell d0
        replace d0 := (hw.cell (p := ⟨b2, off2 + j * 2, none⟩) lb2).trans d0
        replace d1 := (hw.cell (p := ⟨b2, off2 + j * 2 + 1, none⟩) lb2).trans d1
        clear hc1 hc2
        have T1 := Lib.hid (List.take_succ_eq_append_getElem hlt)
        have T2 := Lib.hid (List.take_succ_eq_append_getElem hltk)
        have G1 := Lib.hid (List.getElem?_eq_getElem hlt)
        have G2 := Lib.hid (List.getElem?_eq_getElem hltk)
        have hlt2 : (j : Int) < l.length := by omega
        have hltk2 : (j : Int) < k.length := by omega
        have hj0 : (0 : Int) ≤ j := Int.natCast_nonneg j
        generalize l[j] = v at *
        generalize k[j] = u at *
        by_cases hvu : v = u
        · subst hvu
          have NE : ∀ W, (binOp .neq 35 (gv v.1 v.2) (gv v.1 v.2)).run Tryd.prog W = .ok (.bool false) W := fun W => by rw [neqv_run]; simp
          go_wp2_with fail
          go_quiet (fail)
          go_wp2_with fail
          go_roundw
          case rel => exact ⟨j + 1, by go_num, by omega, by rw [T1.out, T2.out, HTK.out], below_drewN hw _⟩
          case measure => simp [intOf]; omega
        · have NE : ∀ W, (binOp .neq 35 (gv v.1 v.2) (gv u.1 u.2)).run Tryd.prog W = .ok (.bool true) W := fun W => by rw [neqv_run, decide_eq_true (show (v.1, v.2) ≠ (u.1, u.2) from hvu)]
          have hno : R = false := by
            rw [HR.out]
            refine decide_eq_false fun e => hvu ?_
            have g1 := G1.out
            rw [e, G2.out] at g1
            exact (Option.some.inj g1).symm
          subst hno
          clear hvu
          go_wp2_with fail
          go_quiet (fail)
          go_wp2_with fail
          go_ret
          exact ⟨rfl, below_drewN hw _⟩
      · obtain rfl : j = l.length := by omega
        have hyes : R = true := by
          rw [HR.out]
          refine decide_eq_true ?_
          have := HTK.out
          rwa [List.take_length, List.take_of_length_le (by rw [HLN.out]; exact Nat.le_refl _)] at this
        subst hyes
        go_wp2_with fail
        go_ret
        exact ⟨rfl, hw⟩
  · have ne : ((l.length : Int) != (k.length : Int)) = true := by simpa using fun e : (l.length : Int) = k.length => hlen (by omega)
    have hno : decide (l = k) = false := decide_eq_false fun e => hlen (by rw [e])
    rw [hno]
    clear hno hlen
    go_enter Tryd.func61, Tryd.ntmps61
    go_wp2_with fail
    go_ret
    exact ⟨rfl, Below.refl _ _⟩
set_option maxHeartbeats 1000000 in
set_option maxRecDepth 100000 in
theorem sslots_z {A A2 : Option Addr} {l k : List Slt} {B B' n m : Nat} (c c2 : Nat) (w : World) (hn : l.length = n) (hm : k.length = m) (h1 : SAt w B A l) (h2 : SAt w B' A2 k) (hl : n ≤ 100000) (hk : m ≤ 100000) :
    Calls Tryd.prog 62 #[.slice A n c, .slice A2 m c2] w fun e w' => e = .returned (.bool (decide (l = k))) ∧ Below w.heap.size w w' := by
  subst hn hm
  have H1 := Lib.hid h1
  have H2 := Lib.hid h2
  clear h1 h2
  by_cases hlen : l.length = k.length
  · have hl2 : (l.length : Int) ≤ 100000 := by omega
    have ne : ((l.length : Int) != (k.length : Int)) = false := by simp [hlen]
    have HLN := Lib.hid hlen
    obtain ⟨R, hR⟩ : ∃ R : Bool, R = decide (l = k) := ⟨_, rfl⟩
    rw [← hR]
    have HR := Lib.hid hR
    clear hR hlen
    go_enter Tryd.func62, Tryd.ntmps62
    go_wp2_with fail
    go_loopw [13] (fun iv W => ∃ j : Nat, iv = .int .i64 j ∧ j ≤ l.length ∧ l.take j = k.take j ∧ Below w.heap.size w W) (fun iv _ => l.length - (intOf iv).toNat)
    case atStart => exact ⟨0, rfl, by omega, by simp, Below.refl _ _⟩
    case round =>
      obtain ⟨j, rfl, hj, htk, hw⟩ := hrel
      have HTK := Lib.hid htk
      clear htk
      by_cases hlt : j < l.length
      · have hltk : j < k.length := by have := HLN.out; omega
        obtain ⟨b1, off1, rfl, _, hc1⟩ := H1.out (by omega)
        obtain ⟨b2, off2, rfl, _, hc2⟩ := H2.out (by omega)
        obtain ⟨a0, a1, a2, a3, a4, a5⟩ := hc1 j hlt
        obtain ⟨d0, d1, d2, d3, d4, d5⟩ := hc2 j hltk
        have lb1 := block_lt_of_cell a0
        replace a0 := (hw.cell (p := ⟨b1, off1 + j * 6, none⟩) lb1).trans a0
        replace a1 := (hw.cell (p := ⟨b1, off1 + j * 6 + 1, none⟩) lb1).trans a1
        replace a2 := (hw.cell (p := ⟨b1, off1 + j * 6 + 2, none⟩) lb1).trans a2
        replace a3 := (hw.cell (p := ⟨b1, off1 + j * 6 + 3, none⟩) lb1).trans a3
        replace a4 := (hw.cell (p := ⟨b1, off1 + j * 6 + 4, none⟩) lb1).trans a4
        replace a5 := (hw.cell (p := ⟨b1, off1 + j * 6 + 5, none⟩) lb1).trans a5
        have lb2 := block_lt_of_cell d0
        replace d0 := (hw.cell (p := ⟨b2, off2 + j * 6, none⟩) lb2).trans d0
        replace d1 := (hw.cell (p := ⟨b2, off2 + j * 6 + 1, none⟩) lb2).trans d1
        replace d2 := (hw.cell (p := ⟨b2, off2 + j * 6 + 2, none⟩) lb2).trans d2
        replace d3 := (hw.cell (p := ⟨b2, off2 + j * 6 + 3, none⟩) lb2).trans d3
        replace d4 := (hw.cell (p := ⟨b2, off2 + j * 6 + 4, none⟩) lb2).trans d4
        replace d5 := (hw.cell (p := ⟨b2, off2 + j * 6 + 5, none⟩) lb2).trans d5
        clear hc1 hc2
        have T1 := Lib.hid (List.take_succ_eq_append_getElem hlt)
        have T2 := Lib.hid (List.take_succ_eq_append_getElem hltk)
        have G1 := Lib.hid (List.getElem?_eq_getElem hlt)
        have G2 := Lib.hid (List.getElem?_eq_getElem hltk)
        have hlt2 : (j : Int) < l.length := by omega
        have hltk2 : (j : Int) < k.length := by omega
        have hj0 : (0 : Int) ≤ j := Int.natCast_nonneg j
        generalize l[j] = v at *
        generalize k[j] = u at *
        by_cases hvu : v = u
        · subst hvu
          have NE : ∀ W, (binOp .neq 121 (sv v) (sv v)).run Tryd.prog W = .ok (.bool false) W := fun W => by rw [neqs_run]; simp
          go_wp2_with fail
          go_quiet (fail)
          go_wp2_with fail
          go_roundw
          case rel => exact ⟨j + 1, by go_num, by omega, by rw [T1.out, T2.out, HTK.out], below_drewN hw _⟩
          case measure => simp [intOf]; omega
        · have NE : ∀ W, (binOp .neq 121 (sv v) (sv u)).run Tryd.prog W = .ok (.bool true) W := fun W => by rw [neqs_run, decide_eq_true hvu]
          have hno : R = false := by
            rw [HR.out]
            refine decide_eq_false fun e => hvu ?_
            have g1 := G1.out
            rw [e, G2.out] at g1
            exact (Option.some.inj g1).symm
          subst hno
          clear hvu
          go_wp2_with fail
          go_quiet (fail)
          go_wp2_with fail
          go_ret
          exact ⟨rfl, below_drewN hw _⟩
      · obtain rfl : j = l.length := by omega
        have hyes : R = true := by
          rw [HR.out]
          refine decide_eq_true ?_
          have := HTK.out
          rwa [List.take_length, List.take_of_length_le (by rw [HLN.out]; exact Nat.le_refl _)] at this
        subst hyes
        go_wp2_with fail
        go_ret
        exact ⟨rfl, hw⟩
  · have ne : ((l.length : Int) != (k.length : Int)) = true := by simpa using fun e : (l.length : Int) = k.length => hlen (by omega)
    have hno : decide (l = k) = false := decide_eq_false fun e => hlen (by rw [e])
    rw [hno]
    clear hno hlen
    go_enter Tryd.func62, Tryd.ntmps62
    go_wp2_with fail
    go_ret
    exact ⟨rfl, Below.refl _ _⟩
set_option maxHeartbeats 1000000 in
set_option maxRecDepth 100000 in
theorem sints_z {A A2 : Option Addr} {l k : List Int} {B B' n m : Nat} (c c2 : Nat) (w : World) (hn : l.length = n) (hm : k.length = m) (h1 : IAt w B A l) (h2 : IAt w B' A2 k) (hl : n ≤ 100000) (hk : m ≤ 100000) :
    Calls Tryd.prog 42 #[.slice A n c, .slice A2 m c2] w fun e w' => e = .returned (.bool (decide (l = k))) ∧ Below w.heap.size w w' := by
  subst hn hm
  have H1 := Lib.hid h1
  have H2 := Lib.hid h2
  clear h1 h2
  by_cases hlen : l.length = k.length
  · have hl2 : (l.length : Int) ≤ 100000 := by omega
    have ne : ((l.length : Int) != (k.length : Int)) = false := by simp [hlen]
    have HLN := Lib.hid hlen
    obtain ⟨R, hR⟩ : ∃ R : Bool, R = decide (l = k) := ⟨_, rfl⟩
    rw [← hR]
    have HR := Lib.hid hR
    clear hR hlen
    go_enter Tryd.func42, Tryd.ntmps42
    go_wp2_with fail
    go_loopw [13] (fun iv W => ∃ j : Nat, iv = .int .i64 j ∧ j ≤ l.length ∧ l.take j = k.take j ∧ Below w.heap.size w W) (fun iv _ => l.length - (intOf iv).toNat)
    case atStart => exact ⟨0, rfl, by omega, by simp, Below.refl _ _⟩
    case round =>
      obtain ⟨j, rfl, hj, htk, hw⟩ := hrel
      have HTK := Lib.hid htk
      clear htk
      by_cases hlt : j < l.length
      · have hltk : j < k.length := by have := HLN.out; omega
        obtain ⟨b1, off1, rfl, _, hc1⟩ := H1.out (by omega)
        obtain ⟨b2, off2, rfl, _, hc2⟩ := H2.out (by omega)
        have a0 := hc1 j hlt
        have d0 := hc2 j hltk
        have lb1 := block_lt_of_cell a0
        replace a0 := (hw.cell (p := ⟨b1, off1 + j, none⟩) lb1).trans a0
        have lb2 := block_lt_of_cell d0
        replace d0 := (hw.cell (p := ⟨b2, off2 + j, none⟩) lb2).trans d0
        clear hc1 hc2
        have T1 := Lib.hid (List.take_succ_eq_append_getElem hlt)
        have T2 := Lib.hid (List.take_succ_eq_append_getElem hltk)
        have G1 := Lib.hid (List.getElem?_eq_getElem hlt)
        have G2 := Lib.hid (List.getElem?_eq_getElem hltk)
        have hlt2 : (j : Int) < l.length := by omega
        have hltk2 : (j : Int) < k.length := by omega
        have hj0 : (0 : Int) ≤ j := Int.natCast_nonneg j
        generalize l[j] = v at *
        generalize k[j] = u at *
        by_cases hvu : v = u
        · subst hvu
          have NE : (v != v) = false := by simp
          go_wp2_with fail
          go_quiet (fail)
          go_wp2_with fail
          go_roundw
          case rel => exact ⟨j + 1, by go_num, by omega, by rw [T1.out, T2.out, HTK.out], below_drewN hw _⟩
          case measure => simp [intOf]; omega
        · have NE : (v != u) = true := by simpa using hvu
          have hno : R = false := by
            rw [HR.out]
            refine decide_eq_false fun e => hvu ?_
            have g1 := G1.out
            rw [e, G2.out] at g1
            exact (Option.some.inj g1).symm
          subst hno
          clear hvu
          go_wp2_with fail
          go_quiet (fail)
          go_wp2_with fail
          go_ret
          exact ⟨rfl, below_drewN hw _⟩
      · obtain rfl : j = l.length := by omega
        have hyes : R = true := by
          rw [HR.out]
          refine decide_eq_true ?_
          have := HTK.out
          rwa [List.take_length, List.take_of_length_le (by rw [HLN.out]; exact Nat.le_refl _)] at this
        subst hyes
        go_wp2_with fail
        go_ret
        exact ⟨rfl, hw⟩
  · have ne : ((l.length : Int) != (k.length : Int)) = true := by simpa using fun e : (l.length : Int) = k.length => hlen (by omega)
    have hno : decide (l = k) = false := decide_eq_false fun e => hlen (by rw [e])
    rw [hno]
    clear hno hlen
    go_enter Tryd.func42, Tryd.ntmps42
    go_wp2_with fail
    go_ret
    exact ⟨rfl, Below.refl _ _⟩
end Go.Proofs.YtjibkgildfjjoaaDoor

/- Layer 12: frames compared, at every input: the document's. -/
namespace Go.Proofs.YtjibkgildfjjoaaDoor
set_option linter.unusedVariables false
set_option linter.unusedSimpArgs false
open Go.RowKit Go.ChangeShapes Go.WideShapes Go.ChangeAt Go.Sort

end Go.Proofs.YtjibkgildfjjoaaDoor

