/- Layer 12: cells appended, stored; slices cloned. -/
import Derived.Test.YtkpjlobpaippdaaYn
import Derived.Lib.SliceRun
import Derived.WalkLawsBesides
import Derived.Deep.DeepCutAuto
import Derived.Deep.CutBlock
namespace Go.Proofs.Ytkpjlobpaippdaa
set_option linter.unusedVariables false
set_option linter.unusedSimpArgs false
open Go.RowKit Go.ChangeShapes Go.WideShapes Go.ChangeAt Go.Sort

/-- What is turned is of type t alone. -/
theorem KTy.refl (w : World) (t : TypeId) : KTy w w t := fun _ _ _ _ _ _ => rfl
theorem KTy.of_below {w w' : World} (h : Below w.heap.size w w') (t : TypeId) : KTy w w' t := fun g e cs fr hg _ => h.block g (by
  rcases Nat.lt_or_ge g w.heap.size with hlt | hge
  · exact hlt
  · rw [Array.getElem?_eq_none hge] at hg; cases hg)
theorem kt_own {w w' : World} {B n size : Nat} {e : TypeId} {v : Value} {xs : List Value} (h : w.ownsRow B e size v n xs) (hg : w.grownBy w' v.ownBlock) : KTy w w' e := fun g e' cs fr hc hne => by
  refine hg.block g ?_ fun e2 => ?_
  · rcases Nat.lt_or_ge g w.heap.size with hlt | hge
    · exact hlt
    · rw [Array.getElem?_eq_none hge] at hc; cases hc
  · rcases h.2 with ⟨rfl, _⟩ | ⟨g', cap, cur, rfl, _, hh, _⟩
    · simp [Value.ownBlock] at e2
    · simp only [Value.ownBlock, Option.some.injEq] at e2
      subst e2
      rw [hc] at hh
      simp at hh
      exact hne hh.2.1
theorem tyCV : 31 ≠ 62 := by decide
theorem tyCS : 72 ≠ 62 := by decide
theorem tyCI : 3 ≠ 62 := by decide
theorem tyVI : 31 ≠ 3 := by decide
theorem tySI : 72 ≠ 3 := by decide
theorem tyCel : 62 ≠ 3 := by decide

/-- A list, some of it laid over. -/
def setL : List Value → Nat → List Value → List Value
  | xs, _, [] => xs
  | xs, o, v :: r => setL (xs.set o v) (o + 1) r
theorem setL_len : ∀ (vs xs : List Value) (o : Nat), (setL xs o vs).length = xs.length
  | [], _, _ => rfl
  | v :: r, xs, o => by rw [setL, setL_len r]; simp
theorem setL_out : ∀ (vs xs : List Value) (o k : Nat), k < o ∨ o + vs.length ≤ k → (setL xs o vs)[k]? = xs[k]?
  | [], _, _, _, _ => rfl
  | v :: r, xs, o, k, h => by
    rw [setL, setL_out r (xs.set o v) (o + 1) k (by simp at h; omega), List.getElem?_set_ne (by simp at h; omega)]
theorem setL_in : ∀ (vs xs : List Value) (o k : Nat), o ≤ k → k < o + vs.length → o + vs.length ≤ xs.length → (setL xs o vs)[k]? = vs[k - o]?
  | [], _, _, _, _, h, _ => absurd h (by simp; omega)
  | v :: r, xs, o, k, h1, h2, h3 => by
    rw [setL]
    by_cases hk : k = o
    · subst hk
      rw [setL_out r _ _ _ (by omega), List.getElem?_set_self (by simp at h3; omega)]
      simp
    · rw [setL_in r (xs.set o v) (o + 1) k (by omega) (by simp at h2; omega) (by simp at h3 ⊢; omega)]
      obtain ⟨d, hd⟩ : ∃ d, k - o = d + 1 := ⟨k - o - 1, by omega⟩
      rw [hd, show k - (o + 1) = d by omega]
      simp
theorem row_setCells : ∀ (vs : List Value) (o : Nat) {w : World} {B e size n c g : Nat} {xs : List Value}, w.ownsRow B e size (.slice (some ⟨g, 0, none⟩) n c) n xs → (w.setCells g o vs).ownsRow B e size (.slice (some ⟨g, 0, none⟩) n c) n (setL xs o vs)
  | [], _, _, _, _, _, _, _, _, _, h => h
  | v :: r, o, w, B, e, size, n, c, g, xs, h => by
    rw [World.setCells, setL]
    exact row_setCells r (o + 1) (h.stored o v).1
theorem setCells_far : ∀ (vs : List Value) (o : Nat) (w : World) (g k : Nat), k ≠ g → (w.setCells g o vs).heap[k]? = w.heap[k]?
  | [], _, _, _, _, _ => rfl
  | v :: r, o, w, g, k, h => by
    rw [World.setCells, setCells_far r (o + 1) _ g k h]
    exact Below.heap_setCell w ⟨g, o, none⟩ v k h
theorem setCells_size : ∀ (vs : List Value) (o : Nat) (w : World) (g : Nat), (w.setCells g o vs).heap.size = w.heap.size
  | [], _, _, _ => rfl
  | v :: r, o, w, g => by
    rw [World.setCells, setCells_size r]
    simp [World.setCell]
theorem setCells_rest : ∀ (vs : List Value) (o : Nat) (w : World) (g : Nat), (w.setCells g o vs).os = w.os ∧ (w.setCells g o vs).tape = w.tape ∧ (w.setCells g o vs).output = w.output
  | [], _, _, _ => ⟨rfl, rfl, rfl⟩
  | v :: r, o, w, g => by
    rw [World.setCells]
    exact setCells_rest r (o + 1) (w.setCell ⟨g, o, none⟩ v) g
theorem grown_setCells (w : World) (g o : Nat) (vs : List Value) : w.grownBy (w.setCells g o vs) (some g) :=
  ⟨(setCells_rest vs o w g).1, (setCells_rest vs o w g).2.1, (setCells_rest vs o w g).2.2, Nat.le_of_eq (setCells_size vs o w g).symm, fun k _ h => setCells_far vs o w g k (fun e => h (by rw [e]))⟩
theorem below_setCells {w u : World} {B : Nat} (h : Below B w u) {g : Nat} (hg : B ≤ g) (o : Nat) (vs : List Value) : Below B w (u.setCells g o vs) :=
  ⟨(setCells_rest vs o u g).1.trans h.os, (setCells_rest vs o u g).2.1.trans h.tape, (setCells_rest vs o u g).2.2.trans h.output, by rw [setCells_size]; exact h.size, fun k hk => (setCells_far vs o u g k (by omega)).trans (h.block k hk)⟩
theorem kt_setCells {w : World} {B n size c g : Nat} {e : TypeId} {xs : List Value} (h : w.ownsRow B e size (.slice (some ⟨g, 0, none⟩) n c) n xs) (o : Nat) (vs : List Value) : KTy w (w.setCells g o vs) e := kt_own h (grown_setCells w g o vs)
theorem row_there {w : World} {B n size c g : Nat} {e : TypeId} {xs : List Value} (h : w.ownsRow B e size (.slice (some ⟨g, 0, none⟩) n c) n xs) {o k : Nat} (hk : o + k ≤ n * size) : w.there g o k := fun j hj => by
  have hl := h.1
  refine ⟨?_, h.frozenAt _⟩
  rw [h.cellAt (o + j) (by omega), List.getElem?_eq_getElem (by omega)]
  rfl
/-- A cell laid over. -/
theorem celsOf_set {F G : Nat → Value → Frm → Prop} {xs : List Value} {l : List Cel} (h : CelsOf F xs l) {j : Nat} (hj : j < l.length) {c : Cel} {cs : Array Value} (h1 : cs.size = 16) (h2 : cs.all (·.oneCell') = true) (h3 : G j (.agg cs) c.frm)
    (hF : ∀ k v f, k ≠ j → F k v f → G k v f) : CelsOf G (setL xs (j * 18) (celv c cs)) (l.set j c) := by
  have hlen : (celv c cs).length = 18 := by simp [h1]
  refine ⟨by rw [setL_len, List.length_set]; exact h.1, fun k hk => ?_⟩
  rw [List.length_set] at hk
  have hx := h.1
  by_cases e : k = j
  · subst e
    refine ⟨cs, h1, h2, by rw [List.getElem_set_self]; exact h3, fun i hi => ?_⟩
    rw [List.getElem_set_self, setL_in _ _ _ _ (by omega) (by omega) (by omega)]
    congr 1
    omega
  · obtain ⟨ds, d1, d2, d3, d4⟩ := h.2 k hk
    refine ⟨ds, d1, d2, by rw [List.getElem_set_ne (Ne.symm e)]; exact hF k _ _ e d3, fun i hi => ?_⟩
    rw [List.getElem_set_ne (Ne.symm e), setL_out _ _ _ _ (by rw [hlen]; omega)]
    exact d4 i hi
/-- A cell's frame laid over. -/
theorem celsOf_frm {F G : Nat → Value → Frm → Prop} {xs : List Value} {l : List Cel} (h : CelsOf F xs l) {j : Nat} (hj : j < l.length) {f : Frm} {cs : Array Value} (h1 : cs.size = 16) (h2 : cs.all (·.oneCell') = true) (h3 : G j (.agg cs) f)
    (hF : ∀ k v f, k ≠ j → F k v f → G k v f) : CelsOf G (setL xs (j * 18 + 2) cs.toList) (l.set j ⟨l[j].gen, l[j].used, f⟩) := by
  have hlen : cs.toList.length = 16 := by simp [h1]
  refine ⟨by rw [setL_len, List.length_set]; exact h.1, fun k hk => ?_⟩
  rw [List.length_set] at hk
  have hx := h.1
  by_cases e : k = j
  · subst e
    refine ⟨cs, h1, h2, by rw [List.getElem_set_self]; exact h3, fun i hi => ?_⟩
    rw [List.getElem_set_self]
    obtain ⟨ds, d1, d2, d3, d4⟩ := h.2 k hj
    by_cases hi2 : i < 2
    · rw [setL_out _ _ _ _ (by omega), d4 i hi]
      match i, hi2 with
      | 0, _ => rfl
      | 1, _ => rfl
    · rw [setL_in _ _ _ _ (by omega) (by omega) (by omega)]
      obtain ⟨d, rfl⟩ : ∃ d, i = d + 2 := ⟨i - 2, by omega⟩
      rw [show k * 18 + (d + 2) - (k * 18 + 2) = d by omega]
      rfl
  · obtain ⟨ds, d1, d2, d3, d4⟩ := h.2 k hk
    refine ⟨ds, d1, d2, by rw [List.getElem_set_ne (Ne.symm e)]; exact hF k _ _ e d3, fun i hi => ?_⟩
    rw [List.getElem_set_ne (Ne.symm e), setL_out _ _ _ _ (by rw [hlen]; omega)]
    exact d4 i hi
theorem celsOf_app {F : Nat → Value → Frm → Prop} {xs ys : List Value} {l k : List Cel} (h : CelsOf F xs l) (h' : CelsOf (fun j => F (l.length + j)) ys k) : CelsOf F (xs ++ ys) (l ++ k) := by
  have hx := h.1
  have hy := h'.1
  refine ⟨by rw [List.length_append, List.length_append]; omega, fun j hj => ?_⟩
  rw [List.length_append] at hj
  by_cases e : j < l.length
  · obtain ⟨cs, d1, d2, d3, d4⟩ := h.2 j e
    refine ⟨cs, d1, d2, by rw [List.getElem_append_left e]; exact d3, fun i hi => ?_⟩
    rw [List.getElem_append_left e, List.getElem?_append_left (by omega)]
    exact d4 i hi
  · obtain ⟨cs, d1, d2, d3, d4⟩ := h'.2 (j - l.length) (by omega)
    refine ⟨cs, d1, d2, ?_, fun i hi => ?_⟩
    · rw [List.getElem_append_right (by omega)]
      rw [show l.length + (j - l.length) = j by omega] at d3
      exact d3
    · rw [List.getElem_append_right (by omega), List.getElem?_append_right (by omega), show j * 18 + i - xs.length = (j - l.length) * 18 + i by omega]
      exact d4 i hi
theorem celsOf_nil (F : Nat → Value → Frm → Prop) : CelsOf F [] [] := ⟨rfl, fun j h => absurd h (by simp)⟩
theorem celsOf_one1 {F : Nat → Value → Frm → Prop} {c : Cel} {cs : Array Value} (h1 : cs.size = 16) (h2 : cs.all (·.oneCell') = true) (h3 : F 0 (.agg cs) c.frm) : CelsOf F (celv c cs) [c] :=
  ⟨by simp [h1], fun j h => by
    obtain rfl : j = 0 := by simpa using h
    exact ⟨cs, h1, h2, h3, fun i hi => by rw [Nat.zero_mul, Nat.zero_add]; rfl⟩⟩
/-- Cells appended. -/
theorem wpList_append_cs {w : World} {ops : Array Oper} {rest : List Oper} {o : Oper} {a : Act} {Q : Exit → Act → World → Prop}
    (hg : o.guard = none) (s x : Operand) (hop : o.op = Op.call { callee := Callee.builtin Builtin.append, args := #[s, x], argTypes := #[22, 22] })
    (B : Nat) (v : Value) (l : Nat) {xs : List Value} (hs : a.eval s = v) (own : w.ownsRow B 62 18 v l xs) {b off : Nat} {ys : List Value} {n c : Nat} (hx : a.eval x = .slice (some ⟨b, off, none⟩) n c) (hr : w.rangeAt b off ys) (hyl : ys.length = n * 18) (h1 : ∀ u ∈ ys, u.oneCell' = true)
    (hn1 : 1 ≤ n) (hlen : l + n ≤ 100000) (hB : B ≤ w.heap.size)
    (h : ∀ A' m c' w', m = l + n → w'.ownsRow B 62 18 (.slice A' m c') m (xs ++ ys) → w.grownBy w' v.ownBlock → wpList Try.prog ops Q rest (a.put o.dst (.slice A' m c')) w') : wpList Try.prog ops Q (o :: rest) a w := by
  obtain ⟨q, hi, hz0, hz1, hz2⟩ := info_parts infoC
  refine wpList_append_lies _ hg s x 22 hop B 62 q _ 18 192 Try.underlying22 hi hz0 hz1 hz2 rfl (by decide) v l xs hs own ⟨b, off, none⟩ n c
    ys hx hyl (fun j u hj => by rw [p_add]; exact hr j u hj) h1 (by omega) (by unfold maxLen; omega) (by omega) hB _ rfl ?_
  intro g cap w' k1 k2 k3 k4
  exact h _ _ _ w' rfl k1 k2
theorem run_zeroC (w : World) (g c c2 : Nat) (A : Option Addr) (ty : TypeId) : (Builtin.append_ #[22, 22] ty #[.slice (some ⟨g, 0, none⟩) 0 c, .slice A 0 c2]).run Try.prog w = .ok (.slice (some ⟨g, 0, none⟩) 0 c) w := by
  obtain ⟨i, hi, hz0, hz1, hz2⟩ := info_parts infoC
  cases A <;> simp [Builtin.append_, run_underlying Try.underlying22, sizeOf, typeInfo, hi, storeCells, loadCellsFrom, Builtin.lenOf, Builtin.firstCells, loadCells]
theorem wpList_append_cs0 {w : World} {ops : Array Oper} {rest : List Oper} {o : Oper} {a : Act} {Q : Exit → Act → World → Prop}
    (hg : o.guard = none) (s x : Operand) (hop : o.op = Op.call { callee := Callee.builtin Builtin.append, args := #[s, x], argTypes := #[22, 22] })
    (w0 : World) (hw : w = w0.alloc (.cells #[] 62)) (hs : a.eval s = .slice (some ⟨w0.heap.size, 0, none⟩) 0 0) {A : Option Addr} {l : List Cel} {n c C : Nat} (hn : l.length = n) (hx : a.eval x = .slice A n c) (hc : CAt w0 C A l) (hC : C ≤ w0.heap.size)
    (hlen : n ≤ 10000)
    (h : ∀ A' c' w' ys, w'.ownsRow w0.heap.size 62 18 (.slice A' n c') n ys → CelsOf (fun _ => FrmAt w' C) ys l → Below w0.heap.size w0 w' → wpList Try.prog ops Q rest (a.put o.dst (.slice A' n c')) w') : wpList Try.prog ops Q (o :: rest) a w := by
  subst hn
  subst hw
  by_cases hk : l = []
  · subst hk
    refine wpList_plain hg fun K hK' => ?_
    have hr := fun ty => run_zeroC (w0.alloc (.cells #[] 62)) w0.heap.size 0 c A ty
    have hx2 : a.eval x = .slice A 0 c := hx
    unfold Oper.wp execOp
    simp only [hop, resolve, invoke, builtin, Sem.run_bind, Sem.run_pure, Result.andThen_ok, List.map_toArray, List.map_cons, List.map_nil, hs, hx2, hr]
    exact hK' _ _ (h _ _ _ [] (World.ownsRow_made w0 #[] 0 (Nat.le_refl _) (by decide) rfl) (celsOf_nil _) ((Below.refl _ _).alloc (Nat.le_refl _) _))
  · have h1 : 1 ≤ l.length := by
      cases l with
      | nil => exact absurd rfl hk
      | cons y ys => simp
    have hbe : Below w0.heap.size w0 (w0.alloc (.cells #[] 62)) := (Below.refl _ _).alloc (Nat.le_refl _) _
    obtain ⟨b, off, ys, rfl, hb, hr, hcs⟩ := hc (by omega)
    refine wpList_append_cs hg s x hop w0.heap.size _ 0 (xs := []) hs (World.ownsRow_made w0 #[] 0 (Nat.le_refl _) (by decide) rfl) hx (range_keep hr (hbe.block b (by omega))) hcs.1 (celsOf_one hcs) h1 (by omega) (by simp) fun A' m c' w' hm k1 k2 => ?_
    obtain rfl : m = l.length := by omega
    rw [List.nil_append] at k1
    have hb2 : Below w0.heap.size w0 w' := ((Below.refl _ _).alloc (Nat.le_refl _) _).grown k2 (by simp) (by intro j hj; simp [Value.ownBlock] at hj; omega)
    exact h A' c' w' ys k1 (hcs.mono fun _ _ _ k => k.below hb2 hC) hb2

set_option maxHeartbeats 1000000 in
set_option maxRecDepth 100000 in
theorem cloi_any {A : Option Addr} {l : List Int} {B n : Nat} (c : Nat) (w : World) (hn : l.length = n) (h : IAt w B A l) (hl : n ≤ 10000) (hB : B ≤ w.heap.size) :
    Calls Try.prog 46 #[.slice A n c] w fun e w' => ∃ A' c', e = .returned (.slice A' n c') ∧ OwnI w' w.heap.size (.slice A' n c') l ∧ Below w.heap.size w w' := by
  have q : ∀ (w : World) (a : Option Addr) (n c n' c' : Nat), (binOp .eql 23 (.slice a n c) (.slice none n' c')).run Try.prog w = .ok (.bool a.isNone) w := fun w a n c n' c' => Lib.run_eql_slice_nil w _ _ a n c n' c' Try.underlying23
  have HN := Lib.hid hn
  cases A with
  | none =>
    have h0 : l = [] := by
      by_cases h1 : 0 < l.length
      · obtain ⟨b, off, e, _⟩ := h h1
        cases e
      · exact List.eq_nil_of_length_eq_zero (by omega)
    subst h0
    obtain rfl : 0 = n := hn
    go_enter Try.func46, Try.ntmps46
    go_wp2_with fail
    go_ret
    exact ⟨none, 0, rfl, OwnI.nil _ _, Below.refl _ _⟩
  | some a =>
    have HVA := Lib.hid (h.below ((Below.refl w.heap.size w).alloc (Nat.le_refl _) (.cells #[] 3)) hB)
    have HL := Lib.hid (show n ≤ 1000000 by omega)
    clear h hB hn hl
    go_enter Try.func46, Try.ntmps46
    go_wp2_with (at_builtin; refine wpList_append_is0 rfl _ _ rfl w rfl rfl HN.out rfl HVA.out HL.out ?_; intro A6 c6 u6 k1 k2)
    go_ret
    exact ⟨A6, c6, rfl, k1, k2⟩
set_option maxHeartbeats 1000000 in
set_option maxRecDepth 100000 in
theorem cloc_any {A : Option Addr} {l : List Cel} {B n : Nat} (c : Nat) (w : World) (hn : l.length = n) (h : CAt w B A l) (hl : n ≤ 10000) (hB : B ≤ w.heap.size) :
    Calls Try.prog 45 #[.slice A n c] w fun e w' => ∃ A' c' xs, e = .returned (.slice A' n c') ∧ w'.ownsRow w.heap.size 62 18 (.slice A' n c') n xs ∧ CelsOf (fun _ => FrmAt w' B) xs l ∧ Below w.heap.size w w' := by
  have q : ∀ (w : World) (a : Option Addr) (n c n' c' : Nat), (binOp .eql 22 (.slice a n c) (.slice none n' c')).run Try.prog w = .ok (.bool a.isNone) w := fun w a n c n' c' => Lib.run_eql_slice_nil w _ _ a n c n' c' Try.underlying22
  have HN := Lib.hid hn
  cases A with
  | none =>
    have h0 : l = [] := by
      by_cases h1 : 0 < l.length
      · obtain ⟨b, off, xs, e, _⟩ := h h1
        cases e
      · exact List.eq_nil_of_length_eq_zero (by omega)
    subst h0
    obtain rfl : 0 = n := hn
    go_enter Try.func45, Try.ntmps45
    go_wp2_with fail
    go_ret
    exact ⟨none, 0, [], rfl, World.ownsRow_nil _ _ _ _, celsOf_nil _, Below.refl _ _⟩
  | some a =>
    have HVA := Lib.hid h
    have HL := Lib.hid (show n ≤ 10000 by omega)
    have HB := Lib.hid hB
    clear h hB hn hl
    go_enter Try.func45, Try.ntmps45
    go_wp2_with (at_builtin; refine wpList_append_cs0 rfl _ _ rfl w rfl rfl HN.out rfl HVA.out HB.out HL.out ?_; intro A6 c6 u6 ys k1 k2 k3)
    go_ret
    exact ⟨A6, c6, ys, rfl, k1, k2, k3⟩
end Go.Proofs.Ytkpjlobpaippdaa
