/- Layer 12: refs appended to one's own, be there any or none; lists of refs cut. (Out of layer 11's.) -/
import Derived.Test.YtkpjlobpaippdaaYq2
namespace Go.Proofs.Ytkpjlobpaippdaa
set_option linter.unusedVariables false
set_option linter.unusedSimpArgs false
open Go.RowKit Go.ChangeShapes Go.WideShapes Go.ChangeAt Go.Sort

theorem run_zeroM (w : World) (g m c c2 : Nat) (A : Option Addr) (ty : TypeId) (hm : m ≤ c) : (Builtin.append_ #[52, 52] ty #[.slice (some ⟨g, 0, none⟩) m c, .slice A 0 c2]).run Try.prog w = .ok (.slice (some ⟨g, 0, none⟩) m c) w := by
  obtain ⟨i, hi, hz0, hz1, hz2⟩ := info_parts infoR
  cases A <;> simp [Builtin.append_, run_underlying Try.underlying52, sizeOf, typeInfo, hi, storeCells, loadCellsFrom, Builtin.lenOf, Builtin.firstCells, loadCells, hm]
theorem run_zeroN (w : World) (c2 : Nat) (A : Option Addr) (ty : TypeId) : (Builtin.append_ #[52, 52] ty #[.slice none 0 0, .slice A 0 c2]).run Try.prog w = .ok (.slice none 0 0) w := by
  obtain ⟨i, hi, hz0, hz1, hz2⟩ := info_parts infoR
  cases A <;> simp [Builtin.append_, run_underlying Try.underlying52, sizeOf, typeInfo, hi, storeCells, loadCellsFrom, Builtin.lenOf, Builtin.firstCells, loadCells]
theorem wp_append_r {w : World} {o : Oper} {a : Act} {K : Act → World → Prop} {Q : Exit → Act → World → Prop} (s x : Operand)
    (hop : o.op = Op.call { callee := Callee.builtin Builtin.append, args := #[s, x], argTypes := #[52, 52] })
    (B : Nat) {A A2 : Option Addr} {m n c c2 C : Nat} {l k : List P2} (hs : a.eval s = .slice A m c) (own : OwnR w B (.slice A m c) l) (hn : k.length = n) (hx : a.eval x = .slice A2 n c2) (hc : PAt w C A2 k)
    (hlen : m + n ≤ 1000000) (hB : B ≤ w.heap.size)
    (h : ∀ A' c' w', OwnR w' B (.slice A' (m + n) c') (l ++ k) → Below B w w' → K (a.put o.dst (.slice A' (m + n) c')) w') : o.wp Try.prog a w K Q := by
  have hl := own.len
  by_cases h0 : n = 0
  · subst h0
    have hk : k = [] := List.eq_nil_of_length_eq_zero hn
    subst hk
    have hr : ∀ ty, (Builtin.append_ #[52, 52] ty #[.slice A m c, .slice A2 0 c2]).run Try.prog w = .ok (.slice A m c) w := fun ty => by
      rcases own.2 with ⟨e, _⟩ | ⟨g, cap, cur, e, _, _, hle, _⟩
      · simp only [Value.slice.injEq] at e
        obtain ⟨rfl, rfl, rfl⟩ := e
        exact run_zeroN w c2 A2 ty
      · simp only [Value.slice.injEq] at e
        obtain ⟨rfl, e2, rfl⟩ := e
        exact run_zeroM w g m c c2 A2 ty (by omega)
    unfold Oper.wp execOp
    simp only [hop, resolve, invoke, builtin, Sem.run_bind, Sem.run_pure, Result.andThen_ok, List.map_toArray, List.map_cons, List.map_nil, hs, hx, hr]
    have := h A c w (by simpa using own) (Below.refl _ _)
    rw [Nat.add_zero] at this
    exact this
  · obtain ⟨b, off, rfl, hbC, hf⟩ := hc (by omega)
    obtain ⟨q, hi, hz0, hz1, hz2⟩ := info_parts infoR
    subst hn hl
    refine wp_append_lies w s x 52 hop B 27 q (.agg #[.int .i64 0, .int .i64 0]) 2 16 Try.underlying52 hi hz0 hz1 hz2 rfl (by decide) _ l.length (flatP l) hs own ⟨b, off, none⟩ k.length c2
      (flatP k) hx (flatP_len k) (newsP (C := C) hf) oneP (by omega) (by unfold maxLen; omega) (by omega) hB _ rfl ?_
    intro g cap w' k1 k2 k3 k4
    refine h _ _ w' ?_ ?_
    · unfold OwnR Own2
      rw [List.length_append, flatP_append]
      exact k1
    · exact (Below.refl B w).grown k2 hB fun q e => (own.lt q e).1
/-- The first ones, and the others. -/
def cutA (A : Option Addr) (c i : Nat) : Option Addr := if c = i then A else A.map (·.add (i * 2))
theorem cut_head {W : World} {B c : Nat} {A : Option Addr} {l : List P2} (h : PAt W B A l) (hc : l.length ≤ c) (i : Nat) : PAt W B (cutA A c 0) (l.take i) := fun h0 => by
  have hl : 0 < l.length := by rw [List.length_take] at h0; omega
  obtain ⟨b, off, rfl, hb, hh⟩ := h hl
  refine ⟨b, off, ?_, hb, fun j hj => ?_⟩
  · unfold cutA
    rw [if_neg (by omega)]
    simp [Addr.add]
  · rw [List.length_take] at hj
    rw [List.getElem_take]
    exact hh j (by omega)
theorem cut_tail {W : World} {B c : Nat} {A : Option Addr} {l : List P2} (h : PAt W B A l) (hc : l.length ≤ c) (i : Nat) : PAt W B (cutA A c i) (l.drop i) := fun h0 => by
  rw [List.length_drop] at h0
  obtain ⟨b, off, rfl, hb, hh⟩ := h (by omega)
  refine ⟨b, off + i * 2, ?_, hb, fun j hj => ?_⟩
  · unfold cutA
    rw [if_neg (by omega)]
    simp [Addr.add]
  · rw [List.length_drop] at hj
    rw [List.getElem_drop]
    have := hh (i + j) (by omega)
    rw [show off + i * 2 + j * 2 = off + (i + j) * 2 by omega]
    exact this
theorem ciRs2 : Try.prog.elem 52 = 27 := by kernel_rfl
theorem run_cut_head (A : Option Addr) (n c i : Nat) (hi : i ≤ c) (w : World) : (Instr.slice 52 (.slice A n c) none (some (.int .i64 (i : Int))) none).run Try.prog w = .ok (.slice (cutA A c 0) i c) w := by
  obtain ⟨q, hq, hz0, hz1, hz2⟩ := info_parts infoR
  rw [run_slice_h (P := Try.prog) w 52 A n c (by rw [ciRs2]; exact Try.underlying52) .i64 (i : Int) (by omega) (by omega)]
  simp [ciRs2, sizeOf, typeInfo, hq, hz1, sliced, cutA]
theorem run_cut_tail (A : Option Addr) (n c i : Nat) (hi : i ≤ n) (w : World) : (Instr.slice 52 (.slice A n c) (some (.int .i64 (i : Int))) none none).run Try.prog w = .ok (.slice (cutA A c i) (n - i) (c - i)) w := by
  obtain ⟨q, hq, hz0, hz1, hz2⟩ := info_parts infoR
  rw [run_slice_l (P := Try.prog) w 52 A n c (by rw [ciRs2]; exact Try.underlying52) .i64 (i : Int) (by omega) (by omega)]
  simp [ciRs2, sizeOf, typeInfo, hq, hz1, sliced, cutA]
/-- Blocks from lo on, below hi: what is kept while a list of one's own, apart from them, grows. -/
def Apart (v : Value) (lo hi : Nat) : Prop := ∀ g, v.ownBlock = some g → g < lo ∨ hi ≤ g
def Mid (lo hi : Nat) (w w' : World) : Prop := w.heap.size ≤ w'.heap.size ∧ ∀ g, lo ≤ g → g < hi → w'.heap[g]? = w.heap[g]?
def PAtB (w : World) (lo hi : Nat) (A : Option Addr) (l : List P2) : Prop := 0 < l.length → ∃ b off, A = some ⟨b, off, none⟩ ∧ lo ≤ b ∧ b < hi ∧ ∀ j (h : j < l.length), w.cell? ⟨b, off + j * 2, none⟩ = some (.int .i64 l[j].1) ∧ w.cell? ⟨b, off + j * 2 + 1, none⟩ = some (.int .i64 l[j].2)
theorem apart0 (v : Value) : Apart v 0 0 := fun _ _ => .inr (Nat.zero_le _)
theorem cell_same {w w' : World} {b : Nat} (h : w'.heap[b]? = w.heap[b]?) (off : Nat) : w'.cell? ⟨b, off, none⟩ = w.cell? ⟨b, off, none⟩ := by
  unfold World.cell?
  simp only [h]
theorem patb_below {w w' : World} {lo hi : Nat} {A : Option Addr} {l : List P2} (h : PAtB w lo hi A l) (hb : Below w.heap.size w w') (hh : hi ≤ w.heap.size) : PAtB w' lo hi A l := fun h0 => by
  obtain ⟨b, off, e, h1, h2, h3⟩ := h h0
  exact ⟨b, off, e, h1, h2, fun j hj => ⟨(hb.cell (p := ⟨b, _, none⟩) (Nat.lt_of_lt_of_le h2 hh)).trans (h3 j hj).1, (hb.cell (p := ⟨b, _, none⟩) (Nat.lt_of_lt_of_le h2 hh)).trans (h3 j hj).2⟩⟩
theorem patb_mid {w w' : World} {lo hi : Nat} {A : Option Addr} {l : List P2} (h : PAtB w lo hi A l) (hm : Mid lo hi w w') : PAtB w' lo hi A l := fun h0 => by
  obtain ⟨b, off, e, h1, h2, h3⟩ := h h0
  exact ⟨b, off, e, h1, h2, fun j hj => ⟨(cell_same (hm.2 b h1 h2) _).trans (h3 j hj).1, (cell_same (hm.2 b h1 h2) _).trans (h3 j hj).2⟩⟩
theorem patb_at {w : World} {lo hi : Nat} {A : Option Addr} {l : List P2} (h : PAtB w lo hi A l) (hh : hi ≤ w.heap.size) : PAt w w.heap.size A l := fun h0 => by
  obtain ⟨b, off, e, h1, h2, h3⟩ := h h0
  exact ⟨b, off, e, Nat.lt_of_lt_of_le h2 hh, h3⟩
theorem patb_own {w : World} {D n c : Nat} {A : Option Addr} {l : List P2} (h : OwnR w D (.slice A n c) l) : PAtB w D w.heap.size A l := fun h0 => by
  obtain ⟨b, off, e, h2, h3⟩ := own2_at h h0
  subst e
  rcases h.2 with ⟨e, h9⟩ | ⟨g, cap, cur, e, hg, _⟩
  · simp at e
  · simp only [Value.slice.injEq, Option.some.injEq, Addr.mk.injEq] at e
    exact ⟨b, off, rfl, by omega, h2, h3⟩
theorem patb_one {w : World} (x y : Int) : PAtB (w.alloc (.cells #[.int .i64 x, .int .i64 y] 27)) w.heap.size (w.heap.size + 1) (some ⟨w.heap.size, 0, none⟩) [(x, y)] := fun _ => by
  have h := Held.new w 27 #[.int .i64 x, .int .i64 y]
  refine ⟨_, _, rfl, Nat.le_refl _, Nat.lt_succ_self _, fun j hj => ?_⟩
  obtain rfl : j = 0 := by simpa using hj
  exact ⟨h.cell 0, h.cell 1⟩
theorem patb_one_hi {w : World} (x y : Int) : w.heap.size + 1 ≤ (w.alloc (.cells #[.int .i64 x, .int .i64 y] 27)).heap.size := (Held.new w 27 #[.int .i64 x, .int .i64 y]).lt
theorem wp_append_rb {w : World} {o : Oper} {a : Act} {K : Act → World → Prop} {Q : Exit → Act → World → Prop} (s x : Operand)
    (hop : o.op = Op.call { callee := Callee.builtin Builtin.append, args := #[s, x], argTypes := #[52, 52] })
    (B : Nat) {A A2 : Option Addr} {m n c c2 C : Nat} {l k : List P2} (hs : a.eval s = .slice A m c) (own : OwnR w B (.slice A m c) l) (hn : k.length = n) (hx : a.eval x = .slice A2 n c2) (hc : PAt w C A2 k)
    (hlen : m + n ≤ 1000000) (hB : B ≤ w.heap.size) (lo hi : Nat) (hap : Apart (.slice A m c) lo hi) (hhi : hi ≤ w.heap.size)
    (h : ∀ A' c' w', OwnR w' B (.slice A' (m + n) c') (l ++ k) → Below B w w' → Apart (.slice A' (m + n) c') lo hi → Mid lo hi w w' → K (a.put o.dst (.slice A' (m + n) c')) w') : o.wp Try.prog a w K Q := by
  have hl := own.len
  by_cases h0 : n = 0
  · subst h0
    have hk : k = [] := List.eq_nil_of_length_eq_zero hn
    subst hk
    have hr : ∀ ty, (Builtin.append_ #[52, 52] ty #[.slice A m c, .slice A2 0 c2]).run Try.prog w = .ok (.slice A m c) w := fun ty => by
      rcases own.2 with ⟨e, _⟩ | ⟨g, cap, cur, e, _, _, hle, _⟩
      · simp only [Value.slice.injEq] at e
        obtain ⟨rfl, rfl, rfl⟩ := e
        exact run_zeroN w c2 A2 ty
      · simp only [Value.slice.injEq] at e
        obtain ⟨rfl, e2, rfl⟩ := e
        exact run_zeroM w g m c c2 A2 ty (by omega)
    unfold Oper.wp execOp
    simp only [hop, resolve, invoke, builtin, Sem.run_bind, Sem.run_pure, Result.andThen_ok, List.map_toArray, List.map_cons, List.map_nil, hs, hx, hr]
    have := h A c w (by simpa using own) (Below.refl _ _) (by simpa using hap) ⟨Nat.le_refl _, fun _ _ _ => rfl⟩
    rw [Nat.add_zero] at this
    exact this
  · obtain ⟨b, off, rfl, hbC, hf⟩ := hc (by omega)
    obtain ⟨q, hi2, hz0, hz1, hz2⟩ := info_parts infoR
    subst hn hl
    refine wp_append_lies w s x 52 hop B 27 q (.agg #[.int .i64 0, .int .i64 0]) 2 16 Try.underlying52 hi2 hz0 hz1 hz2 rfl (by decide) _ l.length (flatP l) hs own ⟨b, off, none⟩ k.length c2
      (flatP k) hx (flatP_len k) (newsP (C := C) hf) oneP (by omega) (by unfold maxLen; omega) (by omega) hB _ rfl ?_
    intro g cap w' k1 k2 k3 k4
    have hbw := (Below.refl B w).grown k2 hB fun q e => (own.lt q e).1
    refine h _ _ w' ?_ hbw ?_ ⟨hbw.size, fun g1 h1 h2 => k2.block g1 (Nat.lt_of_lt_of_le h2 hhi) fun e => ?_⟩
    · unfold OwnR Own2
      rw [List.length_append, flatP_append]
      exact k1
    · intro g2 e
      simp only [Value.ownBlock, Option.some.injEq] at e
      subst e
      rcases k3 with k3 | k3
      · exact hap _ k3
      · exact .inr (by omega)
    · rcases hap g1 e.symm with h3 | h3 <;> omega
theorem rrefs_l {l k : List V} {n m : Nat} {R : Bool} (hR : decide (l = k) = R) (e1 : l.length = n) (e2 : k.length = m) (h1 : n ≤ 100000) (h2 : m ≤ 100000) (c c2 : Nat) (W : World) {A A2 : Option Addr} (hp : PAt W W.heap.size A l) (hq : PAt W W.heap.size A2 k) :
    Calls Try.prog 24 #[.slice A n c, .slice A2 m c2] W fun e w' => e = .returned (.bool R) ∧ Below W.heap.size W w' := by
  subst e1 e2
  exact rrefs_c hR h1 h2 c c2 W hp hq
end Go.Proofs.Ytkpjlobpaippdaa
