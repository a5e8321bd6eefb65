/- Layer 11: refs appended to one's own, be there any or none. -/
import Derived.Test.YthmnaclmbglkdaaJl
namespace Go.Proofs.Ythmnaclmbglkdaa
set_option linter.unusedVariables false
set_option linter.unusedSimpArgs false
open Go.RowKit Go.ChangeShapes Go.WideShapes Go.ChangeAt Go.Sort

theorem run_zeroM (w : World) (g m c c2 : Nat) (A : Option Addr) (ty : TypeId) (hm : m ≤ c) : (Builtin.append_ #[22, 22] ty #[.slice (some ⟨g, 0, none⟩) m c, .slice A 0 c2]).run Try.prog w = .ok (.slice (some ⟨g, 0, none⟩) m c) w := by
  obtain ⟨i, hi, hz0, hz1, hz2⟩ := info_parts infoR
  cases A <;> simp [Builtin.append_, run_underlying Try.underlying22, sizeOf, typeInfo, hi, storeCells, loadCellsFrom, Builtin.lenOf, Builtin.firstCells, loadCells, hm]
theorem run_zeroN (w : World) (c2 : Nat) (A : Option Addr) (ty : TypeId) : (Builtin.append_ #[22, 22] ty #[.slice none 0 0, .slice A 0 c2]).run Try.prog w = .ok (.slice none 0 0) w := by
  obtain ⟨i, hi, hz0, hz1, hz2⟩ := info_parts infoR
  cases A <;> simp [Builtin.append_, run_underlying Try.underlying22, sizeOf, typeInfo, hi, storeCells, loadCellsFrom, Builtin.lenOf, Builtin.firstCells, loadCells]
theorem wp_append_r {w : World} {o : Oper} {a : Act} {K : Act → World → Prop} {Q : Exit → Act → World → Prop} (s x : Operand)
    (hop : o.op = Op.call { callee := Callee.builtin Builtin.append, args := #[s, x], argTypes := #[22, 22] })
    (B : Nat) {A A2 : Option Addr} {m n c c2 C : Nat} {l k : List P2} (hs : a.eval s = .slice A m c) (own : OwnR w B (.slice A m c) l) (hn : k.length = n) (hx : a.eval x = .slice A2 n c2) (hc : PAt w C A2 k)
    (hlen : m + n ≤ 1000000) (hB : B ≤ w.heap.size)
    (h : ∀ A' c' w', OwnR w' B (.slice A' (m + n) c') (l ++ k) → Below B w w' → K (a.put o.dst (.slice A' (m + n) c')) w') : o.wp Try.prog a w K Q := by
  have hl := own.len
  by_cases h0 : n = 0
  · subst h0
    have hk : k = [] := List.eq_nil_of_length_eq_zero hn
    subst hk
    have hr : ∀ ty, (Builtin.append_ #[22, 22] ty #[.slice A m c, .slice A2 0 c2]).run Try.prog w = .ok (.slice A m c) w := fun ty => by
      rcases own.2 with ⟨e, _⟩ | ⟨g, cap, cur, e, _, _, hle, _⟩
      · simp only [Value.slice.injEq] at e
        obtain ⟨rfl, rfl, rfl⟩ := e
        exact run_zeroN w c2 A2 ty
      · simp only [Value.slice.injEq] at e
        obtain ⟨rfl, e2, rfl⟩ := e
        exact run_zeroM w g m c c2 A2 ty (by omega)
    unfold Oper.wp execOp
    simp only [hop, resolve, invoke, builtin, Sem.run_bind, Sem.run_pure, Result.andThen_ok, List.map_toArray, List.map_cons, List.map_nil, hs, hx, hr]
    have := h A c w (by simpa using own) (Below.refl _ _)
    rw [Nat.add_zero] at this
    exact this
  · obtain ⟨b, off, rfl, hbC, hf⟩ := hc (by omega)
    obtain ⟨q, hi, hz0, hz1, hz2⟩ := info_parts infoR
    subst hn hl
    refine wp_append_lies w s x 22 hop B 33 q (.agg #[.int .i64 0, .int .i64 0]) 2 16 Try.underlying22 hi hz0 hz1 hz2 rfl (by decide) _ l.length (flatP l) hs own ⟨b, off, none⟩ k.length c2
      (flatP k) hx (flatP_len k) (newsP (C := C) hf) oneP (by omega) (by unfold maxLen; omega) (by omega) hB _ rfl ?_
    intro g cap w' k1 k2 k3 k4
    refine h _ _ w' ?_ ?_
    · unfold OwnR Own2
      rw [List.length_append, flatP_append]
      exact k1
    · exact (Below.refl B w).grown k2 hB fun q e => (own.lt q e).1
/-- The same in a list of operations. -/
theorem wpList_append_r {w : World} {ops : Array Oper} {rest : List Oper} {o : Oper} {a : Act} {Q : Exit → Act → World → Prop} (hg : o.guard = none) (s x : Operand)
    (hop : o.op = Op.call { callee := Callee.builtin Builtin.append, args := #[s, x], argTypes := #[22, 22] })
    (B : Nat) {A A2 : Option Addr} {m n c c2 C : Nat} {l k : List P2} (hs : a.eval s = .slice A m c) (own : OwnR w B (.slice A m c) l) (hn : k.length = n) (hx : a.eval x = .slice A2 n c2) (hc : PAt w C A2 k)
    (hlen : m + n ≤ 1000000) (hB : B ≤ w.heap.size)
    (h : ∀ A' c' w', OwnR w' B (.slice A' (m + n) c') (l ++ k) → Below B w w' → wpList Try.prog ops Q rest (a.put o.dst (.slice A' (m + n) c')) w') : wpList Try.prog ops Q (o :: rest) a w :=
  wpList_plain hg fun K hK => wp_append_r s x hop B hs own hn hx hc hlen hB fun A' c' w' h1 h2 => hK _ _ (h A' c' w' h1 h2)
/-- A list that is made, empty. -/
theorem wp_build0R {o : Oper} {a : Act} {w : World} {K : Act → World → Prop} {Q : Exit → Act → World → Prop} (ho : o.op = .buildSlice 22 0 #[])
    (h : K (a.put o.dst (.slice (some ⟨w.heap.size, 0, none⟩) 0 0)) (w.alloc (.cells #[] 33))) : o.wp Try.prog a w K Q := by
  obtain ⟨i, hi, hz0, hz1, hz2⟩ := info_parts infoR
  have hr : (Instr.buildSlice 22 0 #[]).run Try.prog w = .ok (.slice (some ⟨w.heap.size, 0, none⟩) 0 0) (w.alloc (.cells #[] 33)) := by
    simp [Instr.buildSlice, run_underlying Try.underlying22, sizeOf, typeInfo, zeroValue, hi, hz0, hz1, newRow, Instr.fill]
    have e : (Array.map (fun _ => (default : Value)) (Array.range 0)) = #[] := Array.eq_empty_of_size_eq_zero (by simp)
    rw [e]
  unfold Oper.wp execOp
  simp only [ho, Sem.run_bind, List.map_toArray, List.map_nil, hr, Result.andThen_ok]
  exact h
theorem pat_at {W : World} {B b off : Nat} {l : List P2} (h : PAt W B (some ⟨b, off, none⟩) l) {j : Nat} (hj : j < l.length) : W.cell? ⟨b, off + j * 2, none⟩ = some (.int .i64 l[j].1) ∧ W.cell? ⟨b, off + j * 2 + 1, none⟩ = some (.int .i64 l[j].2) ∧ b < B := by
  obtain ⟨b', off', e, hb, hc⟩ := h (by omega)
  simp only [Option.some.injEq, Addr.mk.injEq, and_true] at e
  obtain ⟨rfl, rfl⟩ := e
  exact ⟨(hc j hj).1, (hc j hj).2, hb⟩
/-- A variable that is made. -/
theorem wp_alloc_R {P : Program} {w : World} {o : Oper} {a : Act} {K : Act → World → Prop} {Q : Exit → Act → World → Prop} (t : TypeId) (ho : o.op = .alloc t) (c : Array Value)
    (hz : (P.info? t).map (·.zero) = some (some (.agg c))) (h : K (a.put o.dst (.pointer (some ⟨w.heap.size, 0, none⟩))) (w.alloc (.cells c t))) : o.wp P a w K Q := by
  cases hq : P.info? t with
  | none => simp [hq] at hz
  | some i =>
    simp [hq] at hz
    have hrun : (Instr.alloc t true (.tuple #[])).run P w = .ok (.pointer (some ⟨w.heap.size, 0, none⟩)) (w.alloc (.cells c t)) := by
      simp [Instr.alloc, zeroValue, typeInfo, hq, hz, newVar, newRow, Value.cells]
    unfold Oper.wp execOp
    simp only [ho, Sem.run_bind, hrun, Result.andThen_ok]
    exact h
/-- The first ones, and the others. -/
def cutA (A : Option Addr) (c i : Nat) : Option Addr := if c = i then A else A.map (·.add (i * 2))
theorem cut_head {W : World} {B c : Nat} {A : Option Addr} {l : List P2} (h : PAt W B A l) (hc : l.length ≤ c) (i : Nat) : PAt W B (cutA A c 0) (l.take i) := fun h0 => by
  have hl : 0 < l.length := by rw [List.length_take] at h0; omega
  obtain ⟨b, off, rfl, hb, hh⟩ := h hl
  refine ⟨b, off, ?_, hb, fun j hj => ?_⟩
  · unfold cutA
    rw [if_neg (by omega)]
    simp [Addr.add]
  · rw [List.length_take] at hj
    rw [List.getElem_take]
    exact hh j (by omega)
theorem cut_tail {W : World} {B c : Nat} {A : Option Addr} {l : List P2} (h : PAt W B A l) (hc : l.length ≤ c) (i : Nat) : PAt W B (cutA A c i) (l.drop i) := fun h0 => by
  rw [List.length_drop] at h0
  obtain ⟨b, off, rfl, hb, hh⟩ := h (by omega)
  refine ⟨b, off + i * 2, ?_, hb, fun j hj => ?_⟩
  · unfold cutA
    rw [if_neg (by omega)]
    simp [Addr.add]
  · rw [List.length_drop] at hj
    rw [List.getElem_drop]
    have := hh (i + j) (by omega)
    rw [show off + i * 2 + j * 2 = off + (i + j) * 2 by omega]
    exact this
theorem ciRs2 : Try.prog.elem 22 = 33 := by kernel_rfl
theorem run_cut_head (A : Option Addr) (n c i : Nat) (hi : i ≤ c) (w : World) : (Instr.slice 22 (.slice A n c) none (some (.int .i64 (i : Int))) none).run Try.prog w = .ok (.slice (cutA A c 0) i c) w := by
  obtain ⟨q, hq, hz0, hz1, hz2⟩ := info_parts infoR
  rw [run_slice_h (P := Try.prog) w 22 A n c (by rw [ciRs2]; exact Try.underlying22) .i64 (i : Int) (by omega) (by omega)]
  simp [ciRs2, sizeOf, typeInfo, hq, hz1, sliced, cutA]
theorem run_cut_tail (A : Option Addr) (n c i : Nat) (hi : i ≤ n) (w : World) : (Instr.slice 22 (.slice A n c) (some (.int .i64 (i : Int))) none none).run Try.prog w = .ok (.slice (cutA A c i) (n - i) (c - i)) w := by
  obtain ⟨q, hq, hz0, hz1, hz2⟩ := info_parts infoR
  rw [run_slice_l (P := Try.prog) w 22 A n c (by rw [ciRs2]; exact Try.underlying22) .i64 (i : Int) (by omega) (by omega)]
  simp [ciRs2, sizeOf, typeInfo, hq, hz1, sliced, cutA]
/-! The document's calls, what they tell given. -/
theorem pop_buf (r : Rng) : (popR r).1.buf = r.buf := by unfold popR; split <;> rfl
theorem steal_buf (r : Rng) : (stealR r).1.buf = r.buf := by unfold stealR; split <;> rfl
theorem stealN_buf : ∀ (n : Nat) (r : Rng), (stealN n r).buf = r.buf
  | 0, _ => rfl
  | n + 1, r => (stealN_buf n (stealR r).1).trans (steal_buf r)
theorem rpush_c {A A2 : Option Addr} {r R : Rng} {l : List P2} {e : Int} {n : Nat} (he : pushR r l = (R, e)) (hn : l.length = n) (h2 : n ≤ 1000) (c c2 : Nat) (W : World) (hp : PAt W W.heap.size A r.buf) (hp2 : PAt W W.heap.size A2 l) :
    Calls Try.prog 12 #[rgv A r.buf.length c r.head r.many r.most, .slice A2 n c2] W fun x w' => ∃ v, x = .returned (.tuple #[v, .int .i64 e]) ∧ (∃ A' c', v = rgv A' R.buf.length c' R.head R.many R.most ∧ PAt w' w'.heap.size A' R.buf) ∧ Below W.heap.size W w' := by
  have h := rpush_any (l := l) c c2 W hp hp2 (Nat.le_refl _) (by omega)
  rw [he, hn] at h
  exact h
theorem rpop_c {A : Option Addr} {r R : Rng} {x : RefP} {b : Bool} (he : popR r = (R, x, b)) (c : Nat) (W : World) (hp : PAt W W.heap.size A r.buf) :
    Calls Try.prog 14 #[rgv A r.buf.length c r.head r.many r.most] W fun e w' => ∃ v, e = .returned (.tuple #[v, gv x.1 x.2, .bool b]) ∧ (∃ A' c', v = rgv A' R.buf.length c' R.head R.many R.most ∧ PAt w' w'.heap.size A' R.buf) ∧ Below W.heap.size W w' := by
  have hb := pop_buf r
  have h := rpop_any c W hp (Nat.le_refl _)
  rw [he] at h hb
  simp only at hb
  refine h.mono fun e w' h => ?_
  obtain ⟨rfl, hw⟩ := h
  exact ⟨_, rfl, ⟨A, c, by rw [hb], by rw [hb]; exact pat_later hp hw⟩, hw⟩
theorem rsteal_c {A : Option Addr} {r R : Rng} {x : RefP} {b : Bool} (he : stealR r = (R, x, b)) (c : Nat) (W : World) (hp : PAt W W.heap.size A r.buf) :
    Calls Try.prog 16 #[rgv A r.buf.length c r.head r.many r.most] W fun e w' => ∃ v, e = .returned (.tuple #[v, gv x.1 x.2, .bool b]) ∧ (∃ A' c', v = rgv A' R.buf.length c' R.head R.many R.most ∧ PAt w' w'.heap.size A' R.buf) ∧ Below W.heap.size W w' := by
  have hb := steal_buf r
  have h := rsteal_any c W hp (Nat.le_refl _)
  rw [he] at h hb
  simp only at hb
  refine h.mono fun e w' h => ?_
  obtain ⟨rfl, hw⟩ := h
  exact ⟨_, rfl, ⟨A, c, by rw [hb], by rw [hb]; exact pat_later hp hw⟩, hw⟩
theorem rhalf_c {A : Option Addr} {r R : Rng} {l : List RefP} {n : Nat} (he : halfR r = (R, l)) (hn : l.length = n) (hs : (itemsR r).length ≤ 1024) (c : Nat) (W : World) (hp : PAt W W.heap.size A r.buf) :
    Calls Try.prog 18 #[rgv A r.buf.length c r.head r.many r.most] W fun e w' => ∃ v A' c', e = .returned (.tuple #[v, .slice A' n c']) ∧ (∃ A' c', v = rgv A' R.buf.length c' R.head R.many R.most ∧ PAt w' w'.heap.size A' R.buf) ∧ OwnR w' W.heap.size (.slice A' n c') l ∧ Below W.heap.size W w' := by
  have hb : (halfR r).1.buf = r.buf := stealN_buf _ _
  have h := rhalf_any c W hp (Nat.le_refl _) hs
  rw [he] at h hb
  simp only at hb
  subst hn
  refine h.mono fun e w' h => ?_
  obtain ⟨A', c', rfl, ho, hw⟩ := h
  exact ⟨_, A', c', rfl, ⟨A, c, by rw [hb], by rw [hb]; exact pat_later hp hw⟩, ho, hw⟩
theorem rnew_c {a b : Int} {R : Rng} {is : Bool} (he : newR a b = (R, is)) (W : World) : Calls Try.prog 20 #[.int .i64 a, .int .i64 b] W (RingQ W R (.bool is)) := by
  have h := rnewr_any a b W
  rw [he] at h
  exact h
theorem ritems_c {A : Option Addr} {r : Rng} {l : List RefP} {n : Nat} (he : itemsR r = l) (hn : l.length = n) (c : Nat) (W : World) (hp : PAt W W.heap.size A r.buf) :
    Calls Try.prog 24 #[rgv A r.buf.length c r.head r.many r.most] W fun e w' => ∃ A' c', e = .returned (.slice A' n c') ∧ OwnR w' W.heap.size (.slice A' n c') l ∧ Below W.heap.size W w' := by
  have h := ritems_any c W hp (Nat.le_refl _)
  rw [he] at h
  subst hn
  exact h
theorem rmay_c {r : Rng} {R : Bool} (hR : mayR r = R) (A : Option Addr) (c : Nat) (W : World) : Calls Try.prog 26 #[rgv A r.buf.length c r.head r.many r.most] W fun e w' => e = .returned (.bool R) ∧ Below W.heap.size W w' := by
  subst hR
  exact (rmayr_any A r.buf.length c r.head r.many r.most).go W
theorem rsmall_c {r : Rng} {R : Bool} (hR : decide (r.buf.length ≤ 60) = R) (A : Option Addr) (c : Nat) (W : World) : Calls Try.prog 9 #[rgv A r.buf.length c r.head r.many r.most] W fun e w' => e = .returned (.bool R) ∧ Below W.heap.size W w' := by
  subst hR
  exact (rsmallr_any A r.buf.length c r.head r.many r.most).go W
/-- Two rings that are the same. -/
theorem rsame_c {A A2 : Option Addr} {r q : Rng} {R : Bool} (hR : (r = q) = (R = true)) (l1 : r.buf.length ≤ 100000) (l2 : q.buf.length ≤ 100000) (c c2 : Nat) (W : World) (hp : PAt W W.heap.size A r.buf) (hp2 : PAt W W.heap.size A2 q.buf) :
    Calls Try.prog 21 #[rgv A r.buf.length c r.head r.many r.most, rgv A2 q.buf.length c2 q.head q.many q.most] W fun e w' => e = .returned (.bool R) ∧ Below W.heap.size W w' := by
  have h := rsamer_any c c2 W hp hp2 (Nat.le_refl _) l1 l2
  have e : (decide (r.buf = q.buf) && (r.head == q.head) && (r.many == q.many) && (r.most == q.most)) = R := by
    rw [Bool.eq_iff_iff, ← hR]
    simp only [Bool.and_eq_true, decide_eq_true_eq, beq_iff_eq]
    constructor
    · rintro ⟨⟨⟨h1, h2⟩, h3⟩, h4⟩
      cases r; cases q
      simp only at h1 h2 h3 h4
      subst h1 h2 h3 h4
      rfl
    · rintro rfl
      exact ⟨⟨⟨rfl, rfl⟩, rfl⟩, rfl⟩
  rw [e] at h
  exact h
/-- How long a ring's places are behind a push. -/
theorem push_len {r : Rng} (l : List RefP) (h : r.buf.length ≤ 100000) : (pushR r l).1.buf.length ≤ 100000 := by
  unfold pushR
  split
  · simp only; omega
  · rename_i hm
    split
    · simp only; omega
    · rename_i hf
      simp only [Bool.not_eq_false] at hm
      obtain ⟨q1, -, -, -, -, -⟩ := many_ok l hm (by omega)
      obtain ⟨⟨a1, a2⟩, ⟨b1, b2⟩, -, -⟩ := (mayR_iff _).1 q1
      simp only
      omega
end Go.Proofs.Ythmnaclmbglkdaa
