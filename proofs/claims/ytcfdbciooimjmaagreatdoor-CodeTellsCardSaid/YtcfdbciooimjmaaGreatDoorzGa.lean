/- The plain mathematics of layer 1: what a varint's bytes are, what is read of bytes. -/
import Derived.WalkKit
import Derived.ScopeJumps
import Derived.Laws.IdiomStrings
import Derived.OwnWalk
import Derived.Below
import Derived.Laws.CopyRow
import Derived.Deep.WholeRow
import Derived.ProofKit
import Derived.OpenShut
namespace Go.Proofs.YtcfdbciooimjmaaGreatDoor
set_option linter.unusedVariables false
set_option linter.unusedSimpArgs false
open Go

/-- A scope with one label that is jumped back to: what holds at the label is shown once. -/
theorem wp_scope_once {P : Program} {a : Act} {w : World} {Q : Exit → Act → World → Prop} {c rest : Code} (l : Nat) (J : Act → World → Prop) (μ : Act → World → Nat) (hf : findLabel c l = some (.seq .skip rest))
    (pass : ∀ a w, J a w → rest.wp P (Exit.jump l (fun a' w' => J a' w' ∧ μ a' w' < μ a w) Q) a w)
    (first : (∀ a w, J a w → rest.wp P (Exit.jump l J Q) a w) → c.wp P (Exit.jump l J Q) a w) : (Code.scope c).wp P Q a w :=
  wp_scope_jumps l J μ hf (first fun a w h => wp_mono (pass a w h) fun e a' w' hq => by
    cases e with
    | goto l' => exact ⟨hq.1, hq.2.1⟩
    | normal => exact hq
    | exit id => exact hq
    | ret => exact hq
    | panic ch => exact hq
    | outgrown => exact hq) fun a w h => wp_seq (wp_skip (pass a w h))

def flawF (b p : Int) : Int := if p = 7 then 11 else if p = 6 ∧ 64 ≤ b ∧ b ≤ 127 then 11 else if 0 < p ∧ b = 0 then 12 else 0

def getL : List UInt8 → Nat → Int → Int × Nat × Int
  | [], _, _ => (0, 0, 10)
  | c :: r, k, n =>
    if flawF c.toNat k ≠ 0 then (0, 0, flawF c.toNat k)
    else if c.toNat < 128 then (n + ((c.toNat : Int) % 128) * 128 ^ k, k + 1, 0)
    else getL r (k + 1) (n + ((c.toNat : Int) % 128) * 128 ^ k)

def getF (s : List UInt8) (at_ : Int) : Int × Int × Int :=
  if at_ < 0 ∨ (s.length : Int) < at_ then (0, at_, 1)
  else ((getL (s.drop at_.toNat) 0 0).1, at_ + (getL (s.drop at_.toNat) 0 0).2.1, (getL (s.drop at_.toNat) 0 0).2.2)

end Go.Proofs.YtcfdbciooimjmaaGreatDoor

/- The plain mathematics of layer 1: what is written. -/
namespace Go.Proofs.YtcfdbciooimjmaaGreatDoor
set_option linter.unusedVariables false
set_option linter.unusedSimpArgs false
open Go Go.RowKit

def putG : Nat → Nat → List UInt8
  | 0, _ => []
  | f + 1, n => if n < 128 then [UInt8.ofNat n] else UInt8.ofNat (n % 128 + 128) :: putG f (n / 128)

def putF (n : Int) : List UInt8 := if n < 0 ∨ 281474976710655 < n then [] else putG 7 n.toNat

def bv (c : UInt8) : Value := .int .u8 (c.toNat : Int)

/-- The call's own slice v holds the bytes bs. -/
def OwnB (w : World) (base : Nat) (e : TypeId) (v : Value) (bs : List UInt8) : Prop := w.ownsRow base e 1 v bs.length (bs.map bv)
theorem OwnB.nil (w : World) (base : Nat) (e : TypeId) : OwnB w base e (.slice none 0 0) [] := ⟨by simp, .inl ⟨rfl, rfl⟩⟩

theorem conv_owned {P : Program} {src dst e : TypeId} (hs : P.underlying src = some (.slice e)) (he : P.underlying e = some (.int .u8)) (hd : P.underlying dst = some .string)
    {w : World} {base : Nat} {v : Value} {bs : List UInt8} (own : OwnB w base e v bs) (hn : bs ≠ []) :
    (convert src dst v).run P w = .ok (.string ⟨bs.toArray⟩) w := by
  unfold OwnB at own
  have hc := fun g hg => own.cells (g := g) hg
  rcases own.2 with ⟨_, h0⟩ | ⟨g, cap, cur, rfl, _⟩
  · exact absurd (List.eq_nil_of_length_eq_zero h0) hn
  · refine run_convert_bytes_back w src dst e _ cap bs hs he hd fun j hj => ?_
    exact hc g rfl j _ (by simp [List.getElem?_eq_getElem hj, bv])

theorem conv_back {P : Program} (w : World) (src dst e : TypeId) (a : Addr) (k cap : Nat) (l : List UInt8) (hk : l.length = k) (hs : P.underlying src = some (.slice e)) (he : P.underlying e = some (.int .u8)) (hd : P.underlying dst = some .string)
    (hc : ∀ j (hj : j < l.length), w.cell? (a.add j) = some (.int .u8 (l[j].toNat : Int))) :
    (convert src dst (.slice (some a) k cap)).run P w = .ok (.string ⟨l.toArray⟩) w := by
  subst hk
  exact run_convert_bytes_back w src dst e a cap l hs he hd hc

/-- Bytes that the call itself laid: a byte more. -/
theorem wpList_append_byte {P : Program} {w : World} {ops : Array Oper} {rest : List Oper} {o : Oper} {a : Act} {Q : Exit → Act → World → Prop}
    (hg : o.guard = none) (s x : Operand) (t : TypeId) (hop : o.op = Op.call { callee := Callee.builtin Builtin.append, args := #[s, x], argTypes := #[t, t] })
    (e : TypeId) (ht : P.underlying t = some (.slice e)) (hi : (P.info? e).map (fun i => (i.zero, i.size, i.bytes)) = some (some (.int .u8 0), 1, 1))
    (base : Nat) (w0 : World) (u v : Value) (bs : List UInt8) (c : UInt8) (hw : w = w0.alloc (.cells #[u] e)) (hu : u = bv c) (hs : a.eval s = v) (own : OwnB w0 base e v bs)
    (hx : a.eval x = .slice (some ⟨w0.heap.size, 0, none⟩) 1 1) (hlen : bs.length + 1 ≤ 140737488355328) (hbase : base ≤ w0.heap.size)
    (h : ∀ v' w', OwnB w' base e v' (bs ++ [c]) → Below base w0 w' → wpList P ops Q rest (a.put o.dst v') w') : wpList P ops Q (o :: rest) a w := by
  subst hw hu
  unfold OwnB at own
  obtain ⟨i, hi, hz0, hz1, hz2⟩ := info_parts hi
  have own' : (w0.alloc (.cells #[bv c] e)).ownsRow base e 1 v bs.length (bs.map bv) := own.alloc _
  refine wpList_append_own _ hg s x t hop base e i (.int .u8 0) 1 1 ht hi hz0 hz1 hz2 rfl (by decide) v bs.length (bs.map bv) hs own' ⟨w0.heap.size, 0, none⟩ 1 1 [bv c] hx rfl ?_ ?_ (by unfold maxLen; omega) (by omega) (by simp; omega) ?_
  · intro j u hu
    cases j with
    | zero => simp at hu; subst hu; simp [Addr.add, go_sem]
    | succ j => simp at hu
  · intro u hu; simp at hu; subst hu; rfl
  · intro v' w' h1 h2 _
    refine h v' w' (by unfold OwnB; simpa using h1) (((Below.refl base w0).alloc hbase _).grown h2 (by simp; omega) ?_)
    intro k hk
    rcases own.2 with ⟨rfl, _⟩ | ⟨g, cap, cur, rfl, hgb, _⟩
    · simp [Value.ownBlock] at hk
    · simp [Value.ownBlock] at hk; omega
/-- 'copy(dst, t)' of a text: as many of its bytes as there is room for. -/
theorem run_copy_text {P : Program} (w : World) (dT sT ty elem : TypeId) (g o dLen dCap : Nat) (t : ByteArray) (cur : Array Value) (e : TypeId)
    (hu : P.underlying dT = some (.slice elem)) (hs : (P.info? elem).map (·.size) = some 1) (hg : w.heap[g]? = some (.cells cur e (0, 0))) (hfit : o + dLen ≤ cur.size) :
    (Builtin.copy_ #[dT, sT] ty #[.slice (some ⟨g, o, none⟩) dLen dCap, .string t]).run P w =
      .ok (goInt (Nat.min t.size dLen)) (w.setRow g (cur.toList.take o ++ (t.data.toList.take (Nat.min t.size dLen)).map bv ++ cur.toList.drop (o + Nat.min t.size dLen)).toArray) := by
  have hm : Nat.min t.size dLen ≤ dLen := Nat.min_le_right _ _
  have hm' : Nat.min t.size dLen ≤ t.size := Nat.min_le_left _ _
  generalize hn : Nat.min t.size dLen = n at *
  have hl : ((t.data.toList.take n).map bv).length = n := by
    simp only [List.length_map, List.length_take, Array.length_toList]
    exact Nat.min_eq_left hm'
  have hst := run_storeCells_at (P := P) g o e ((t.data.toList.take n).map bv) 0 cur w hg (by rw [hl]; omega) (by
    intro v hv
    obtain ⟨x, _, rfl⟩ := List.mem_map.1 hv
    rfl)
  rw [hl] at hst
  simp only [Nat.add_zero] at hst
  cases hq : P.info? elem with
  | none => simp [hq] at hs
  | some i =>
    simp [Builtin.copy_, run_underlying hu, Builtin.lenOf, Builtin.firstCells, Go.sizeOf, typeInfo, hq, hn]
    simp only [List.map_take, List.append_assoc] at hst
    have hb : (fun b : UInt8 => Value.int .u8 (b.toNat : Int)) = bv := rfl
    rw [hb, hst]
    rfl

/-- .. onto four bytes of a new array: the text has as many. -/
theorem run_copy_four {P : Program} (w : World) (dT sT ty elem e : TypeId) (t : ByteArray) (u0 u1 u2 u3 : Value) (b0 b1 b2 b3 : UInt8) (r : List UInt8) (hd : t.data.toList = b0 :: b1 :: b2 :: b3 :: r)
    (hu : P.underlying dT = some (.slice elem)) (hs : (P.info? elem).map (·.size) = some 1) :
    (Builtin.copy_ #[dT, sT] ty #[.slice (some ⟨w.heap.size, 0, none⟩) 4 4, .string t]).run P (w.alloc (.cells #[u0, u1, u2, u3] e)).drew =
      .ok (.int .i64 4) (w.alloc (.cells #[bv b0, bv b1, bv b2, bv b3] e)).drew := by
  have hn : Nat.min t.size 4 = 4 := by
    have : t.size = t.data.toList.length := rfl
    rw [this, hd]
    simp
  rw [run_copy_text (P := P) (w.alloc (.cells #[u0, u1, u2, u3] e)).drew dT sT ty elem w.heap.size 0 4 4 t #[u0, u1, u2, u3] e hu hs (heap_alloc_last w _) (by simp), hn, hd]
  simp
  exact ⟨rfl, congrArg World.drew (World.setRow_alloc_new w _ _ e)⟩
/-- .. onto four bytes of a new array: the text has fewer. -/
theorem run_copy_less {P : Program} (w : World) (dT sT ty elem e : TypeId) (t : ByteArray) (u0 u1 u2 u3 : Value) (ht : t.size < 4)
    (hu : P.underlying dT = some (.slice elem)) (hs : (P.info? elem).map (·.size) = some 1) :
    ∃ c, (Builtin.copy_ #[dT, sT] ty #[.slice (some ⟨w.heap.size, 0, none⟩) 4 4, .string t]).run P (w.alloc (.cells #[u0, u1, u2, u3] e)).drew =
      .ok (.int .i64 t.size) (w.alloc (.cells c e)).drew := by
  have hn : Nat.min t.size 4 = t.size := Nat.min_eq_left (by omega)
  rw [run_copy_text (P := P) (w.alloc (.cells #[u0, u1, u2, u3] e)).drew dT sT ty elem w.heap.size 0 4 4 t #[u0, u1, u2, u3] e hu hs (heap_alloc_last w _) (by simp), hn]
  exact ⟨_, congrArg (fun x => Result.ok (goInt t.size) (World.drew x)) (World.setRow_alloc_new w _ _ e)⟩
end Go.Proofs.YtcfdbciooimjmaaGreatDoor

/- Layer 1, plain: numbers as bytes: what was put is read, what is read was put, and of a number's bytes the first ones alone are cut off. -/
namespace Go.Proofs.YtcfdbciooimjmaaGreatDoor
set_option linter.unusedVariables false
set_option linter.unusedSimpArgs false
open Go Go.RowKit Go.ChangeShapes Go.WideShapes Go.ChangeAt

theorem group_in (k : Nat) (n b : Int) (hk : k ≤ 6) (h0 : 0 ≤ n) (h1 : n < 128 ^ k) (h2 : 0 ≤ b) (h3 : b < 128) :
    wrap64 (n + wrap64 (b * 2 ^ (7 * k))) = n + b * 128 ^ k ∧ 0 ≤ n + b * 128 ^ k ∧ n + b * 128 ^ k < 128 ^ (k + 1) := by
  rcases (by omega : k = 0 ∨ k = 1 ∨ k = 2 ∨ k = 3 ∨ k = 4 ∨ k = 5 ∨ k = 6) with rfl | rfl | rfl | rfl | rfl | rfl | rfl <;>
    simp [wrap64] at h1 ⊢ <;> omega

theorem flaw_lt (b : Int) (k : Nat) (hk : k ≤ 7) (h : flawF b k = 0) : k ≤ 6 := by
  by_cases e : k = 7
  · subst e; simp [flawF] at h
  · omega

theorem flaw_zero (c k : Nat) (hk : k ≤ 6) (h6 : k = 6 → c < 64 ∨ 127 < c) (h0 : 0 < k → 0 < c) : flawF c k = 0 := by
  unfold flawF
  rw [if_neg (by omega), if_neg (by omega), if_neg (by omega)]

/-- What was put is read, whatever stands behind. -/
theorem getL_putG (r : List UInt8) : ∀ (f k m : Nat) (n0 : Int), f + k = 7 → 0 < f → m < 128 ^ f → (f = 1 → m < 64) → (2 ≤ f → m < 64 * 128 ^ (f - 1)) → (0 < k → 0 < m) →
    getL (putG f m ++ r) k n0 = (n0 + m * 128 ^ k, k + (putG f m).length, 0)
  | 0, _, _, _, _, h, _, _, _, _ => by omega
  | f + 1, k, m, n0, hfk, _, hm, h1, h2, hk => by
    rw [putG]
    by_cases h : m < 128
    · rw [if_pos h]
      have hz := flaw_zero m k (by omega) (fun e => .inl (h1 (by omega))) hk
      have e1 : ((UInt8.ofNat m).toNat : Nat) = m := by simp; omega
      rw [List.singleton_append, getL, e1, if_neg (by rw [hz]; simp), if_pos h]
      have : (m : Int) % 128 = m := by omega
      rw [this]
      simp
    · rw [if_neg h]
      have hf : f ≠ 0 := by rintro rfl; simp at hm; omega
      have e1 : ((UInt8.ofNat (m % 128 + 128)).toNat : Nat) = m % 128 + 128 := by simp; omega
      have hz := flaw_zero (m % 128 + 128) k (by omega) (fun e => by omega) (fun _ => by omega)
      rw [List.cons_append, getL, e1, if_neg (by rw [hz]; simp), if_neg (by omega)]
      rw [Nat.pow_succ] at hm
      have hlt : m < 64 * 128 ^ f := by have := h2 (by omega); simpa using this
      have hq : (2 ≤ f → m / 128 < 64 * 128 ^ (f - 1)) := fun h => by
        obtain ⟨g, rfl⟩ : ∃ g, f = g + 1 := ⟨f - 1, by omega⟩
        rw [Nat.pow_succ] at hlt
        simp only [Nat.add_sub_cancel]
        omega
      rw [getL_putG r f (k + 1) (m / 128) _ (by omega) (by omega) (by omega) (fun e => by subst e; simp at hlt; omega) hq (by omega)]
      have e2 : (((m % 128 + 128 : Nat) : Int) % 128) = (m : Int) % 128 := by omega
      rw [e2, Int.pow_succ]
      have e3 : (m : Int) = 128 * ((m / 128 : Nat) : Int) + (m : Int) % 128 := by omega
      have e4 : (m : Int) % 128 * 128 ^ k + ((m / 128 : Nat) : Int) * (128 ^ k * 128) = (m : Int) * 128 ^ k := by
        conv => rhs; rw [e3]
        generalize (128 : Int) ^ k = t
        generalize (m : Int) % 128 = u
        generalize ((m / 128 : Nat) : Int) = v
        rw [Int.add_mul, Int.mul_comm 128 v, Int.mul_assoc, Int.mul_comm 128 t, Int.add_comm]
      simp only [List.length_cons]
      rw [Int.add_assoc, e4]
      refine Prod.ext rfl (Prod.ext ?_ rfl)
      simp only []
      omega

/-- What is read was put. -/
theorem putG_getL : ∀ (l : List UInt8) (k : Nat) (n0 m : Int) (k' : Nat), k ≤ 7 → getL l k n0 = (m, k', 0) →
    ∃ v : Nat, m = n0 + v * 128 ^ k ∧ k < k' ∧ k' ≤ k + l.length ∧ k' ≤ 7 ∧ putG (7 - k) v = l.take (k' - k) ∧ (0 < k → 0 < v) ∧ 0 < 7 - k ∧ v < 64 * 128 ^ (7 - k - 1)
  | [], k, n0, m, k', _, h => by simp [getL] at h
  | c :: r, k, n0, m, k', hk, h => by
    rw [getL] at h
    by_cases hf : flawF c.toNat k ≠ 0
    · rw [if_pos hf] at h; simp at h; exact absurd h.2.2 hf
    · rw [if_neg hf] at h
      have hf0 : flawF c.toNat k = 0 := by simpa using hf
      have hk6 := flaw_lt _ _ hk hf0
      have hz : (0 < k → 0 < c.toNat) ∧ (k = 6 → c.toNat < 64 ∨ 127 < c.toNat) := by
        unfold flawF at hf0
        rw [if_neg (by omega)] at hf0
        split at hf0
        · simp at hf0
        · split at hf0
          · simp at hf0
          · omega
      obtain ⟨g, hg⟩ : ∃ g, 7 - k = g + 1 := ⟨6 - k, by omega⟩
      by_cases hc : c.toNat < 128
      · rw [if_pos hc] at h
        simp only [Prod.mk.injEq, and_true] at h
        obtain ⟨h1, h2⟩ := h
        refine ⟨c.toNat, ?_, by omega, by simp only [List.length_cons]; omega, by omega, ?_, hz.1, by omega, ?_⟩
        · rw [← h1]
          have : (c.toNat : Int) % 128 = c.toNat := by omega
          rw [this]
        · rw [hg, putG, if_pos hc, ← h2, show k + 1 - k = 1 from by omega]
          simp
        · by_cases e : k = 6
          · subst e; have := hz.2 rfl; simp; omega
          · obtain ⟨i, hi⟩ : ∃ i, 7 - k - 1 = i + 1 := ⟨5 - k, by omega⟩
            rw [hi, Nat.pow_succ]
            have : 0 < 128 ^ i := Nat.pow_pos (by omega)
            omega
      · rw [if_neg hc] at h
        have ih := putG_getL r (k + 1) _ m k' (by omega) h
        obtain ⟨v, e1, e2, e3, e3', e4, e5, e6, e7⟩ := ih
        have hlt := c.toNat_lt
        have hv := e5 (by omega)
        refine ⟨c.toNat % 128 + 128 * v, ?_, by omega, by simp only [List.length_cons]; omega, e3', ?_, by omega, by omega, ?_⟩
        · rw [e1, Int.pow_succ]
          generalize (128 : Int) ^ k = t
          rw [Int.add_assoc]
          congr 1
          have : ((c.toNat % 128 + 128 * v : Nat) : Int) = (c.toNat : Int) % 128 + 128 * v := by omega
          rw [this, Int.add_mul]
          congr 1
          rw [Int.mul_comm t 128, ← Int.mul_assoc, Int.mul_comm (v : Int) 128]
        · rw [hg, putG, if_neg (by omega)]
          have q1 : (c.toNat % 128 + 128 * v) % 128 + 128 = c.toNat := by omega
          have q2 : (c.toNat % 128 + 128 * v) / 128 = v := by omega
          rw [q1, q2, show g = 7 - (k + 1) from by omega, e4]
          have : k' - k = (k' - (k + 1)) + 1 := by omega
          rw [this, List.take_succ_cons]
          simp
        · obtain ⟨i, hi⟩ : ∃ i, 7 - k - 1 = i + 1 := ⟨5 - k, by omega⟩
          have hi' : 7 - (k + 1) - 1 = i := by omega
          rw [hi'] at e7
          rw [hi, Nat.pow_succ]
          omega

theorem getL_bd : ∀ (l : List UInt8) (k : Nat) (n0 : Int), k ≤ 7 → 0 ≤ n0 → n0 < 128 ^ k →
    0 ≤ (getL l k n0).1 ∧ (getL l k n0).1 < 562949953421312 ∧ ((getL l k n0).2.2 = 0 → k < (getL l k n0).2.1 ∧ (getL l k n0).2.1 ≤ k + l.length) ∧ ((getL l k n0).2.2 ≠ 0 → (getL l k n0).1 = 0 ∧ (getL l k n0).2.1 = 0)
  | [], k, n0, h1, h2, h3 => by simp [getL]
  | c :: r, k, n0, h1, h2, h3 => by
    rw [getL]
    by_cases hf : flawF c.toNat k ≠ 0
    · rw [if_pos hf]; simp [hf]
    · rw [if_neg hf]
      have hk := flaw_lt _ _ h1 (by simpa using hf)
      have hg := group_in k n0 ((c.toNat : Int) % 128) hk h2 h3 (by omega) (by omega)
      by_cases hc : c.toNat < 128
      · rw [if_pos hc]
        refine ⟨hg.2.1, ?_, by simp, by simp⟩
        refine Int.lt_of_lt_of_le hg.2.2 ?_
        rcases (by omega : k = 0 ∨ k = 1 ∨ k = 2 ∨ k = 3 ∨ k = 4 ∨ k = 5 ∨ k = 6) with rfl | rfl | rfl | rfl | rfl | rfl | rfl <;> decide
      · rw [if_neg hc]
        have ih := getL_bd r (k + 1) _ (by omega) hg.2.1 hg.2.2
        refine ⟨ih.1, ih.2.1, fun h => ?_, ih.2.2.2⟩
        have := ih.2.2.1 h
        simp only [List.length_cons]
        omega

theorem putG_len : ∀ f n, (putG f n).length ≤ f
  | 0, _ => by simp [putG]
  | f + 1, n => by
    rw [putG]
    split
    · simp
    · simp only [List.length_cons]; have := putG_len f (n / 128); omega

/-- Of a number's bytes the first ones alone are cut off. -/
theorem getL_cut : ∀ (f k m j : Nat) (n0 : Int), f + k = 7 → 0 < f → m < 128 ^ f → (f = 1 → m < 64) → (2 ≤ f → m < 64 * 128 ^ (f - 1)) → (0 < k → 0 < m) → j < (putG f m).length →
    getL ((putG f m).take j) k n0 = (0, 0, 10)
  | 0, _, _, _, _, _, h, _, _, _, _, _ => by omega
  | f + 1, k, m, 0, n0, _, _, _, _, _, _, _ => by rw [List.take_zero]; rfl
  | f + 1, k, m, j + 1, n0, hfk, _, hm, h1, h2, hk, hj => by
    rw [putG] at hj ⊢
    by_cases h : m < 128
    · rw [if_pos h] at hj; simp at hj
    · rw [if_neg h] at hj ⊢
      have e1 : ((UInt8.ofNat (m % 128 + 128)).toNat : Nat) = m % 128 + 128 := by simp; omega
      have hz := flaw_zero (m % 128 + 128) k (by omega) (fun e => by omega) (fun _ => by omega)
      rw [List.take_succ_cons, getL, e1, if_neg (by rw [hz]; simp), if_neg (by omega)]
      have hf : f ≠ 0 := by rintro rfl; simp at hm; omega
      rw [Nat.pow_succ] at hm
      have hlt : m < 64 * 128 ^ f := by have := h2 (by omega); simpa using this
      have hq : (2 ≤ f → m / 128 < 64 * 128 ^ (f - 1)) := fun h => by
        obtain ⟨g, rfl⟩ : ∃ g, f = g + 1 := ⟨f - 1, by omega⟩
        rw [Nat.pow_succ] at hlt
        simp only [Nat.add_sub_cancel]
        omega
      exact getL_cut f (k + 1) (m / 128) j _ (by omega) (by omega) (by omega) (fun e => by subst e; simp at hlt; omega) hq (by omega) (by simpa using hj)
theorem putF_len (n : Int) : (putF n).length ≤ 7 := by
  unfold putF
  split
  · simp
  · exact putG_len 7 _
theorem bytes_append (a : List UInt8) (t : ByteArray) : (⟨a.toArray⟩ : ByteArray) ++ t = ⟨(a ++ t.data.toList).toArray⟩ := by
  apply ByteArray.ext
  simp
end Go.Proofs.YtcfdbciooimjmaaGreatDoor

