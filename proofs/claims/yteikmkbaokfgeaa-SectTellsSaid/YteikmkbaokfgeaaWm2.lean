/- The plain mathematics of layer 1: what is written. -/
import Derived.Test.YteikmkbaokfgeaaWm
import Derived.Laws.IdiomStrings
import Derived.OwnWalk
import Derived.Below
import Derived.Laws.CopyRow
import Derived.Deep.WholeRow
namespace Go.Proofs.Yteikmkbaokfgeaa
set_option linter.unusedVariables false
set_option linter.unusedSimpArgs false
open Go Go.RowKit

def putG : Nat → Nat → List UInt8
  | 0, _ => []
  | f + 1, n => if n < 128 then [UInt8.ofNat n] else UInt8.ofNat (n % 128 + 128) :: putG f (n / 128)

def putF (n : Int) : List UInt8 := if n < 0 ∨ 281474976710655 < n then [] else putG 7 n.toNat

def bv (c : UInt8) : Value := .int .u8 (c.toNat : Int)

/-- The call's own slice v holds the bytes bs. -/
def OwnB (w : World) (base : Nat) (e : TypeId) (v : Value) (bs : List UInt8) : Prop := w.ownsRow base e 1 v bs.length (bs.map bv)
theorem OwnB.nil (w : World) (base : Nat) (e : TypeId) : OwnB w base e (.slice none 0 0) [] := ⟨by simp, .inl ⟨rfl, rfl⟩⟩

theorem conv_owned {P : Program} {src dst e : TypeId} (hs : P.underlying src = some (.slice e)) (he : P.underlying e = some (.int .u8)) (hd : P.underlying dst = some .string)
    {w : World} {base : Nat} {v : Value} {bs : List UInt8} (own : OwnB w base e v bs) (hn : bs ≠ []) :
    (convert src dst v).run P w = .ok (.string ⟨bs.toArray⟩) w := by
  unfold OwnB at own
  have hc := fun g hg => own.cells (g := g) hg
  rcases own.2 with ⟨_, h0⟩ | ⟨g, cap, cur, rfl, _⟩
  · exact absurd (List.eq_nil_of_length_eq_zero h0) hn
  · refine run_convert_bytes_back w src dst e _ cap bs hs he hd fun j hj => ?_
    exact hc g rfl j _ (by simp [List.getElem?_eq_getElem hj, bv])

theorem conv_back {P : Program} (w : World) (src dst e : TypeId) (a : Addr) (k cap : Nat) (l : List UInt8) (hk : l.length = k) (hs : P.underlying src = some (.slice e)) (he : P.underlying e = some (.int .u8)) (hd : P.underlying dst = some .string)
    (hc : ∀ j (hj : j < l.length), w.cell? (a.add j) = some (.int .u8 (l[j].toNat : Int))) :
    (convert src dst (.slice (some a) k cap)).run P w = .ok (.string ⟨l.toArray⟩) w := by
  subst hk
  exact run_convert_bytes_back w src dst e a cap l hs he hd hc

/-- Bytes that the call itself laid: a byte more. -/
theorem wpList_append_byte {P : Program} {w : World} {ops : Array Oper} {rest : List Oper} {o : Oper} {a : Act} {Q : Exit → Act → World → Prop}
    (hg : o.guard = none) (s x : Operand) (t : TypeId) (hop : o.op = Op.call { callee := Callee.builtin Builtin.append, args := #[s, x], argTypes := #[t, t] })
    (e : TypeId) (ht : P.underlying t = some (.slice e)) (hi : (P.info? e).map (fun i => (i.zero, i.size, i.bytes)) = some (some (.int .u8 0), 1, 1))
    (base : Nat) (w0 : World) (u v : Value) (bs : List UInt8) (c : UInt8) (hw : w = w0.alloc (.cells #[u] e)) (hu : u = bv c) (hs : a.eval s = v) (own : OwnB w0 base e v bs)
    (hx : a.eval x = .slice (some ⟨w0.heap.size, 0, none⟩) 1 1) (hlen : bs.length + 1 ≤ 140737488355328) (hbase : base ≤ w0.heap.size)
    (h : ∀ v' w', OwnB w' base e v' (bs ++ [c]) → Below base w0 w' → wpList P ops Q rest (a.put o.dst v') w') : wpList P ops Q (o :: rest) a w := by
  subst hw hu
  unfold OwnB at own
  obtain ⟨i, hi, hz0, hz1, hz2⟩ := info_parts hi
  have own' : (w0.alloc (.cells #[bv c] e)).ownsRow base e 1 v bs.length (bs.map bv) := own.alloc _
  refine wpList_append_own _ hg s x t hop base e i (.int .u8 0) 1 1 ht hi hz0 hz1 hz2 rfl (by decide) v bs.length (bs.map bv) hs own' ⟨w0.heap.size, 0, none⟩ 1 1 [bv c] hx rfl ?_ ?_ (by unfold maxLen; omega) (by omega) (by simp; omega) ?_
  · intro j u hu
    cases j with
    | zero => simp at hu; subst hu; simp [Addr.add, go_sem]
    | succ j => simp at hu
  · intro u hu; simp at hu; subst hu; rfl
  · intro v' w' h1 h2 _
    refine h v' w' (by unfold OwnB; simpa using h1) (((Below.refl base w0).alloc hbase _).grown h2 (by simp; omega) ?_)
    intro k hk
    rcases own.2 with ⟨rfl, _⟩ | ⟨g, cap, cur, rfl, hgb, _⟩
    · simp [Value.ownBlock] at hk
    · simp [Value.ownBlock] at hk; omega
/-- 'copy(dst, t)' of a text: as many of its bytes as there is room for. -/
theorem run_copy_text {P : Program} (w : World) (dT sT ty elem : TypeId) (g o dLen dCap : Nat) (t : ByteArray) (cur : Array Value) (e : TypeId)
    (hu : P.underlying dT = some (.slice elem)) (hs : (P.info? elem).map (·.size) = some 1) (hg : w.heap[g]? = some (.cells cur e (0, 0))) (hfit : o + dLen ≤ cur.size) :
    (Builtin.copy_ #[dT, sT] ty #[.slice (some ⟨g, o, none⟩) dLen dCap, .string t]).run P w =
      .ok (goInt (Nat.min t.size dLen)) (w.setRow g (cur.toList.take o ++ (t.data.toList.take (Nat.min t.size dLen)).map bv ++ cur.toList.drop (o + Nat.min t.size dLen)).toArray) := by
  have hm : Nat.min t.size dLen ≤ dLen := Nat.min_le_right _ _
  have hm' : Nat.min t.size dLen ≤ t.size := Nat.min_le_left _ _
  generalize hn : Nat.min t.size dLen = n at *
  have hl : ((t.data.toList.take n).map bv).length = n := by
    simp only [List.length_map, List.length_take, Array.length_toList]
    exact Nat.min_eq_left hm'
  have hst := run_storeCells_at (P := P) g o e ((t.data.toList.take n).map bv) 0 cur w hg (by rw [hl]; omega) (by
    intro v hv
    obtain ⟨x, _, rfl⟩ := List.mem_map.1 hv
    rfl)
  rw [hl] at hst
  simp only [Nat.add_zero] at hst
  cases hq : P.info? elem with
  | none => simp [hq] at hs
  | some i =>
    simp [Builtin.copy_, run_underlying hu, Builtin.lenOf, Builtin.firstCells, Go.sizeOf, typeInfo, hq, hn]
    simp only [List.map_take, List.append_assoc] at hst
    have hb : (fun b : UInt8 => Value.int .u8 (b.toNat : Int)) = bv := rfl
    rw [hb, hst]
    rfl

/-- .. onto four bytes of a new array: the text has as many. -/
theorem run_copy_four {P : Program} (w : World) (dT sT ty elem e : TypeId) (t : ByteArray) (u0 u1 u2 u3 : Value) (b0 b1 b2 b3 : UInt8) (r : List UInt8) (hd : t.data.toList = b0 :: b1 :: b2 :: b3 :: r)
    (hu : P.underlying dT = some (.slice elem)) (hs : (P.info? elem).map (·.size) = some 1) :
    (Builtin.copy_ #[dT, sT] ty #[.slice (some ⟨w.heap.size, 0, none⟩) 4 4, .string t]).run P (w.alloc (.cells #[u0, u1, u2, u3] e)).drew =
      .ok (.int .i64 4) (w.alloc (.cells #[bv b0, bv b1, bv b2, bv b3] e)).drew := by
  have hn : Nat.min t.size 4 = 4 := by
    have : t.size = t.data.toList.length := rfl
    rw [this, hd]
    simp
  rw [run_copy_text (P := P) (w.alloc (.cells #[u0, u1, u2, u3] e)).drew dT sT ty elem w.heap.size 0 4 4 t #[u0, u1, u2, u3] e hu hs (heap_alloc_last w _) (by simp), hn, hd]
  simp
  exact ⟨rfl, congrArg World.drew (World.setRow_alloc_new w _ _ e)⟩
/-- .. onto four bytes of a new array: the text has fewer. -/
theorem run_copy_less {P : Program} (w : World) (dT sT ty elem e : TypeId) (t : ByteArray) (u0 u1 u2 u3 : Value) (ht : t.size < 4)
    (hu : P.underlying dT = some (.slice elem)) (hs : (P.info? elem).map (·.size) = some 1) :
    ∃ c, (Builtin.copy_ #[dT, sT] ty #[.slice (some ⟨w.heap.size, 0, none⟩) 4 4, .string t]).run P (w.alloc (.cells #[u0, u1, u2, u3] e)).drew =
      .ok (.int .i64 t.size) (w.alloc (.cells c e)).drew := by
  have hn : Nat.min t.size 4 = t.size := Nat.min_eq_left (by omega)
  rw [run_copy_text (P := P) (w.alloc (.cells #[u0, u1, u2, u3] e)).drew dT sT ty elem w.heap.size 0 4 4 t #[u0, u1, u2, u3] e hu hs (heap_alloc_last w _) (by simp), hn]
  exact ⟨_, congrArg (fun x => Result.ok (goInt t.size) (World.drew x)) (World.setRow_alloc_new w _ _ e)⟩
end Go.Proofs.Yteikmkbaokfgeaa
