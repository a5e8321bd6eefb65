/- A call's own list of elements of one cell each. -/
import Derived.Test.YtkpjlobpaippdaaHd
import Derived.OwnWalk
import Derived.Below
import Derived.Deep.WholeRow
import Derived.Laws.IdiomStrings
namespace Go.Proofs.Ytkpjlobpaippdaa
set_option linter.unusedVariables false
set_option linter.unusedSimpArgs false
open Go.RowKit Go.ChangeShapes Go.WideShapes Go.ChangeAt

/-- The call's own slice v holds the values xs, in a block from B on. -/
def OwnV (w : World) (B : Nat) (e : TypeId) (v : Value) (xs : List Value) : Prop := w.ownsRow B e 1 v xs.length xs
theorem OwnV.nil (w : World) (B : Nat) (e : TypeId) : OwnV w B e (.slice none 0 0) [] := ⟨by simp, .inl ⟨rfl, rfl⟩⟩
theorem OwnV.made (w : World) (e : TypeId) : OwnV (w.alloc (.cells #[] e)) w.heap.size e (.slice (some ⟨w.heap.size, 0, none⟩) 0 0) [] :=
  World.ownsRow_made w #[] 0 (Nat.le_refl _) (by decide) rfl
theorem OwnV.below {w w' : World} {B : Nat} {e : TypeId} {v : Value} {xs : List Value} (h : OwnV w B e v xs) (hb : Below w.heap.size w w') : OwnV w' B e v xs := by
  unfold OwnV at h ⊢
  refine h.kept (row := none) ⟨hb.os, hb.tape, hb.output, hb.size, fun k hk _ => hb.block k hk⟩ ?_
  cases hv : v.ownBlock with
  | none => exact .inl rfl
  | some k => exact .inr (by simp)
theorem OwnV.form {w : World} {B : Nat} {e : TypeId} {v : Value} {xs : List Value} (h : OwnV w B e v xs) :
    ∃ A c, v = .slice A xs.length c ∧ (0 < xs.length → ∃ g, A = some ⟨g, 0, none⟩ ∧ B ≤ g ∧ g < w.heap.size ∧ ∀ j (hj : j < xs.length), w.cell? ⟨g, j, none⟩ = some xs[j]) := by
  unfold OwnV at h
  have hc := fun g hg => h.cells (g := g) hg
  have hlt := h.lt
  rcases h.2 with ⟨rfl, h0⟩ | ⟨g, cap, cur, rfl, _⟩
  · exact ⟨none, 0, by rw [h0], fun h1 => by omega⟩
  · refine ⟨_, _, rfl, fun _ => ⟨g, rfl, (hlt g rfl).1, (hlt g rfl).2, fun j hj => ?_⟩⟩
    have k1 := hc g rfl j _ (List.getElem?_eq_getElem hj)
    have a1 : (⟨g, 0, none⟩ : Addr).add j = ⟨g, j, none⟩ := by unfold Addr.add; split <;> simp [*]
    rwa [a1] at k1

/-- Some elements more, out of a block that was just laid. -/
theorem wpList_append_vals {P : Program} {w : World} {ops : Array Oper} {rest : List Oper} {o : Oper} {a : Act} {Q : Exit → Act → World → Prop}
    (hg : o.guard = none) (s x : Operand) (t : TypeId) (hop : o.op = Op.call { callee := Callee.builtin Builtin.append, args := #[s, x], argTypes := #[t, t] })
    (e : TypeId) (z : Value) (bytes : Nat) (ht : P.underlying t = some (.slice e)) (hi : (P.info? e).map (fun i => (i.zero, i.size, i.bytes)) = some (some z, 1, bytes)) (hz : z.cells.size = 1)
    (B : Nat) (w0 : World) (v : Value) (xs : List Value) (news : Array Value) (n : Nat) (hn : news.size = n) (hw : w = w0.alloc (.cells news e)) (hs : a.eval s = v) (own : OwnV w0 B e v xs)
    (hx : a.eval x = .slice (some ⟨w0.heap.size, 0, none⟩) n n) (h1 : ∀ u ∈ news.toList, u.oneCell' = true) (hlen : xs.length + n ≤ maxLen) (hbytes : (xs.length + n) * bytes ≤ 140737488355328) (hB : B ≤ w0.heap.size)
    (h : ∀ v' w', OwnV w' B e v' (xs ++ news.toList) → Below B w0 w' → wpList P ops Q rest (a.put o.dst v') w') : wpList P ops Q (o :: rest) a w := by
  subst hw
  unfold OwnV at own
  obtain ⟨i, hi, hz0, hz1, hz2⟩ := info_parts hi
  have own' : (w0.alloc (.cells news e)).ownsRow B e 1 v xs.length xs := own.alloc _
  refine wpList_append_own _ hg s x t hop B e i z 1 bytes ht hi hz0 hz1 hz2 hz (by decide) v xs.length xs hs own' ⟨w0.heap.size, 0, none⟩ n n news.toList hx (by simp [hn]) ?_ h1 hlen hbytes (by simp; omega) ?_
  · intro j u hu
    have e1 : (⟨w0.heap.size, 0, none⟩ : Addr).add j = ⟨w0.heap.size, j, none⟩ := by unfold Addr.add; split <;> simp [*]
    rw [e1, cell_at (heap_alloc_last w0 _) j]
    simpa using hu
  · intro v' w' h1 h2 _
    refine h v' w' ?_ (((Below.refl B w0).alloc hB _).grown h2 (by simp; omega) ?_)
    · unfold OwnV; simpa [hn] using h1
    · intro k hk
      rcases own.2 with ⟨rfl, _⟩ | ⟨g, cap, cur, rfl, hgb, _⟩
      · simp [Value.ownBlock] at hk
      · simp [Value.ownBlock] at hk; omega
end Go.Proofs.Ytkpjlobpaippdaa
