/- Bytes of a text laid in a block of their own. -/
import Derived.WalkKit
import Derived.Below
import Derived.Laws.IdiomStrings
import Derived.Laws.CopyOwn
import Derived.Lib.QuietBelow
namespace Go.Proofs.Yteikmkbaokfgeaa
set_option linter.unusedVariables false
set_option linter.unusedSimpArgs false
open Go Go.RowKit Go.Sort

/-- Block b holds at its beginning the bytes l, and none of them is frozen. -/
structure BytesAt (w : World) (b : Nat) (l : List UInt8) : Prop where
  ex : ∃ C t lo hi, w.heap[b]? = some (.cells C t (lo, hi)) ∧ l.length ≤ C.size ∧ C.size ≤ lo ∧ ∀ j (h : j < l.length), C[j]? = some (.int .u8 (l[j].toNat : Int))
theorem BytesAt.lt {w : World} {b : Nat} {l : List UInt8} (h : BytesAt w b l) : b < w.heap.size := by
  obtain ⟨C, t, lo, hi, h1, _⟩ := h.ex
  exact (Array.getElem?_eq_some_iff.1 h1).1
theorem BytesAt.cell {w : World} {b : Nat} {l : List UInt8} (h : BytesAt w b l) (j : Nat) (hj : j < l.length) : w.cell? ⟨b, j, none⟩ = some (.int .u8 (l[j].toNat : Int)) := by
  obtain ⟨C, t, lo, hi, h1, _, _, h4⟩ := h.ex
  simp [World.cell?, h1, h4 j hj]
theorem BytesAt.fz {w : World} {b : Nat} {l : List UInt8} (h : BytesAt w b l) (j : Nat) (hj : j < l.length) : w.frozen? ⟨b, j, none⟩ = false := by
  obtain ⟨C, t, lo, hi, h1, h2, h3, _⟩ := h.ex
  simp [World.frozen?, h1]
  omega
theorem BytesAt.set {w : World} {b : Nat} {l : List UInt8} (h : BytesAt w b l) (j : Nat) (c : UInt8) : BytesAt (w.setCell ⟨b, j, none⟩ (.int .u8 (c.toNat : Int))) b (l.set j c) := by
  obtain ⟨C, t, lo, hi, h1, h2, h3, h4⟩ := h.ex
  refine ⟨⟨C.setIfInBounds j (.int .u8 (c.toNat : Int)), t, lo, hi, ?_, by simpa using h2, by simpa using h3, ?_⟩⟩
  · simp [World.setCell, Array.getElem?_modify, h1]
  · intro i hi
    have hi' : i < l.length := by simpa using hi
    rw [Array.getElem?_setIfInBounds]
    by_cases e : j = i
    · subst e; simp; omega
    · rw [if_neg e, h4 i hi', List.getElem_set_ne e]
theorem BytesAt.drewN {w : World} {b : Nat} {l : List UInt8} (h : BytesAt w b l) (n : Nat) : BytesAt (w.drewN n) b l := ⟨h.ex⟩
theorem BytesAt.drew {w : World} {b : Nat} {l : List UInt8} (h : BytesAt w b l) : BytesAt w.drew b l := ⟨h.ex⟩
theorem BytesAt.below {w w' : World} {b B : Nat} {l : List UInt8} (h : BytesAt w b l) (hb : Below B w w') (hB : b < B) : BytesAt w' b l := by
  obtain ⟨C, t, lo, hi, h1, h2⟩ := h.ex
  exact ⟨⟨C, t, lo, hi, (hb.block b hB).trans h1, h2⟩⟩
theorem BytesAt.conv {P : Program} {w : World} {b : Nat} {l : List UInt8} (h : BytesAt w b l) (src dst e : TypeId) (n cap : Nat) (hn : l.length = n) (hs : P.underlying src = some (.slice e)) (he : P.underlying e = some (.int .u8)) (hd : P.underlying dst = some .string) :
    (convert src dst (.slice (some ⟨b, 0, none⟩) n cap)).run P w = .ok (.string ⟨l.toArray⟩) w := by
  subst hn
  refine run_convert_bytes_back w src dst e _ cap l hs he hd fun j hj => ?_
  have := h.cell j hj
  have e : (⟨b, 0, none⟩ : Addr).add j = ⟨b, j, none⟩ := by simp [Addr.add]; rintro rfl; rfl
  rw [e]; exact this
/-- .. in every world in which some blocks more were laid. -/
theorem BytesAt.conv_grown {P : Program} {w : World} {b : Nat} {l : List UInt8} (h : BytesAt w b l) (src dst e : TypeId) (n cap : Nat) (hn : l.length = n) (hs : P.underlying src = some (.slice e)) (he : P.underlying e = some (.int .u8)) (hd : P.underlying dst = some .string) (d : Nat) (os : Array Obj) :
    (convert src dst (.slice (some ⟨b, 0, none⟩) n cap)).run P (grow (redrawn w d) os) = .ok (.string ⟨l.toArray⟩) (grow (redrawn w d) os) :=
  (h.below (below_regrown w d os) h.lt).conv src dst e n cap hn hs he hd

/-- '[]byte(s)'. -/
theorem wpList_bytes_of {P : Program} {w : World} {ops : Array Oper} {rest : List Oper} {o : Oper} {a : Act} {Q : Exit → Act → World → Prop} (hg : o.guard = none) (src dst e : TypeId) (x : Operand) (ho : o.op = .convert src dst x)
    (hs : P.underlying src = some .string) (hd : P.underlying dst = some (.slice e)) (he : P.underlying e = some (.int .u8)) (s : ByteArray) (hx : a.eval x = .string s)
    (h : ∀ cap w', BytesAt w' w.heap.size s.data.toList → Below w.heap.size w w' → w.heap.size < w'.heap.size → wpList P ops Q rest (a.put o.dst (.slice (some ⟨w.heap.size, 0, none⟩) s.size cap)) w') : wpList P ops Q (o :: rest) a w := by
  have hrun := run_bytes_of_string (P := P) w src dst e s hs hd he
  refine wpList_plain hg fun K hK => ?_
  unfold Oper.wp execOp
  simp only [ho, hx, Sem.run_bind]
  rw [hrun]
  generalize hcap : grownCap w s.size 0 e = cap
  generalize hw' : w.drew.alloc (.cells (bytesRow s cap) e ((bytesRow s cap).size, (bytesRow s cap).size + 1)) = w'
  have hat : BytesAt w' w.heap.size s.data.toList := by
    subst hw'
    refine ⟨⟨bytesRow s cap, e, (bytesRow s cap).size, (bytesRow s cap).size + 1, ?_, ?_, Nat.le_refl _, ?_⟩⟩
    · show (w.heap.push _)[w.heap.size]? = _
      simp
    · simp [bytesRow]
    · intro j hj
      rw [bytesRow_at s _ j (by simpa using hj)]
      simp
  have hbel : Below w.heap.size w w' := by
    subst hw'
    exact ((Below.refl _ _).drew).alloc (Nat.le_refl _) _
  exact hK _ _ (h _ _ hat hbel hat.lt)
end Go.Proofs.Yteikmkbaokfgeaa
