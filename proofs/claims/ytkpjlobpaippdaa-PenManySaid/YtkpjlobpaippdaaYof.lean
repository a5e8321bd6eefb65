/- Layer 12: a list of frames, read and opened. -/
import Derived.Test.YtkpjlobpaippdaaYop
namespace Go.Proofs.Ytkpjlobpaippdaa
set_option linter.unusedVariables false
set_option linter.unusedSimpArgs false
open Go.RowKit Go.ChangeShapes Go.WideShapes Go.ChangeAt Go.Deep Go.Joins

/-- A list of frames that can be read. -/
def FsAt (w : World) (B : Nat) (A : Option Addr) (l : List Frm) : Prop := 0 < l.length → ∃ b off, A = some ⟨b, off, none⟩ ∧ b < B ∧ ∀ j (h : j < l.length), ∃ fs : Array Value, fs.size = 16 ∧ fs.all (·.oneCell') = true ∧ FrmAt w B (.agg fs) l[j] ∧ w.rangeAt b (off + j * 16) fs.toList
theorem FsAt.nil (w : World) (B : Nat) (A : Option Addr) : FsAt w B A [] := fun h => absurd h (by simp)
theorem FsAt.below {w w' : World} {B C : Nat} {A : Option Addr} {l : List Frm} (h : FsAt w B A l) (hb : Below C w w') (hC : B ≤ C) : FsAt w' B A l := fun h0 => by
  obtain ⟨b, off, e, hlt, hr⟩ := h h0
  refine ⟨b, off, e, hlt, fun j hj => ?_⟩
  obtain ⟨fs, h1, h2, h3, h4⟩ := hr j hj
  exact ⟨fs, h1, h2, h3.below hb hC, range_keep h4 (hb.block b (by omega))⟩
theorem FsAt.more {w : World} {B C : Nat} {A : Option Addr} {l : List Frm} (h : FsAt w B A l) (hC : B ≤ C) : FsAt w C A l := fun h0 => by
  obtain ⟨b, off, e, hlt, hr⟩ := h h0
  refine ⟨b, off, e, by omega, fun j hj => ?_⟩
  obtain ⟨fs, h1, h2, h3, h4⟩ := hr j hj
  exact ⟨fs, h1, h2, h3.more hC, h4⟩
theorem FsAt.later {w w' : World} {A : Option Addr} {l : List Frm} (h : FsAt w w.heap.size A l) (hb : Below w.heap.size w w') : FsAt w' w'.heap.size A l := (h.below hb (Nat.le_refl _)).more hb.size
instance : Inhabited Frm := ⟨frm0⟩
set_option maxRecDepth 100000 in
theorem open_frs {H : Type} {enc : TypeId × Value → H} {W : World} {base : Nat} {sp : Nat → Bool} {hd : Bool} {fuel : Nat} {cs : List Value} {x : DataW H × List MemPlace} (h : DataW.trod enc Try.prog W base sp hd fuel 57 cs = some x) : ∃ A c l, cs = [.slice A l.length c] ∧ FsAt W W.heap.size A l ∧ l.length ≤ maxLen := by
  rcases open_slice Try.underlying57 h with ⟨rfl, _⟩ | ⟨a, len, cap, m, n, D, Pl, rfl, _, hl, hm, hmm, rfl, hx⟩
  · exact ⟨none, 0, [], rfl, FsAt.nil _ _ _, by simp⟩
  · have hlm : len ≤ m := by rw [hmm]; split <;> omega
    have each : ∀ i, i < len → ∃ q : Frm × Array Value, q.2.size = 16 ∧ q.2.all (·.oneCell') = true ∧ FrmAt W W.heap.size (.agg q.2) q.1 ∧ ∀ k u, q.2.toList[k]? = some u → W.cell? (a.add (i * 16 + k)) = some u := by
      intro i hi
      obtain ⟨cs', h1, h2⟩ := hx i (by omega)
      rw [ciF] at h1
      obtain ⟨_, hlen, hcell⟩ := World.cells?_some h1
      obtain ⟨f, s1, s2⟩ := open_fcells hlen h2
      refine ⟨(f, cs'.toArray), by simpa using hlen, Array.all_eq_true_iff_forall_mem.2 fun v hv => s2 v (by simpa using hv), s1, fun k u hk => ?_⟩
      have hk2 : cs'[k]? = some u := by simpa using hk
      have hkl := (List.getElem?_eq_some_iff.1 hk2).1
      have c0 := hcell k (by omega)
      rw [add_add] at c0
      rw [c0]
      exact hk2
    obtain ⟨q, hq⟩ := choose_lt each
    refine ⟨some a, cap, (List.range len).map fun i => (q i).1, by simp, fun h0 => ?_, by simp; omega⟩
    have hlen : 0 < len := by simpa using h0
    obtain ⟨b, off, spot⟩ := a
    have hz : 0 < (q 0).2.toList.length := by simp [(hq 0 hlen).1]
    have h00 := (hq 0 hlen).2.2.2 0 _ (List.getElem?_eq_getElem hz)
    have hspot : spot = none := by simpa [Addr.add] using World.cell?_spot h00
    subst hspot
    have hlt := block_lt_of_cell (a := Addr.add ⟨b, off, none⟩ (0 * 16 + 0)) h00
    have hbl : b < W.heap.size := by rw [p_add] at hlt; exact hlt
    refine ⟨b, off, rfl, hbl, fun j hj => ?_⟩
    have hj' : j < len := by simpa using hj
    simp only [List.getElem_map, List.getElem_range]
    refine ⟨(q j).2, (hq j hj').1, (hq j hj').2.1, (hq j hj').2.2.1, fun i u hu => ?_⟩
    have h9 := (hq j hj').2.2.2 i u hu
    rw [p_add, show off + (j * 16 + i) = off + j * 16 + i by omega] at h9
    exact h9
/-- A list of frames, opened. -/
theorem open_frames {H : Type} {enc : TypeId × Value → H} {W : World} {base : Nat} {v : Value} {d : DataW H} {p : List MemPlace}
    (k : Value.okWide Try.prog W .any base 57 v) (h : DataW.Trod enc Try.prog W 0 (fun _ => true) true 57 v d p) : ∃ A c l, v = .slice A l.length c ∧ FsAt W W.heap.size A l ∧ l.length ≤ maxLen := by
  obtain ⟨a, len, cap, rfl⟩ := okWide_slice Try.underlying57 k
  obtain ⟨fuel, hf⟩ := h
  obtain ⟨A, c, l, e, h1, h2⟩ := open_frs (cs := [.slice a len cap]) (by simpa [Value.cells] using hf)
  simp at e
  obtain ⟨rfl, rfl, rfl⟩ := e
  exact ⟨_, _, l, rfl, h1, h2⟩
end Go.Proofs.Ytkpjlobpaippdaa
