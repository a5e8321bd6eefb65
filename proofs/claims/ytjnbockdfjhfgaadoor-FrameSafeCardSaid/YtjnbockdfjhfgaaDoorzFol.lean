/- Layer 9: a list of ends, opened; what was told. -/
import Derived.Test.YtjnbockdfjhfgaaDoorzHi
import Derived.Test.YtjnbockdfjhfgaaDoorzHa
import Derived.Test.YtjnbockdfjhfgaaDoorzFrq
namespace Go.Proofs.YtjnbockdfjhfgaaDoor
set_option linter.unusedVariables false
set_option linter.unusedSimpArgs false
open Gm Go.RowKit Go.ChangeShapes Go.WideShapes Go.ChangeAt Go.Deep Go.Joins

abbrev O3 := Int × Int × Int
/-- The slice at A holds these ends, below block B. -/
def OAt (w : World) (B : Nat) (A : Option Addr) (l : List O3) : Prop :=
  0 < l.length → ∃ b off, A = some ⟨b, off, none⟩ ∧ b < B ∧ ∀ j (h : j < l.length), w.cell? ⟨b, off + j * 3, none⟩ = some (.int .i64 l[j].1) ∧ w.cell? ⟨b, off + j * 3 + 1, none⟩ = some (.int .i64 l[j].2.1) ∧ w.cell? ⟨b, off + j * 3 + 2, none⟩ = some (.int .i64 l[j].2.2)
theorem OAt.nil (w : World) (B : Nat) (A : Option Addr) : OAt w B A [] := fun h => absurd h (by simp)
theorem OAt.below {w w' : World} {B : Nat} {A : Option Addr} {l : List O3} (h : OAt w B A l) {C : Nat} (hb : Below C w w') (hC : B ≤ C) : OAt w' B A l := fun h0 => by
  obtain ⟨b, off, e, hlt, hc⟩ := h h0
  refine ⟨b, off, e, hlt, fun j hj => ?_⟩
  obtain ⟨c0, c1, c2⟩ := hc j hj
  have hbC : b < C := by omega
  exact ⟨(hb.cell (p := ⟨b, off + j * 3, none⟩) hbC).trans c0, (hb.cell (p := ⟨b, off + j * 3 + 1, none⟩) hbC).trans c1, (hb.cell (p := ⟨b, off + j * 3 + 2, none⟩) hbC).trans c2⟩
set_option maxRecDepth 100000 in
theorem open_outs {H : Type} {enc : TypeId × Value → H} {W : World} {base : Nat} {v : Value} {d : DataW H} {p : List MemPlace}
    (k : Value.okWide Tryd.prog W .any base 24 v) (h : DataW.Trod enc Tryd.prog W 0 (fun _ => true) true 24 v d p) : ∃ A c l, v = .slice A l.length c ∧ OAt W W.heap.size A l := by
  obtain ⟨fuel, hf⟩ := h
  obtain ⟨A9, n9, c9, rfl⟩ : ∃ A n c, v = .slice A n c := by
    simp only [Value.okWide, Tryd.underlying24, Cell.okWide] at k
    cases v <;> simp_all [Cell.ok]
  simp only [Value.cells] at hf
  rcases open_slice Tryd.underlying24 hf with ⟨e, _⟩ | ⟨a, len, cap, m, n, D, Pl, e, _, hl, hm, hmm, _, hx⟩
  · have e' : (Value.slice A9 n9 c9) = .slice none 0 0 := by simpa using e
    rw [e']
    exact ⟨none, 0, [], rfl, OAt.nil _ _ _⟩
  · have e' : (Value.slice A9 n9 c9) = .slice (some a) len cap := by simpa using e
    rw [e']
    have hlm : len ≤ m := by rw [hmm]; split <;> omega
    have each : ∀ i, i < len → ∃ q : O3, W.cell? (a.add (i * 3)) = some (.int .i64 q.1) ∧ W.cell? (a.add (i * 3 + 1)) = some (.int .i64 q.2.1) ∧ W.cell? (a.add (i * 3 + 2)) = some (.int .i64 q.2.2) := by
      intro i hi
      obtain ⟨cs', h1, h2⟩ := hx i (by omega)
      rw [ci3] at h1
      obtain ⟨_, hlen, hcell⟩ := World.cells?_some h1
      match cs', hlen with
      | [v0, v1, v2], _ =>
        obtain ⟨n0, n1, n2, rfl, rfl, rfl⟩ := open_out3 h2
        have c0 := hcell 0 (by omega)
        have c1 := hcell 1 (by omega)
        have c2 := hcell 2 (by omega)
        rw [add_add] at c0 c1 c2
        exact ⟨(n0, n1, n2), by simpa using c0, by simpa using c1, by simpa using c2⟩
    obtain ⟨q, hq⟩ := choose_lt each
    refine ⟨some a, cap, (List.range len).map q, by simp, fun h0 => ?_⟩
    have hlen : 0 < len := by simpa using h0
    obtain ⟨b, off, spot⟩ := a
    have hspot : spot = none := by simpa [Addr.add] using World.cell?_spot (hq 0 hlen).1
    subst hspot
    refine ⟨b, off, rfl, block_lt_of_cell (a := Addr.add ⟨b, off, none⟩ (0 * 3)) (hq 0 hlen).1, fun j hj => ?_⟩
    have hj' : j < len := by simpa using hj
    obtain ⟨c0, c1, c2⟩ := hq j hj'
    rw [addr_add] at c0 c1 c2
    simp only [List.getElem_map, List.getElem_range]
    exact ⟨c0, c1, c2⟩
/-- The codes of the first i ends. -/
def TolP (l : List O3) (i : Nat) (t : Int) : Prop := ∃ j, j < i ∧ l[j]?.map (·.1) = some t
theorem TolP.step {l : List O3} {i : Nat} {t : Int} (h : TolP l i t) : TolP l (i + 1) t := by
  obtain ⟨j, hj, e⟩ := h
  exact ⟨j, by omega, e⟩
theorem TolP.last {l : List O3} {i : Nat} (hi : i < l.length) : TolP l (i + 1) l[i].1 := ⟨i, by omega, by rw [List.getElem?_eq_getElem hi]; rfl⟩
def b34 (t : Int) : Bool := t == 3 || t == 4
/-- Whether 3 or 4 is the code of end i, or of one of the first m. -/
def tolB (l : List O3) (i m : Nat) : Bool := (l[i]?.any fun o => b34 o.1) || (l.take m).any fun o => b34 o.1
theorem tolB_zero {l : List O3} {i : Nat} (hi : i < l.length) : tolB l i 0 = b34 l[i].1 := by simp [tolB, hi]
theorem tolB_succ {l : List O3} {i m : Nat} (hm : m < l.length) : tolB l i (m + 1) = (tolB l i m || b34 l[m].1) := by
  unfold tolB
  rw [List.take_succ_eq_append_getElem hm, List.any_append, Bool.or_assoc]
  simp
theorem tolB_of {l : List O3} {i : Nat} {t : Int} (h : TolP l (i + 1) t) (ht : t = 3 ∨ t = 4) : tolB l i i = true := by
  obtain ⟨j, hj, e⟩ := h
  obtain ⟨o, ho, rfl⟩ := Option.map_eq_some_iff.1 e
  have hb : b34 o.1 = true := by unfold b34; rcases ht with h | h <;> simp [h]
  unfold tolB
  rcases Nat.lt_or_ge j i with h | h
  · have : (l.take i).any (fun o => b34 o.1) = true := List.any_eq_true.2 ⟨o, List.mem_of_getElem? (i := j) (by rw [List.getElem?_take, if_pos h]; exact ho), hb⟩
    rw [this, Bool.or_true]
  · obtain rfl : j = i := by omega
    rw [ho]
    simp [hb]
end Go.Proofs.YtjnbockdfjhfgaaDoor

