/- Layer 12, plain: frames laid one behind the other, dropped, laid again (PenMany). -/
import Derived.Test.YtkpjlobpaippdaaYz
namespace Go.Proofs.Ytkpjlobpaippdaa
set_option linter.unusedVariables false
set_option linter.unusedSimpArgs false
open Go.RowKit

/-- A pen in which the frames l lie, one behind the other. -/
def Mn (most : Int) (l : List Frm) : Zp := ⟨l.map fun f => ⟨0, true, f⟩, [], most⟩
theorem mn_len (most : Int) (l : List Frm) : (Mn most l).cells.length = l.length := by simp [Mn]
theorem mn_new {most : Int} (h1 : 1 ≤ most) (h2 : most ≤ 1024) : newZ most = (Mn most [], true) := by
  unfold newZ
  rw [if_pos ⟨h1, h2⟩]
  rfl
theorem mn_ok {most : Int} {l : List Frm} (h1 : 1 ≤ most) (h2 : most ≤ 1024) (h : (l.length : Int) ≤ most) : okZ (Mn most l) = true := by
  refine ok_mk ?_ (by simp [Mn]) (by simp [Mn]) (fun i c hc => ?_) (fun i c hc => ?_)
  · unfold topZ
    rw [mn_len]
    exact ⟨h1, h2, h⟩
  · simp only [Mn, List.getElem?_map, Option.map_eq_some_iff] at hc
    obtain ⟨f, _, rfl⟩ := hc
    simp [Mn]
  · simp only [Mn, List.getElem?_map, Option.map_eq_some_iff] at hc
    obtain ⟨f, _, rfl⟩ := hc
    simp
theorem mn_lay {most : Int} {l : List Frm} (f : Frm) (h1 : 1 ≤ most) (h2 : most ≤ 1024) (h : (l.length : Int) < most) : layZ (Mn most l) f = (Mn most (l ++ [f]), ((l.length : Int), 0), 0) := by
  rw [lay_more f (mn_ok h1 h2 (by omega)) rfl (by rw [mn_len]; simp only [Mn]; omega)]
  simp [Mn]
theorem mn_full {most : Int} {l : List Frm} (f : Frm) (h1 : 1 ≤ most) (h2 : most ≤ 1024) (h : (l.length : Int) = most) : layZ (Mn most l) f = (Mn most l, (0, 0), 120) :=
  lay_full f (mn_ok h1 h2 (by omega)) rfl (by rw [mn_len]; exact h)
theorem mn_at {most : Int} {l : List Frm} {i : Nat} (hi : i < l.length) : (Mn most l).cells[i]? = some ⟨0, true, l[i]⟩ := by
  simp [Mn, List.getElem?_eq_getElem hi]
theorem mn_get {most : Int} {l : List Frm} (h1 : 1 ≤ most) (h2 : most ≤ 1024) (h : (l.length : Int) ≤ most) {i : Nat} (hi : i < l.length) : getZ (Mn most l) ((i : Int), 0) = (l[i], true) :=
  get_at (mn_ok h1 h2 h) rfl (mn_at hi)
theorem mn_has {most : Int} {l : List Frm} {i : Nat} (hi : i < l.length) : hasZ (Mn most l) ((i : Int), 0) = true := has_at.2 ⟨i, l[i], rfl, mn_at hi⟩
theorem mn_refs {most : Int} {l : List Frm} (h1 : 1 ≤ most) (h2 : most ≤ 1024) (h : (l.length : Int) ≤ most) : (refsZ (Mn most l)).length = l.length := by
  rw [full_refs (mn_ok h1 h2 h) rfl, mn_len]
theorem mn_sm {most : Int} {l : List Frm} {k : Nat} (hl : l.length ≤ k) (hf : ∀ f ∈ l, FrmLen f) : SmP (Mn most l) k := ⟨by rw [mn_len]; exact hl, by simp [Mn], fun c hc => by
  simp only [Mn, List.mem_map] at hc
  obtain ⟨f, h1, rfl⟩ := hc
  exact hf f h1⟩
/-- The refs that were told. -/
def rm (n : Nat) : List V := (List.range n).map fun (k : Nat) => ((k : Int), (0 : Int))
theorem rm_len (n : Nat) : (rm n).length = n := by simp [rm]
theorem rm_at {n k : Nat} (h : k < (rm n).length) : (rm n)[k] = ((k : Int), 0) := by simp [rm]
theorem rm_succ (n : Nat) : rm (n + 1) = rm n ++ [((n : Int), 0)] := by simp [rm, List.range_succ]
/-- Behind the laying: how many refs are told, and which are still known. -/
structure Left (P : Zp) (most : Int) (n : Nat) : Prop where
  ok : okZ P = true
  most : P.most = most
  len : (refsZ P).length = n
theorem mn_left {most : Int} {l : List Frm} (h1 : 1 ≤ most) (h2 : most ≤ 1024) (h : (l.length : Int) ≤ most) : Left (Mn most l) most l.length := ⟨mn_ok h1 h2 h, rfl, mn_refs h1 h2 h⟩
theorem left_drop {P : Zp} {most : Int} {n i : Nat} (h : Left P most n) (hh : ∀ k : Nat, k ≤ i → hasZ P ((k : Int), 0) = true) {m : Nat} (hs : SmP P m) :
    ∃ S, dropZ P ((i : Int), 0) = (S, 0) ∧ 1 ≤ n ∧ Left S most (n - 1) ∧ (∀ k : Nat, k < i → hasZ S ((k : Int), 0) = true) ∧ SmP S (m + 1) := by
  obtain ⟨S, e, hD, -⟩ := drop_ok h.ok (hh i (Nat.le_refl _))
  obtain ⟨l1, l2, e1, e2, h1, h2⟩ := hD.refs
  have hn := h.len
  rw [e1, List.length_append, List.length_cons] at hn
  refine ⟨S, e, by omega, ⟨hD.ok, hD.most.trans h.most, by rw [e2, List.length_append]; omega⟩, fun k hk => ?_, drop_sm e hs⟩
  have hm := (refs_mem h.ok _).2 (hh k (Nat.le_of_lt hk))
  refine (refs_mem hD.ok _).1 ?_
  rw [e1] at hm
  rw [e2]
  simp only [List.mem_append, List.mem_cons] at hm ⊢
  rcases hm with h9 | h9 | h9
  · exact .inl h9
  · simp only [Prod.mk.injEq] at h9
    omega
  · exact .inr h9
theorem left_lay {P : Zp} {most : Int} {n : Nat} {f : Frm} (h : Left P most n) (hf : FrmLen f) {m : Nat} (hs : SmP P m) (hn : (n : Int) < most) :
    ∃ S r, layZ P f = (S, r, 0) ∧ Left S most (n + 1) ∧ SmP S (m + 1) := by
  obtain ⟨⟨S, r, x⟩, hS⟩ : ∃ S, layZ P f = S := ⟨_, rfl⟩
  rcases lay_ok h.ok hS with ⟨-, -, h0, h1⟩ | ⟨rfl, hL⟩
  · have := full_refs h.ok h0
    have h2 := h.len
    have h3 := h.most
    omega
  · obtain ⟨l1, l2, e1, e2, -, -⟩ := hL.refs
    have h2 := h.len
    rw [e1, List.length_append] at h2
    exact ⟨S, r, hS, ⟨hL.ok, hL.most.trans h.most, by rw [e2, List.length_append, List.length_cons]; omega⟩, lay_sm hS hs hf⟩
theorem left_full {P : Zp} {most : Int} {n : Nat} (f : Frm) (h : Left P most n) (hn : (n : Int) = most) : ∃ r, layZ P f = (P, r, 120) := by
  obtain ⟨⟨S, r, x⟩, hS⟩ : ∃ S, layZ P f = S := ⟨_, rfl⟩
  rcases lay_ok h.ok hS with ⟨rfl, rfl, -, -⟩ | ⟨rfl, hL⟩
  · exact ⟨r, hS⟩
  · obtain ⟨l1, l2, e1, e2, -, -⟩ := hL.refs
    have h2 := h.len
    rw [e1, List.length_append] at h2
    have h3 : (refsZ S).length = n + 1 := by rw [e2, List.length_append, List.length_cons]; omega
    have h4 := refsL_len S.cells 0
    rw [← refsZ_ok hL.ok] at h4
    have h5 := ((okZ_iff S).1 hL.ok).top
    unfold topZ at h5
    have h6 := hL.most
    have h7 := h.most
    omega
end Go.Proofs.Ytkpjlobpaippdaa
