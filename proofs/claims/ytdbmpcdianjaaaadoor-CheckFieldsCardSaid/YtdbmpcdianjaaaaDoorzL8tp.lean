/- Layer 8, plain: an instruction behind a function's last one; instructions that lay, take and go on alike. -/
import Derived.Test.YtdbmpcdianjaaaaDoorzL8more
namespace Go.Proofs.YtdbmpcdianjaaaaDoor
set_option linter.unusedVariables false
set_option linter.unusedSimpArgs false
open Go.ChangeShapes Go.WideShapes Go.ChangeAt Go.RowKit Go.Sort

theorem open_ext (W : List Bool) : openS (W ++ [false]) = openS W := by
  unfold openS
  rw [List.findIdx?_append]
  simp
theorem nexts_ext {b : Int} : ∀ {ts : List Int} {D : List Int} {W : List Bool}, W.length = D.length → (∀ t ∈ ts, 0 ≤ t) → (nextsS b ts D W).2.2 = 0 →
    nextsS b ts (D ++ [-1]) (W ++ [false]) = ((nextsS b ts D W).1 ++ [-1], (nextsS b ts D W).2.1 ++ [false], 0)
  | [], D, W, _, _, _ => rfl
  | t :: ts, D, W, hl, h0, he => by
    have ht := h0 t (by simp)
    have hts : ∀ t ∈ ts, 0 ≤ t := fun u hu => h0 u (by simp [hu])
    rw [nexts_eq] at he ⊢
    rw [nexts_eq]
    by_cases hc : (D.length : Int) ≤ t
    · rw [if_pos hc] at he
      cases he
    · rw [if_neg hc] at he
      have hlt : t.toNat < D.length := by omega
      have hg : (D ++ [(-1 : Int)]).getD t.toNat 0 = D.getD t.toNat 0 := by
        rw [List.getD_eq_getElem?_getD, List.getD_eq_getElem?_getD, List.getElem?_append_left hlt]
      rw [if_neg (by rw [List.length_append]; simp; omega), if_neg hc, hg]
      by_cases h1 : D.getD t.toNat 0 = -1
      · rw [if_pos h1] at he
        simp only [if_pos h1]
        rw [List.set_append_left _ _ hlt, List.set_append_left _ _ (by omega)]
        exact nexts_ext (by simp [hl]) hts he
      · rw [if_neg h1] at he
        by_cases h2 : D.getD t.toNat 0 = b
        · rw [if_pos h2] at he
          simp only [if_neg h1, if_pos h2]
          exact nexts_ext hl hts he
        · rw [if_neg h2] at he
          cases he
theorem flow_ext {G G' : Nat → Int × Int × List Int} {n : Nat} (hG : ∀ i, i < n → G' i = G i) (hF : Fine G n) : ∀ (k : Nat) {D : List Int} {W : List Bool}, D.length = n → W.length = n → (flowS G k D W).2.2 = 0 →
    flowS G' k (D ++ [-1]) (W ++ [false]) = ((flowS G k D W).1 ++ [-1], 0, 0)
  | 0, D, W, _, _, _ => rfl
  | k + 1, D, W, hd, hw, he => by
    unfold flowS at he ⊢
    rw [open_ext]
    cases ho : openS W with
    | none => rfl
    | some i =>
      rw [ho] at he
      simp only at he ⊢
      obtain ⟨hi, _, _⟩ := openS_some ho
      have hin : i < n := by omega
      have hg : (D ++ [(-1 : Int)]).getD i 0 = D.getD i 0 := by
        rw [List.getD_eq_getElem?_getD, List.getD_eq_getElem?_getD, List.getElem?_append_left (by omega)]
      rw [hG i hin, hg, List.set_append_left _ _ hi]
      have hts := (hF i hin).2
      generalize D.getD i 0 = d at *
      by_cases hp : (procS (G i) d D (W.set i false)).2.2 = 0
      · rw [if_pos hp] at he
        have hx : procS (G i) d (D ++ [-1]) (W.set i false ++ [false]) = ((procS (G i) d D (W.set i false)).1 ++ [-1], (procS (G i) d D (W.set i false)).2.1 ++ [false], 0) := by
          unfold procS at hp ⊢
          split
          · rename_i hc
            rw [if_pos hc] at hp
            cases hp
          · rename_i hc
            rw [if_neg hc] at hp
            exact nexts_ext (by simp; omega) hts hp
        have hl := @nexts_len (d - (G i).1 + (G i).2.1) (G i).2.2 D (W.set i false)
        rw [hx, if_pos rfl]
        simp only [if_pos hp]
        refine flow_ext hG hF k ?_ ?_ he
        · unfold procS
          split
          · exact hd
          · exact hl.1.trans hd
        · unfold procS
          split
          · simpa using hw
          · exact hl.2.trans (by simpa using hw)
      · rw [if_neg hp] at he
        exact absurd he hp
theorem initD_ext {n : Nat} (h : 0 < n) : initD (n + 1) = initD n ++ [-1] := by
  obtain ⟨m, rfl⟩ : ∃ m, n = m + 1 := ⟨n - 1, by omega⟩
  simp only [initD, Nat.add_sub_cancel, List.cons_append]
  rw [List.replicate_succ']
theorem initW_ext {n : Nat} (h : 0 < n) : initW (n + 1) = initW n ++ [false] := by
  obtain ⟨m, rfl⟩ : ∃ m, n = m + 1 := ⟨n - 1, by omega⟩
  simp only [initW, Nat.add_sub_cancel, List.cons_append]
  rw [List.replicate_succ']
theorem ar_set {p : List Fun} {k : Nat} (hk : k < p.length) {f : Fun} (hf : f.ar = p[k].ar) (i : Int) : arP (p.set k f) i = arP p i := by
  unfold arP
  rw [List.getElem?_set]
  by_cases hik : k = i.toNat
  · rw [if_pos hik, if_pos hk, ← hik, List.getElem?_eq_getElem hk]
    exact hf
  · rw [if_neg hik]
theorem off_set {p : List Fun} {k : Nat} (hk : k < p.length) {f : Fun} (hf : f.ar = p[k].ar) (x : Int × Int × Int) : offI (p.set k f) x = offI p x := by
  unfold offI
  rw [ar_set hk hf]
theorem field_set {p : List Fun} {k : Nat} (f g : Fun) (x : Int × Int × Int) : fieldI (p.set k f) g x = fieldI p g x := by
  unfold fieldI
  rw [List.length_set]
/-- An instruction behind the last one. -/
def tailF (f : Fun) : Fun := ⟨f.ar, f.lo, f.sl, f.code ++ [(3, 0, 0)]⟩
theorem tail_fun {p : List Fun} {k : Nat} (hk : k < p.length) (h : (checkP p).2.2 = 0) :
    funE (p.set k (tailF p[k])) (tailF p[k]) = (0, 0) ∧ (flowF (p.set k (tailF p[k])) (tailF p[k]).code).1 = depthsP p k ++ [-1] := by
  have hmem : p[k] ∈ p := List.getElem_mem hk
  have hok := check_ok h hmem
  obtain ⟨hal, hfi, hfl⟩ := fun_facts ((check_facts h).2 _ hmem)
  have hd := depths_at h hk
  have hw : flowF (p.set k (tailF p[k])) (tailF p[k]).code = ((flowF p p[k].code).1 ++ [-1], 0, 0) := by
    unfold flowF
    show flowS (grF (p.set k (tailF p[k])) (p[k].code ++ [(3, 0, 0)])) 201 (initD (p[k].code ++ [(3, 0, 0)]).length) (initW (p[k].code ++ [(3, 0, 0)]).length) = _
    rw [List.length_append, List.length_singleton, initD_ext hok.n1, initW_ext hok.n1]
    refine flow_ext (n := p[k].code.length) (fun i hi => ?_) hok.fine 201 (by have := (init_good (grF p p[k].code) hok.n1).dl; exact this) (by have := (init_good (grF p p[k].code) hok.n1).wl; exact this) hfl
    unfold grF
    rw [List.getElem?_append_left hi, List.getElem?_eq_getElem hi]
    simp only
    unfold nodeI
    rw [off_set (f := tailF p[k]) hk rfl]
  constructor
  · unfold funE
    rw [if_neg (by show ¬ p[k].lo < p[k].ar; omega)]
    have hff : ∀ x ∈ (tailF p[k]).code, fieldI (p.set k (tailF p[k])) (tailF p[k]) x = 0 := by
      intro x hx
      rw [field_set]
      rcases List.mem_append.1 (show x ∈ p[k].code ++ [(3, 0, 0)] from hx) with hx | hx
      · obtain ⟨h1, h2, h3, h4⟩ := fields_ok (hfi x hx)
        unfold fieldI
        have hcl : (tailF p[k]).code.length = p[k].code.length + 1 := by simp [tailF]
        rw [hcl]
        rw [if_neg, if_neg]
        · rintro ⟨g1, g2⟩
          have := h4 g1
          omega
        · show ¬ (((x.1 = 1 ∨ x.1 = 2) ∧ p[k].lo ≤ x.2.1) ∨ (x.1 = 14 ∧ p[k].sl ≤ x.2.1) ∨ (x.1 = 13 ∧ (p[k].sl ≤ x.2.2 ∨ (p.length : Int) ≤ x.2.1)))
          rintro (⟨g1, g2⟩ | ⟨g1, g2⟩ | ⟨g1, g2⟩)
          · have := h1 g1; omega
          · have := h2 g1; omega
          · have := h3 g1; omega
      · simp only [List.mem_singleton] at hx
        subst hx
        rfl
    rw [first_all _ _ hff, if_pos rfl, hw]
  · rw [hw, hd]
theorem tail_ok {p : List Fun} {k : Nat} (hk : k < p.length) (h : (checkP p).2.2 = 0) (hl : p[k].code.length < 200) :
    (checkP (p.set k (tailF p[k]))).2.2 = 0 ∧ depthsP (p.set k (tailF p[k])) k = depthsP p k ++ [-1] := by
  obtain ⟨hm, hall⟩ := check_facts h
  obtain ⟨m1, m2, m3⟩ := (mayP_iff p).1 hm
  obtain ⟨t1, t2⟩ := tail_fun hk h
  have hmf : mayF (tailF p[k]) = true := by
    obtain ⟨a1, a2, a3, a4⟩ := (mayF_iff _).1 (m3 _ (List.getElem_mem hk))
    refine (mayF_iff _).2 ⟨a1, by simp [tailF], by simp [tailF]; omega, fun x hx => ?_⟩
    rcases List.mem_append.1 (show x ∈ p[k].code ++ [(3, 0, 0)] from hx) with hx | hx
    · exact a4 x hx
    · simp only [List.mem_singleton] at hx
      subst hx
      decide
  have hm' : mayP (p.set k (tailF p[k])) = true := (mayP_iff _).2 ⟨by rw [List.length_set]; omega, by rw [List.length_set]; omega, fun f hf => by
    rcases List.mem_or_eq_of_mem_set hf with hf | rfl
    · exact m3 f hf
    · exact hmf⟩
  have ha : ∀ f ∈ p.set k (tailF p[k]), (funE (p.set k (tailF p[k])) f).2 = 0 := fun f hf => by
    rcases List.mem_or_eq_of_mem_set hf with hf | rfl
    · rw [fun_same (p := p.set k (tailF p[k])) (p' := p) (fun x _ => off_set (f := tailF p[k]) hk rfl x) (fun x _ => field_set _ _ _)]
      exact hall f hf
    · rw [t1]
  have hc := check_all hm' ha
  have hc2 : (checkP (p.set k (tailF p[k]))).2.2 = 0 := by rw [hc]
  refine ⟨hc2, ?_⟩
  rw [depths_at hc2 (by rw [List.length_set]; exact hk), List.getElem_set_self, t2]
end Go.Proofs.YtdbmpcdianjaaaaDoor

