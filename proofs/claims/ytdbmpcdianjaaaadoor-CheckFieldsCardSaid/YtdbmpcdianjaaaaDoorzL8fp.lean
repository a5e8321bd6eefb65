/- Layer 8, plain: instructions that lay, take and go on alike stand in each other's place. -/
import Derived.Test.YtdbmpcdianjaaaaDoorzL8tp
namespace Go.Proofs.YtdbmpcdianjaaaaDoor
set_option linter.unusedVariables false
set_option linter.unusedSimpArgs false
open Go.ChangeShapes Go.WideShapes Go.ChangeAt Go.RowKit Go.Sort

/-- Another instruction that does alike. -/
def chgI (a b : Int) (x : Int × Int × Int) : Int × Int × Int :=
  if x.1 = 0 then (0, a, b) else if x.1 = 16 then (16, 16 + a % 240, 0) else if x.1 = 3 ∨ x.1 = 4 ∨ x.1 = 5 ∨ x.1 = 6 then (3 + b % 4, 0, 0) else x
theorem chg_may {a b : Int} (ha : 0 ≤ a ∧ a ≤ 250) (hb : 0 ≤ b ∧ b ≤ 250) {x : Int × Int × Int} (h : mayZ x.1 x.2.1 x.2.2 = true) : mayZ (chgI a b x).1 (chgI a b x).2.1 (chgI a b x).2.2 = true := by
  unfold chgI
  split
  · show mayZ 0 a b = true
    have : rz 0 = orow 0 := rz_in (k := 0) (by omega)
    simp only [mayZ, this, Bool.and_eq_true, decide_eq_true_eq]
    refine ⟨⟨rfl, ?_⟩, ?_⟩
    · show (0 : Int) ≤ a ∧ a ≤ 250; omega
    · show (0 : Int) ≤ b ∧ b ≤ 250; omega
  · split
    · show mayZ 16 (16 + a % 240) 0 = true
      have : rz 16 = orow 16 := rz_in (k := 16) (by omega)
      simp only [mayZ, this, Bool.and_eq_true, decide_eq_true_eq]
      refine ⟨⟨rfl, ?_⟩, ?_⟩
      · show (16 : Int) ≤ 16 + a % 240 ∧ 16 + a % 240 ≤ 255; omega
      · show (0 : Int) ≤ 0 ∧ (0 : Int) ≤ 0; omega
    · split
      · show mayZ (3 + b % 4) 0 0 = true
        have h4 : b % 4 = 0 ∨ b % 4 = 1 ∨ b % 4 = 2 ∨ b % 4 = 3 := by omega
        rcases h4 with h4 | h4 | h4 | h4 <;> (rw [h4]; decide)
      · exact h
theorem chg_node {a b : Int} (p : List Fun) {x : Int × Int × Int} (h : mayZ x.1 x.2.1 x.2.2 = true) (i : Int) : nodeI p (chgI a b x) i = nodeI p x i := by
  unfold chgI
  by_cases h0 : x.1 = 0
  · rw [if_pos h0]
    unfold nodeI offI nextI
    simp [h0]
  · rw [if_neg h0]
    by_cases h16 : x.1 = 16
    · rw [if_pos h16]
      unfold nodeI offI nextI
      simp [h16]
    · rw [if_neg h16]
      by_cases h3 : x.1 = 3 ∨ x.1 = 4 ∨ x.1 = 5 ∨ x.1 = 6
      · rw [if_pos h3]
        have h4 : b % 4 = 0 ∨ b % 4 = 1 ∨ b % 4 = 2 ∨ b % 4 = 3 := by omega
        unfold nodeI offI nextI
        rcases h3 with h3 | h3 | h3 | h3 <;> rcases h4 with h4 | h4 | h4 | h4 <;> (rw [h3, h4]; rfl)
      · rw [if_neg h3]
theorem chg_field {a b : Int} (p : List Fun) {f g : Fun} (hg : g.lo = f.lo ∧ g.sl = f.sl ∧ g.code.length = f.code.length) (x : Int × Int × Int) : fieldI p g (chgI a b x) = fieldI p f x := by
  obtain ⟨g1, g2, g3⟩ := hg
  unfold chgI
  by_cases h0 : x.1 = 0
  · rw [if_pos h0]
    unfold fieldI
    simp [h0]
  · rw [if_neg h0]
    by_cases h16 : x.1 = 16
    · rw [if_pos h16]
      unfold fieldI
      simp [h16]
    · rw [if_neg h16]
      by_cases h3 : x.1 = 3 ∨ x.1 = 4 ∨ x.1 = 5 ∨ x.1 = 6
      · rw [if_pos h3]
        unfold fieldI
        simp only
        have h4 : b % 4 = 0 ∨ b % 4 = 1 ∨ b % 4 = 2 ∨ b % 4 = 3 := by omega
        rw [if_neg (by omega), if_neg (by omega), if_neg (by omega), if_neg (by omega)]
      · rw [if_neg h3]
        unfold fieldI
        rw [g1, g2, g3]
def chgF (a b : Int) (f : Fun) : Fun := ⟨f.ar, f.lo, f.sl, f.code.map (chgI a b)⟩
theorem first_map {p : List Fun} {f g : Fun} {a b : Int} (h : ∀ x, fieldI p g (chgI a b x) = fieldI p f x) : ∀ (l : List (Int × Int × Int)) (k : Int), firstI p g (l.map (chgI a b)) k = firstI p f l k
  | [], _ => rfl
  | x :: l, k => by rw [List.map_cons, firstI_cons, firstI_cons, h x, first_map h l]
theorem gr_map {p : List Fun} {a b : Int} {c : List (Int × Int × Int)} (h : ∀ x ∈ c, mayZ x.1 x.2.1 x.2.2 = true) : grF p (c.map (chgI a b)) = grF p c := by
  funext i
  unfold grF
  rw [List.getElem?_map]
  cases hx : c[i]? with
  | none => rfl
  | some x =>
    simp only [Option.map_some]
    exact chg_node p (h x (List.mem_of_getElem? hx)) i
theorem flow_map {p : List Fun} {a b : Int} {c : List (Int × Int × Int)} (h : ∀ x ∈ c, mayZ x.1 x.2.1 x.2.2 = true) : flowF p (c.map (chgI a b)) = flowF p c := by
  unfold flowF
  rw [gr_map h, List.length_map]
theorem firstF_same {p p' : List Fun} : ∀ {l l' : List Fun} {k : Int}, l.map (funE p) = l'.map (funE p') → firstF p l k = firstF p' l' k
  | [], [], _, _ => rfl
  | [], _ :: _, _, h => by simp at h
  | _ :: _, [], _, h => by simp at h
  | x :: l, y :: l', k, h => by
    rw [List.map_cons, List.map_cons, List.cons.injEq] at h
    rw [firstF_cons, firstF_cons, h.1, firstF_same h.2]
/-- A function of instructions that do alike, in its place. -/
theorem chg_ok {p : List Fun} {k : Nat} (hk : k < p.length) {a b : Int} (ha : 0 ≤ a ∧ a ≤ 250) (hb : 0 ≤ b ∧ b ≤ 250) (h : ∀ x ∈ p[k].code, mayZ x.1 x.2.1 x.2.2 = true) :
    checkP (p.set k (chgF a b p[k])) = checkP p ∧ depthsP (p.set k (chgF a b p[k])) k = depthsP p k := by
  have hoff : ∀ x, offI (p.set k (chgF a b p[k])) x = offI p x := fun x => off_set (f := chgF a b p[k]) hk rfl x
  have hlc : (chgF a b p[k]).code.length = p[k].code.length := by simp [chgF]
  have hfe : ∀ g ∈ p, funE (p.set k (chgF a b p[k])) g = funE p g := fun g _ => fun_same (p := p.set k (chgF a b p[k])) (p' := p) (fun x _ => hoff x) (fun x _ => field_set _ _ _)
  have hflow : flowF (p.set k (chgF a b p[k])) (chgF a b p[k]).code = flowF p p[k].code := by
    rw [flow_same (p := p.set k (chgF a b p[k])) (p' := p) (fun x _ => hoff x)]
    exact flow_map h
  have hfk : funE (p.set k (chgF a b p[k])) (chgF a b p[k]) = funE p p[k] := by
    unfold funE
    rw [hflow, first_same (p := p.set k (chgF a b p[k])) (p' := p) (fun x _ => field_set _ _ _)]
    have e := first_map (p := p) (f := p[k]) (g := chgF a b p[k]) (a := a) (b := b) (fun x => chg_field p (f := p[k]) (g := chgF a b p[k]) ⟨rfl, rfl, hlc⟩ x) p[k].code 0
    have e2 : firstI p (chgF a b p[k]) (chgF a b p[k]).code 0 = firstI p p[k] p[k].code 0 := e
    rw [e2]
    rfl
  have hmap : (p.set k (chgF a b p[k])).map (funE (p.set k (chgF a b p[k]))) = p.map (funE p) := by
    apply List.ext_getElem?
    intro i
    rw [List.getElem?_map, List.getElem?_map, List.getElem?_set]
    by_cases hik : k = i
    · subst hik
      rw [if_pos rfl, if_pos hk, List.getElem?_eq_getElem hk]
      simp only [Option.map_some]
      rw [hfk]
    · rw [if_neg hik]
      cases hg : p[i]? with
      | none => rfl
      | some g =>
        simp only [Option.map_some]
        rw [hfe g (List.mem_of_getElem? hg)]
  have hmk : mayF (chgF a b p[k]) = mayF p[k] := by
    rw [Bool.eq_iff_iff, mayF_iff, mayF_iff, hlc]
    constructor
    · rintro ⟨h1, h2, h3, _⟩
      exact ⟨h1, h2, h3, h⟩
    · rintro ⟨h1, h2, h3, _⟩
      refine ⟨h1, h2, h3, fun x hx => ?_⟩
      obtain ⟨y, hy, rfl⟩ := List.mem_map.1 (show x ∈ p[k].code.map (chgI a b) from hx)
      exact chg_may ha hb (h y hy)
  have hmp : mayP (p.set k (chgF a b p[k])) = mayP p := by
    rw [Bool.eq_iff_iff, mayP_iff, mayP_iff, List.length_set]
    constructor
    · rintro ⟨h1, h2, h3⟩
      refine ⟨h1, h2, fun g hg => ?_⟩
      obtain ⟨i, hi, rfl⟩ := List.mem_iff_getElem.1 hg
      by_cases hik : k = i
      · subst hik
        rw [← hmk]
        exact h3 _ (List.mem_iff_getElem.2 ⟨k, by rw [List.length_set]; exact hk, by rw [List.getElem_set_self]⟩)
      · exact h3 _ (List.mem_iff_getElem.2 ⟨i, by rw [List.length_set]; exact hi, by rw [List.getElem_set_ne hik]⟩)
    · rintro ⟨h1, h2, h3⟩
      refine ⟨h1, h2, fun g hg => ?_⟩
      rcases List.mem_or_eq_of_mem_set hg with hg | rfl
      · exact h3 g hg
      · rw [hmk]
        exact h3 _ (List.getElem_mem hk)
  have hc : checkP (p.set k (chgF a b p[k])) = checkP p := by
    unfold checkP
    rw [hmp, firstF_same hmap]
  refine ⟨hc, ?_⟩
  unfold depthsP
  rw [hc, Int.toNat_natCast, List.getElem?_eq_getElem hk, List.getElem?_eq_getElem (by rw [List.length_set]; exact hk), List.getElem_set_self]
  simp only
  rw [hflow]
end Go.Proofs.YtdbmpcdianjaaaaDoor

