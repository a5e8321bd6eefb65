/- Layer 12, plain: what becomes of a valid pen. -/
import Derived.Test.YtkpjlobpaippdaaYp
namespace Go.Proofs.Ytkpjlobpaippdaa
set_option linter.unusedVariables false
set_option linter.unusedSimpArgs false
open Go.RowKit

theorem use_iff {p : Zp} (h : OkZ p) {i : Nat} {c : Cel} (hc : p.cells[i]? = some c) : c.used = true ↔ (i : Int) ∉ p.free := by
  obtain ⟨hi, rfl⟩ := List.getElem?_eq_some_iff.1 hc
  exact h.use i hi
theorem gen_in {p : Zp} (h : OkZ p) {i : Nat} {c : Cel} (hc : p.cells[i]? = some c) : 0 ≤ c.gen ∧ c.gen < 4294967296 := by
  obtain ⟨hi, rfl⟩ := List.getElem?_eq_some_iff.1 hc
  exact h.gen i hi
/-- A valid pen, told by places. -/
theorem ok_mk {p : Zp} (ht : topZ p) (hr : ∀ a ∈ p.free, 0 ≤ a ∧ a < (p.cells.length : Int)) (hn : p.free.Nodup) (hu : ∀ (i : Nat) (c : Cel), p.cells[i]? = some c → (c.used = true ↔ (i : Int) ∉ p.free)) (hg : ∀ (i : Nat) (c : Cel), p.cells[i]? = some c → 0 ≤ c.gen ∧ c.gen < 4294967296) : okZ p = true := by
  rw [okZ_iff]
  exact ⟨ht, hr, hn, fun i hi => hu i _ (List.getElem?_eq_getElem hi), fun i hi => hg i _ (List.getElem?_eq_getElem hi)⟩
/-- The ref has a cell. -/
theorem has_at {p : Zp} {r : V} : hasZ p r = true ↔ ∃ (j : Nat) (f : Frm), r.1 = (j : Int) ∧ p.cells[j]? = some ⟨r.2, true, f⟩ := by
  rw [hasZ_iff]
  constructor
  · rintro ⟨i, hi, e, hu, hg⟩
    refine ⟨i, p.cells[i].frm, e, ?_⟩
    rw [List.getElem?_eq_getElem hi]
    congr 1
    rw [← hu, ← hg]
  · rintro ⟨j, f, e, hc⟩
    obtain ⟨hj, e2⟩ := List.getElem?_eq_some_iff.1 hc
    exact ⟨j, hj, e, by rw [e2], by rw [e2]⟩
theorem get_at {p : Zp} {r : V} {j : Nat} {f : Frm} (h : okZ p = true) (e : r.1 = (j : Int)) (hc : p.cells[j]? = some ⟨r.2, true, f⟩) : getZ p r = (f, true) := by
  unfold getZ
  rw [if_pos ⟨h, has_at.2 ⟨j, f, e, hc⟩⟩, e, Int.toNat_natCast, List.getD_eq_getElem?_getD, hc]
  rfl
theorem get_none {p : Zp} {r : V} (h : hasZ p r = false) : getZ p r = (frm0, false) := if_neg (by
  rintro ⟨_, h2⟩
  rw [h] at h2
  cases h2)
theorem has_not {p : Zp} {r : V} {j : Nat} {c : Cel} (e : r.1 = (j : Int)) (hc : p.cells[j]? = some c) (h : c.used = false ∨ c.gen ≠ r.2) : hasZ p r = false := by
  rw [Bool.eq_false_iff]
  intro hh
  obtain ⟨i, f, e2, hf⟩ := has_at.1 hh
  obtain rfl : i = j := by omega
  rw [hf] at hc
  have := Option.some.inj hc
  subst this
  rcases h with h | h
  · cases h
  · exact h rfl

/-! Refs. -/
theorem refsL_ge : ∀ (l : List Cel) (k : Nat) (x : V), x ∈ refsL l k → (k : Int) ≤ x.1 ∧ x.1 < (k + l.length : Nat)
  | [], _, x, h => by simp [refsL] at h
  | c :: l, k, x, h => by
    simp only [refsL] at h
    have ih := refsL_ge l (k + 1) x
    simp only [List.length_cons]
    split at h
    · rcases List.mem_cons.1 h with rfl | h
      · simp only; omega
      · have := ih h; omega
    · have := ih h; omega
theorem refsL_mem : ∀ (l : List Cel) (k : Nat) (x : V), x ∈ refsL l k ↔ ∃ (j : Nat) (f : Frm), x.1 = ((k + j : Nat) : Int) ∧ l[j]? = some ⟨x.2, true, f⟩
  | [], _, x => by simp [refsL]
  | c :: l, k, x => by
    have ih := refsL_mem l (k + 1) x
    have key : (∃ (j : Nat) (f : Frm), x.1 = ((k + j : Nat) : Int) ∧ (c :: l)[j]? = some ⟨x.2, true, f⟩) ↔ (x.1 = (k : Int) ∧ c.used = true ∧ c.gen = x.2) ∨ ∃ (j : Nat) (f : Frm), x.1 = ((k + 1 + j : Nat) : Int) ∧ l[j]? = some ⟨x.2, true, f⟩ := by
      constructor
      · rintro ⟨j, f, e, h⟩
        cases j with
        | zero =>
          simp at h
          exact .inl ⟨by simpa using e, by rw [h], by rw [h]⟩
        | succ j => exact .inr ⟨j, f, by rw [e]; congr 1; omega, by simpa using h⟩
      · rintro (⟨e, hu, hg⟩ | ⟨j, f, e, h⟩)
        · refine ⟨0, c.frm, by simpa using e, ?_⟩
          simp only [List.getElem?_cons_zero]
          congr 1
          rw [← hu, ← hg]
        · exact ⟨j + 1, f, by rw [e]; congr 1; omega, by simpa using h⟩
    rw [key, ← ih]
    simp only [refsL]
    split
    · rename_i hu
      rw [List.mem_cons]
      constructor
      · rintro (rfl | h)
        · exact .inl ⟨rfl, hu, rfl⟩
        · exact .inr h
      · rintro (⟨e, _, hg⟩ | h)
        · refine .inl ?_
          obtain ⟨a, b⟩ := x
          simp only at e hg
          rw [e, hg]
        · exact .inr h
    · rename_i hu
      constructor
      · exact .inr
      · rintro (⟨_, h, _⟩ | h)
        · exact absurd h hu
        · exact h
theorem refsL_sort : ∀ (l : List Cel) (k : Nat), (refsL l k).Pairwise fun x y => x.1 < y.1
  | [], _ => by simp [refsL]
  | c :: l, k => by
    have ih := refsL_sort l (k + 1)
    simp only [refsL]
    split
    · refine List.pairwise_cons.2 ⟨fun y hy => ?_, ih⟩
      have := refsL_ge l (k + 1) y hy
      simp only
      omega
    · exact ih
theorem refs_split {l : List Cel} {j : Nat} {c : Cel} (h : l[j]? = some c) : refsL l 0 = refsL (l.take j) 0 ++ ((if c.used = true then [((j : Int), c.gen)] else []) ++ refsL (l.drop (j + 1)) (j + 1)) := by
  obtain ⟨hj, e⟩ := List.getElem?_eq_some_iff.1 h
  have e1 : l = l.take j ++ ([c] ++ l.drop (j + 1)) := by
    rw [← e]
    simp
  have hl : (l.take j).length = j := by rw [List.length_take]; omega
  rw [e1, refsL_app, refsL_app, ← e1]
  rw [hl]
  simp only [Nat.zero_add, List.length_cons, List.length_nil]
  congr 2
theorem refs_set {l : List Cel} {j : Nat} {c : Cel} (hj : j < l.length) : refsL (l.set j c) 0 = refsL (l.take j) 0 ++ ((if c.used = true then [((j : Int), c.gen)] else []) ++ refsL (l.drop (j + 1)) (j + 1)) := by
  rw [refs_split (l := l.set j c) (j := j) (c := c) (by rw [List.getElem?_set_self hj]), List.take_set_of_le (Nat.le_refl _), List.drop_set_of_lt (by omega)]
theorem take_lt {l : List Cel} {j : Nat} {x : V} (h : x ∈ refsL (l.take j) 0) : x.1 < (j : Int) := by
  have := refsL_ge _ _ x h
  rw [List.length_take] at this
  omega
theorem drop_gt {l : List Cel} {j : Nat} {x : V} (h : x ∈ refsL (l.drop (j + 1)) (j + 1)) : (j : Int) < x.1 := by
  have := refsL_ge _ _ x h
  omega
theorem refs_mem {p : Zp} (h : okZ p = true) (x : V) : x ∈ refsZ p ↔ hasZ p x = true := by
  unfold refsZ
  rw [if_pos h, refsL_mem, has_at]
  simp only [Nat.zero_add]

/-- What Lay leaves of a valid pen. -/
structure LayOk (p S : Zp) (f : Frm) (r : V) : Prop where
  ok : okZ S = true
  most : S.most = p.most
  cel : ∃ j : Nat, r.1 = (j : Int) ∧ S.cells[j]? = some ⟨r.2, true, f⟩ ∧ (∀ i, i ≠ j → S.cells[i]? = p.cells[i]?) ∧ ∀ c, p.cells[j]? = some c → c.used = false ∧ c.gen = r.2
  gen : 0 ≤ r.2 ∧ r.2 < 4294967296
  refs : ∃ l1 l2, refsZ p = l1 ++ l2 ∧ refsZ S = l1 ++ r :: l2 ∧ (∀ x ∈ l1, x.1 < r.1) ∧ ∀ x ∈ l2, r.1 < x.1
theorem lay_full {p : Zp} (f : Frm) (h : okZ p = true) (h0 : p.free = []) (h1 : (p.cells.length : Int) = p.most) : layZ p f = (p, (0, 0), 120) := by
  unfold layZ
  rw [if_neg (by rw [h]; decide), if_pos h0, if_pos h1]
theorem lay_more {p : Zp} (f : Frm) (h : okZ p = true) (h0 : p.free = []) (h1 : (p.cells.length : Int) ≠ p.most) : layZ p f = (⟨p.cells ++ [⟨0, true, f⟩], [], p.most⟩, ((p.cells.length : Int), 0), 0) := by
  unfold layZ
  rw [if_neg (by rw [h]; decide), if_pos h0, if_neg h1]
theorem lay_again {p : Zp} (f : Frm) (h : okZ p = true) (h0 : p.free ≠ []) : ∃ (j : Nat) (c : Cel) (l : List Int), p.cells[j]? = some c ∧ p.free = l ++ [(j : Int)] ∧ layZ p f = (⟨p.cells.set j ⟨c.gen, true, f⟩, l, p.most⟩, ((j : Int), c.gen), 0) := by
  have hl : 0 < p.free.length := List.length_pos_iff.2 h0
  have k := (okZ_iff p).1 h
  have hr := k.rng (p.free[p.free.length - 1]'(by omega)) (List.getElem_mem _)
  have hx : lastZ p = p.free[p.free.length - 1]'(by omega) := by
    unfold lastZ
    rw [List.getD_eq_getElem?_getD, List.getElem?_eq_getElem (by omega), Option.getD_some]
  rw [← hx] at hr
  obtain ⟨j, hj⟩ : ∃ j : Nat, lastZ p = (j : Int) := ⟨(lastZ p).toNat, by omega⟩
  have hjn : j < p.cells.length := by omega
  have hf : p.free = p.free.take (p.free.length - 1) ++ [(j : Int)] := by
    rw [← hj, hx, ← List.take_succ_eq_append_getElem (by omega), List.take_of_length_le (by omega)]
  refine ⟨j, p.cells[j], p.free.take (p.free.length - 1), List.getElem?_eq_getElem hjn, hf, ?_⟩
  unfold layZ genZ
  rw [if_neg (by rw [h]; decide), if_neg h0, hj, Int.toNat_natCast, List.getD_eq_getElem?_getD, List.getElem?_eq_getElem hjn, Option.getD_some]
theorem refsZ_ok {p : Zp} (h : okZ p = true) : refsZ p = refsL p.cells 0 := by unfold refsZ; rw [if_pos h]
theorem lay_ok {p S : Zp} {f : Frm} {r : V} {e : Int} (h : okZ p = true) (hR : layZ p f = (S, r, e)) : (e = 120 ∧ S = p ∧ p.free = [] ∧ (p.cells.length : Int) = p.most) ∨ (e = 0 ∧ LayOk p S f r) := by
  have k := (okZ_iff p).1 h
  have ht := k.top
  unfold topZ at ht
  by_cases h0 : p.free = []
  · by_cases h1 : (p.cells.length : Int) = p.most
    · rw [lay_full f h h0 h1] at hR
      simp only [Prod.mk.injEq] at hR
      exact .inl ⟨hR.2.2.symm, hR.1.symm, h0, h1⟩
    · rw [lay_more f h h0 h1] at hR
      simp only [Prod.mk.injEq] at hR
      obtain ⟨rfl, rfl, rfl⟩ := hR
      have hap : ∀ i c, (p.cells ++ [⟨0, true, f⟩])[i]? = some c → p.cells[i]? = some c ∨ (i = p.cells.length ∧ c = ⟨0, true, f⟩) := fun i c hc => by
        by_cases hi : i < p.cells.length
        · rw [List.getElem?_append_left hi] at hc
          exact .inl hc
        · rw [List.getElem?_append_right (by omega)] at hc
          have hlt := (List.getElem?_eq_some_iff.1 hc).1
          simp at hlt
          obtain rfl : i = p.cells.length := by omega
          rw [Nat.sub_self] at hc
          simp at hc
          exact .inr ⟨rfl, hc.symm⟩
      have hok : okZ ⟨p.cells ++ [⟨0, true, f⟩], [], p.most⟩ = true := by
        refine ok_mk ?_ (by simp) (by simp) (fun i c hc => ?_) (fun i c hc => ?_)
        · unfold topZ
          simp
          omega
        · rcases hap i c hc with h2 | ⟨_, rfl⟩
          · have := use_iff k h2
            rw [h0] at this
            exact this
          · simp
        · rcases hap i c hc with h2 | ⟨_, rfl⟩
          · exact gen_in k h2
          · simp
      refine .inr ⟨rfl, hok, rfl, ⟨p.cells.length, rfl, ?_, fun i hi => ?_, fun c hc => ?_⟩, by simp, ⟨refsL p.cells 0, [], ?_, ?_, fun x hx => ?_, by simp⟩⟩
      · rw [List.getElem?_append_right (Nat.le_refl _), Nat.sub_self]; rfl
      · by_cases h2 : i < p.cells.length
        · rw [List.getElem?_append_left h2]
        · rw [List.getElem?_eq_none (by simp; omega), List.getElem?_eq_none (by omega)]
      · rw [List.getElem?_eq_none (Nat.le_refl _)] at hc
        cases hc
      · rw [refsZ_ok h, List.append_nil]
      · rw [refsZ_ok hok, refsL_app, Nat.zero_add]
        rfl
      · have := refsL_ge _ _ x hx
        simp only
        omega
  · obtain ⟨j, c, l, hc, hf, hE⟩ := lay_again f h h0
    rw [hE] at hR
    simp only [Prod.mk.injEq] at hR
    obtain ⟨rfl, rfl, rfl⟩ := hR
    have hj := (List.getElem?_eq_some_iff.1 hc).1
    have hun : c.used = false := by
      cases hu : c.used
      · rfl
      · have := (use_iff k hc).1 hu
        rw [hf] at this
        simp at this
    have hnd := k.nod
    rw [hf, List.nodup_append] at hnd
    have hset : ∀ i d, (p.cells.set j ⟨c.gen, true, f⟩)[i]? = some d → (i ≠ j ∧ p.cells[i]? = some d) ∨ (i = j ∧ d = ⟨c.gen, true, f⟩) := fun i d hd => by
      by_cases e : i = j
      · subst e
        rw [List.getElem?_set_self hj] at hd
        exact .inr ⟨rfl, (Option.some.inj hd).symm⟩
      · rw [List.getElem?_set_ne (Ne.symm e)] at hd
        exact .inl ⟨e, hd⟩
    have hok : okZ ⟨p.cells.set j ⟨c.gen, true, f⟩, l, p.most⟩ = true := by
      refine ok_mk ?_ (fun a ha => ?_) hnd.1 (fun i d hd => ?_) (fun i d hd => ?_)
      · unfold topZ
        simp
        omega
      · have := k.rng a (by rw [hf]; simp [ha])
        simpa using this
      · rcases hset i d hd with ⟨hne, h2⟩ | ⟨rfl, rfl⟩
        · have h3 := use_iff k h2
          rw [h3, hf]
          have : ((i : Int) = (j : Int)) ↔ False := by exact ⟨fun h9 => by omega, fun h9 => h9.elim⟩
          simp [this]
        · simp only [true_iff]
          exact fun h9 => hnd.2.2 _ h9 (i : Int) (by simp) rfl
      · rcases hset i d hd with ⟨hne, h2⟩ | ⟨rfl, rfl⟩
        · exact gen_in k h2
        · exact (gen_in k hc : 0 ≤ c.gen ∧ c.gen < 4294967296)
    refine .inr ⟨rfl, hok, rfl, ⟨j, rfl, List.getElem?_set_self hj, fun i hi => List.getElem?_set_ne (Ne.symm hi), fun d hd => ?_⟩, gen_in k hc, ⟨refsL (p.cells.take j) 0, refsL (p.cells.drop (j + 1)) (j + 1), ?_, ?_, fun x hx => take_lt hx, fun x hx => drop_gt hx⟩⟩
    · rw [hc] at hd
      rw [← Option.some.inj hd]
      exact ⟨hun, rfl⟩
    · rw [refsZ_ok h, refs_split hc, hun]
      simp
    · rw [refsZ_ok hok, refs_set hj]
      simp
/-- What Set leaves. -/
structure SetOk (p S : Zp) (f : Frm) (r : V) : Prop where
  ok : okZ S = true
  most : S.most = p.most
  cel : ∃ j : Nat, r.1 = (j : Int) ∧ S.cells[j]? = some ⟨r.2, true, f⟩ ∧ (∀ i, i ≠ j → S.cells[i]? = p.cells[i]?)
  refs : refsZ S = refsZ p
theorem set_no {p : Zp} {r : V} (f : Frm) (h : okZ p = false) : setZ p r f = (p, 1) := by unfold setZ; rw [if_pos h]
theorem set_no2 {p : Zp} {r : V} (f : Frm) (h : okZ p = true) (h2 : hasZ p r = false) : setZ p r f = (p, 121) := by unfold setZ; rw [if_neg (by rw [h]; decide), if_pos h2]
theorem set_ok {p : Zp} {r : V} (f : Frm) (h : okZ p = true) (h2 : hasZ p r = true) : ∃ S, setZ p r f = (S, 0) ∧ SetOk p S f r ∧ S.free = p.free ∧ S.cells.length = p.cells.length ∧ (∀ c ∈ S.cells, c ∈ p.cells ∨ c.frm = f) := by
  obtain ⟨j, g, e, hc⟩ := has_at.1 h2
  have hj := (List.getElem?_eq_some_iff.1 hc).1
  have k := (okZ_iff p).1 h
  have hset : ∀ i d, (p.cells.set j ⟨r.2, true, f⟩)[i]? = some d → (i ≠ j ∧ p.cells[i]? = some d) ∨ (i = j ∧ d = ⟨r.2, true, f⟩) := fun i d hd => by
    by_cases e : i = j
    · subst e
      rw [List.getElem?_set_self hj] at hd
      exact .inr ⟨rfl, (Option.some.inj hd).symm⟩
    · rw [List.getElem?_set_ne (Ne.symm e)] at hd
      exact .inl ⟨e, hd⟩
  have hok : okZ ⟨p.cells.set j ⟨r.2, true, f⟩, p.free, p.most⟩ = true := by
    refine ok_mk ?_ (fun a ha => ?_) k.nod (fun i d hd => ?_) (fun i d hd => ?_)
    · have := k.top
      unfold topZ at *
      simpa using this
    · have := k.rng a ha
      simpa using this
    · rcases hset i d hd with ⟨hne, h2⟩ | ⟨rfl, rfl⟩
      · exact use_iff k h2
      · exact (use_iff k hc : (⟨r.2, true, g⟩ : Cel).used = true ↔ _)
    · rcases hset i d hd with ⟨hne, h2⟩ | ⟨rfl, rfl⟩
      · exact gen_in k h2
      · exact (gen_in k hc : 0 ≤ (⟨r.2, true, g⟩ : Cel).gen ∧ _)
  refine ⟨_, ?_, ⟨hok, rfl, ⟨j, e, List.getElem?_set_self hj, fun i hi => List.getElem?_set_ne (Ne.symm hi)⟩, ?_⟩, rfl, by simp, fun c hcm => ?_⟩
  · unfold setZ
    rw [if_neg (by rw [h]; decide), if_neg (by rw [h2]; decide), e, Int.toNat_natCast]
  · rw [refsZ_ok hok, refsZ_ok h, refs_set hj, refs_split hc]
  · rcases List.mem_or_eq_of_mem_set hcm with h9 | h9
    · exact .inl h9
    · exact .inr (by rw [h9])
/-- What Drop leaves. -/
structure DropOk (p S : Zp) (r : V) : Prop where
  ok : okZ S = true
  most : S.most = p.most
  cel : ∃ j : Nat, r.1 = (j : Int) ∧ S.cells[j]? = some ⟨(r.2 + 1) % 4294967296, false, frm0⟩ ∧ (∀ i, i ≠ j → S.cells[i]? = p.cells[i]?)
  refs : ∃ l1 l2, refsZ p = l1 ++ r :: l2 ∧ refsZ S = l1 ++ l2 ∧ (∀ x ∈ l1, x.1 < r.1) ∧ ∀ x ∈ l2, r.1 < x.1
theorem drop_no {p : Zp} {r : V} (h : okZ p = false) : dropZ p r = (p, 1) := by unfold dropZ; rw [if_pos h]
theorem drop_no2 {p : Zp} {r : V} (h : okZ p = true) (h2 : hasZ p r = false) : dropZ p r = (p, 121) := by unfold dropZ; rw [if_neg (by rw [h]; decide), if_pos h2]
theorem drop_ok {p : Zp} {r : V} (h : okZ p = true) (h2 : hasZ p r = true) : ∃ S, dropZ p r = (S, 0) ∧ DropOk p S r ∧ S.free = p.free ++ [r.1] ∧ S.cells.length = p.cells.length ∧ (∀ c ∈ S.cells, c ∈ p.cells ∨ c.frm = frm0) := by
  obtain ⟨j, g, e, hc⟩ := has_at.1 h2
  have hj := (List.getElem?_eq_some_iff.1 hc).1
  have k := (okZ_iff p).1 h
  have hset : ∀ i d, (p.cells.set j ⟨(r.2 + 1) % 4294967296, false, frm0⟩)[i]? = some d → (i ≠ j ∧ p.cells[i]? = some d) ∨ (i = j ∧ d = ⟨(r.2 + 1) % 4294967296, false, frm0⟩) := fun i d hd => by
    by_cases e : i = j
    · subst e
      rw [List.getElem?_set_self hj] at hd
      exact .inr ⟨rfl, (Option.some.inj hd).symm⟩
    · rw [List.getElem?_set_ne (Ne.symm e)] at hd
      exact .inl ⟨e, hd⟩
  have hnm : (j : Int) ∉ p.free := (use_iff k hc).1 rfl
  have hok : okZ ⟨p.cells.set j ⟨(r.2 + 1) % 4294967296, false, frm0⟩, p.free ++ [r.1], p.most⟩ = true := by
    refine ok_mk ?_ (fun a ha => ?_) ?_ (fun i d hd => ?_) (fun i d hd => ?_)
    · have := k.top
      unfold topZ at *
      simpa using this
    · simp only [List.mem_append, List.mem_singleton] at ha
      simp only [List.length_set]
      rcases ha with ha | rfl
      · exact k.rng a ha
      · omega
    · rw [List.nodup_append]
      refine ⟨k.nod, by simp, fun a ha b hb => ?_⟩
      simp at hb
      subst hb
      rw [e]
      exact fun h9 => hnm (h9 ▸ ha)
    · rw [e]
      rcases hset i d hd with ⟨hne, h2⟩ | ⟨rfl, rfl⟩
      · have h3 := use_iff k h2
        rw [h3]
        have : ((i : Int) = (j : Int)) ↔ False := by exact ⟨fun h9 => by omega, fun h9 => h9.elim⟩
        simp [this]
      · simp
    · rcases hset i d hd with ⟨hne, h2⟩ | ⟨rfl, rfl⟩
      · exact gen_in k h2
      · simp only
        omega
  refine ⟨_, ?_, ⟨hok, rfl, ⟨j, e, List.getElem?_set_self hj, fun i hi => List.getElem?_set_ne (Ne.symm hi)⟩, ⟨refsL (p.cells.take j) 0, refsL (p.cells.drop (j + 1)) (j + 1), ?_, ?_, fun x hx => by rw [e]; exact take_lt hx, fun x hx => by rw [e]; exact drop_gt hx⟩⟩, rfl, by simp, fun c hcm => ?_⟩
  · unfold dropZ
    rw [if_neg (by rw [h]; decide), if_neg (by rw [h2]; decide), e, Int.toNat_natCast]
  · rw [refsZ_ok h, refs_split hc]
    obtain ⟨a, b⟩ := r
    simp only at e
    rw [e]
    simp
  · rw [refsZ_ok hok, refs_set hj]
    simp
  · rcases List.mem_or_eq_of_mem_set hcm with h9 | h9
    · exact .inl h9
    · exact .inr (by rw [h9])
/-- Sizes. -/
structure SmP (p : Zp) (k : Nat) : Prop where
  cells : p.cells.length ≤ k
  free : p.free.length ≤ k
  frm : ∀ c ∈ p.cells, FrmLen c.frm
theorem SmP.len {p : Zp} {k : Nat} (h : SmP p k) (hk : k ≤ 2000) : LenZ p := ⟨by have := h.cells; omega, by have := h.free; omega, fun i hi => h.frm _ (List.getElem_mem hi)⟩
theorem SmP.up {p : Zp} {k m : Nat} (h : SmP p k) (hk : k ≤ m) : SmP p m := ⟨by have := h.cells; omega, by have := h.free; omega, h.frm⟩
theorem lay_sm {p S : Zp} {f : Frm} {r : V} {e : Int} {k : Nat} (hR : layZ p f = (S, r, e)) (h : SmP p k) (hf : FrmLen f) : SmP S (k + 1) := by
  unfold layZ at hR
  split at hR
  · simp only [Prod.mk.injEq] at hR
    rw [← hR.1]
    exact h.up (Nat.le_succ _)
  · split at hR
    · split at hR
      · simp only [Prod.mk.injEq] at hR
        rw [← hR.1]
        exact h.up (Nat.le_succ _)
      · simp only [Prod.mk.injEq] at hR
        rw [← hR.1]
        refine ⟨by simp; exact h.cells, by simp, fun c hc => ?_⟩
        simp only [List.mem_append, List.mem_singleton] at hc
        rcases hc with hc | rfl
        · exact h.frm c hc
        · exact hf
    · simp only [Prod.mk.injEq] at hR
      rw [← hR.1]
      refine ⟨by simp; have := h.cells; omega, by simp [List.length_take]; have := h.free; omega, fun c hc => ?_⟩
      rcases List.mem_or_eq_of_mem_set hc with h9 | rfl
      · exact h.frm c h9
      · exact hf
theorem set_sm {p S : Zp} {f : Frm} {r : V} {e : Int} {k : Nat} (hR : setZ p r f = (S, e)) (h : SmP p k) (hf : FrmLen f) : SmP S k := by
  unfold setZ at hR
  split at hR
  · simp only [Prod.mk.injEq] at hR
    rw [← hR.1]
    exact h
  · split at hR
    · simp only [Prod.mk.injEq] at hR
      rw [← hR.1]
      exact h
    · simp only [Prod.mk.injEq] at hR
      rw [← hR.1]
      refine ⟨by simp; exact h.cells, h.free, fun c hc => ?_⟩
      rcases List.mem_or_eq_of_mem_set hc with h9 | rfl
      · exact h.frm c h9
      · exact hf
theorem drop_sm {p S : Zp} {r : V} {e : Int} {k : Nat} (hR : dropZ p r = (S, e)) (h : SmP p k) : SmP S (k + 1) := by
  unfold dropZ at hR
  split at hR
  · simp only [Prod.mk.injEq] at hR
    rw [← hR.1]
    exact h.up (Nat.le_succ _)
  · split at hR
    · simp only [Prod.mk.injEq] at hR
      rw [← hR.1]
      exact h.up (Nat.le_succ _)
    · simp only [Prod.mk.injEq] at hR
      rw [← hR.1]
      refine ⟨by simp; have := h.cells; omega, by simp; exact h.free, fun c hc => ?_⟩
      rcases List.mem_or_eq_of_mem_set hc with h9 | rfl
      · exact h.frm c h9
      · exact frm0_len
theorem get_len {p : Zp} {F : Frm} {r : V} {x : Bool} {k : Nat} (hR : getZ p r = (F, x)) (h : SmP p k) : FrmLen F := by
  unfold getZ at hR
  split at hR
  · rename_i hh
    obtain ⟨j, f, e, hc⟩ := has_at.1 hh.2
    simp only [Prod.mk.injEq] at hR
    rw [← hR.1, e, Int.toNat_natCast, List.getD_eq_getElem?_getD, hc]
    exact h.frm _ (List.mem_of_getElem? hc)
  · simp only [Prod.mk.injEq] at hR
    rw [← hR.1]
    exact frm0_len
/-- A list parted at a ref. -/
theorem part_eq {r : V} : ∀ {a b c d : List V}, a ++ r :: b = c ++ r :: d → (∀ x ∈ a, x.1 < r.1) → (∀ x ∈ c, x.1 < r.1) → a = c ∧ b = d
  | [], b, [], d, h, _, _ => ⟨rfl, by simpa using h⟩
  | [], b, y :: c, d, h, _, hc => by
    simp only [List.nil_append, List.cons_append, List.cons.injEq] at h
    have := hc y (by simp)
    rw [← h.1] at this
    omega
  | y :: a, b, [], d, h, ha, _ => by
    simp only [List.nil_append, List.cons_append, List.cons.injEq] at h
    have := ha y (by simp)
    rw [h.1] at this
    omega
  | y :: a, b, z :: c, d, h, ha, hc => by
    simp only [List.cons_append, List.cons.injEq] at h
    have ih := part_eq h.2 (fun x hx => ha x (by simp [hx])) (fun x hx => hc x (by simp [hx]))
    exact ⟨by rw [h.1, ih.1], ih.2⟩
theorem refsL_all : ∀ (l : List Cel) (k : Nat), (∀ c ∈ l, c.used = true) → (refsL l k).length = l.length
  | [], _, _ => rfl
  | c :: l, k, h => by
    have ih := refsL_all l (k + 1) (fun d hd => h d (by simp [hd]))
    simp only [refsL]
    rw [if_pos (h c (by simp))]
    simp [ih]
theorem full_refs {p : Zp} (h : okZ p = true) (h0 : p.free = []) : (refsZ p).length = p.cells.length := by
  rw [refsZ_ok h]
  refine refsL_all _ _ fun c hc => ?_
  obtain ⟨i, hi, rfl⟩ := List.mem_iff_getElem.1 hc
  have := ((okZ_iff p).1 h).use i hi
  rw [h0] at this
  exact this.2 (by simp)
theorem get_no1 {p : Zp} {r : V} {j : Nat} {c : Cel} (e : r.1 = (j : Int)) (hc : p.cells[j]? = some c) (h : c.used = false ∨ c.gen ≠ r.2) : getZ p r = (frm0, false) := get_none (has_not e hc h)
theorem mod_ne {g : Int} (h : 0 ≤ g ∧ g < 4294967296) : (g + 1) % 4294967296 ≠ g := by omega
/-- All of PenHolds, plain. -/
structure HoldsP (p : Zp) (f g : Frm) (A : Zp) (r : V) (B C D : Zp) (s : V) : Prop where
  b : setZ A r g = (B, 0)
  c : dropZ B r = (C, 0)
  d : layZ C f = (D, s, 0)
  x : getZ A r = (f, true)
  y : getZ B r = (g, true)
  gone : getZ C r = (frm0, false)
  back : getZ D r = (frm0, false)
  z : getZ D s = (f, true)
  at_ : s.1 = r.1
  all : ∀ k (h : k < (refsZ p).length), ∃ u, getZ p (refsZ p)[k] = (u, true) ∧ getZ D (refsZ p)[k] = (u, true) ∧ (refsZ p)[k] ≠ r
  okA : okZ A = true
  okB : okZ B = true
  okC : okZ C = true
  okD : okZ D = true
  lenA : (refsZ A).length = (refsZ p).length + 1
  lenB : (refsZ B).length = (refsZ p).length + 1
  refC : refsZ C = refsZ p
theorem holds_plain {p A : Zp} {f : Frm} {r : V} (g : Frm) (h : okZ p = true) (hA : LayOk p A f r) : ∃ B C D s, HoldsP p f g A r B C D s := by
  obtain ⟨j, ej, cj, oj, uj⟩ := hA.cel
  have hasA : hasZ A r = true := has_at.2 ⟨j, f, ej, cj⟩
  obtain ⟨B, eB, hB, -, -, -⟩ := set_ok g hA.ok hasA
  obtain ⟨j2, ej2, cj2, oj2⟩ := hB.cel
  obtain rfl : j2 = j := by omega
  have hasB : hasZ B r = true := has_at.2 ⟨j2, g, ej2, cj2⟩
  obtain ⟨C, eC, hC, fC, -, -⟩ := drop_ok hB.ok hasB
  obtain ⟨j3, ej3, cj3, oj3⟩ := hC.cel
  obtain rfl : j3 = j2 := by omega
  have hne : C.free ≠ [] := by rw [fC]; simp
  obtain ⟨j4, c4, l4, hc4, hf4, eD⟩ := lay_again f hC.ok hne
  have hj4 : (j4 : Int) = r.1 := by
    rw [fC] at hf4
    have := List.append_inj_right' hf4 rfl
    simpa using this.symm
  obtain rfl : j4 = j3 := by omega
  rw [cj3] at hc4
  obtain rfl := Option.some.inj hc4
  have hD := (lay_ok hC.ok eD).resolve_left (by rintro ⟨e, _⟩; cases e)
  obtain ⟨-, hD⟩ := hD
  obtain ⟨j5, ej5, cj5, oj5, uj5⟩ := hD.cel
  obtain rfl : j5 = j4 := by simp only at ej5; omega
  refine ⟨B, C, _, _, eB, eC, eD, get_at hA.ok ej cj, get_at hB.ok ej2 cj2, get_no1 ej3 cj3 (.inl rfl), get_no1 ej3 cj5 (.inr (mod_ne hA.gen)), get_at hD.ok ej5 cj5, by simp only; omega, fun k hk => ?_, hA.ok, hB.ok, hC.ok, hD.ok, ?_, ?_, ?_⟩
  · have hm := (refs_mem h _).1 (List.getElem_mem hk)
    obtain ⟨i, u, ei, ci⟩ := has_at.1 hm
    have hij : i ≠ j5 := fun e => by
      subst e
      have := (uj _ ci).1
      cases this
    refine ⟨u, get_at h ei ci, get_at hD.ok ei ?_, fun e => hij ?_⟩
    · rw [oj5 i hij, oj3 i hij, oj2 i hij, oj i hij, ci]
    · rw [e] at ei
      omega
  · obtain ⟨m1, m2, e1, e2, _, _⟩ := hA.refs
    rw [e1, e2]
    simp
    omega
  · rw [hB.refs]
    obtain ⟨m1, m2, e1, e2, _, _⟩ := hA.refs
    rw [e1, e2]
    simp
    omega
  · obtain ⟨m1, m2, e1, e2, q1, _⟩ := hA.refs
    obtain ⟨l1, l2, e3, e4, q3, _⟩ := hC.refs
    rw [hB.refs, e2] at e3
    obtain ⟨rfl, rfl⟩ := part_eq e3 q1 q3
    rw [e4, e1]
end Go.Proofs.Ytkpjlobpaippdaa
