/- Layer 8, plain: depths of places, by going through them, the least first. -/
import Derived.Test.YtoeinpiekfmbgaaGreatDoorzGb
import Derived.WalkKit
import Derived.Test.YtoeinpiekfmbgaaGreatDoorzHc
import Derived.Laws.BitsAllLaws
namespace Go.Proofs.YtoeinpiekfmbgaaGreatDoor
set_option linter.unusedVariables false
set_option linter.unusedSimpArgs false
open Go

/-- What a function takes. -/
def arP (p : List Fun) (i : Int) : Int := match p[i.toNat]? with
  | some f => f.ar
  | none => 0
def offI (p : List Fun) (x : Int × Int × Int) : Int := if x.1 = 13 then arP p x.2.1 else (rz x.1).p
def nextI (x : Int × Int × Int) (i : Int) : List Int := if x.1 = 10 then [x.2.1] else if x.1 = 15 ∨ x.1 = 16 then [] else if x.1 = 11 then [i + 1, x.2.1] else [i + 1]
def nodeI (p : List Fun) (x : Int × Int × Int) (i : Int) : Int × Int × List Int := (offI p x, (rz x.1).q, nextI x i)
/-- What is wrong with an instruction's fields. -/
def fieldI (p : List Fun) (f : Fun) (x : Int × Int × Int) : Int :=
  if ((x.1 = 1 ∨ x.1 = 2) ∧ f.lo ≤ x.2.1) ∨ (x.1 = 14 ∧ f.sl ≤ x.2.1) ∨ (x.1 = 13 ∧ (f.sl ≤ x.2.2 ∨ (p.length : Int) ≤ x.2.1)) then 82
  else if (x.1 = 10 ∨ x.1 = 11) ∧ (f.code.length : Int) ≤ x.2.1 then 83 else 0
def grF (p : List Fun) (c : List (Int × Int × Int)) (i : Nat) : Int × Int × List Int := match c[i]? with
  | some x => nodeI p x i
  | none => (0, 0, [])
/-- Places that follow are reached, one behind the other: depths, who waits, what is wrong. -/
def nextsS (b : Int) : List Int → List Int → List Bool → List Int × List Bool × Int
  | [], D, W => (D, W, 0)
  | t :: ts, D, W =>
    if (D.length : Int) ≤ t then (D, W, 81)
    else if D.getD t.toNat 0 = -1 then nextsS b ts (D.set t.toNat b) (W.set t.toNat true)
    else if D.getD t.toNat 0 = b then nextsS b ts D W else (D, W, 84)
/-- A place is gone through. -/
def procS (g : Int × Int × List Int) (d : Int) (D : List Int) (W : List Bool) : List Int × List Bool × Int :=
  if d < g.1 ∨ 16 < d - g.1 + g.2.1 then (D, W, 84) else nextsS (d - g.1 + g.2.1) g.2.2 D W
/-- The least place that waits. -/
def openS (W : List Bool) : Option Nat := W.findIdx? (· == true)
def flowS (G : Nat → Int × Int × List Int) : Nat → List Int → List Bool → List Int × Int × Int
  | 0, D, _ => (D, 0, 0)
  | k + 1, D, W => match openS W with
    | none => (D, 0, 0)
    | some i => if (procS (G i) (D.getD i 0) D (W.set i false)).2.2 = 0 then flowS G k (procS (G i) (D.getD i 0) D (W.set i false)).1 (procS (G i) (D.getD i 0) D (W.set i false)).2.1
      else (D, i, (procS (G i) (D.getD i 0) D (W.set i false)).2.2)
def initD (n : Nat) : List Int := 0 :: List.replicate (n - 1) (-1)
def initW (n : Nat) : List Bool := true :: List.replicate (n - 1) false
def flowF (p : List Fun) (c : List (Int × Int × Int)) : List Int × Int × Int := flowS (grF p c) 201 (initD c.length) (initW c.length)
/-- The first one that is wrong. -/
def firstI (p : List Fun) (f : Fun) : List (Int × Int × Int) → Int → Int × Int
  | [], _ => (0, 0)
  | x :: xs, k => if fieldI p f x = 0 then firstI p f xs (k + 1) else (k, fieldI p f x)
def funE (p : List Fun) (f : Fun) : Int × Int :=
  if f.lo < f.ar then (0, 80) else if (firstI p f f.code 0).2 = 0 then (flowF p f.code).2 else firstI p f f.code 0
def firstF (p : List Fun) : List Fun → Int → Int × Int × Int
  | [], _ => (0, 0, 0)
  | f :: fs, k => if (funE p f).2 = 0 then firstF p fs (k + 1) else (k, funE p f)
def checkP (p : List Fun) : Int × Int × Int := if mayP p = true then firstF p p 0 else (0, 0, 1)
def depthsP (p : List Fun) (n : Int) : List Int := if (checkP p).2.2 = 0 ∧ 0 ≤ n then (match p[n.toNat]? with
  | some f => (flowF p f.code).1
  | none => []) else []

theorem openS_some {W : List Bool} {i : Nat} (h : openS W = some i) : ∃ hi : i < W.length, W[i] = true ∧ ∀ j (hj : j < i), W[j] = false := by
  unfold openS at h
  obtain ⟨hi, h1, h2⟩ := List.findIdx?_eq_some_iff_getElem.1 h
  refine ⟨hi, by simpa using h1, fun j hj => ?_⟩
  have := h2 j hj
  simpa using this
theorem openS_none {W : List Bool} (h : openS W = none) : ∀ x ∈ W, x = false := by
  unfold openS at h
  intro x hx
  have := List.findIdx?_eq_none_iff.1 h x hx
  simpa using this
theorem openS_at {W : List Bool} {i : Nat} (hi : i < W.length) (h : W[i] = true) (hj : ∀ j (hj : j < i), W[j] = false) : openS W = some i := by
  unfold openS
  exact List.findIdx?_eq_some_iff_getElem.2 ⟨hi, by simpa using h, fun j h2 => by have := hj j h2; simpa using this⟩
theorem openS_no {W : List Bool} (h : ∀ x ∈ W, x = false) : openS W = none := by
  unfold openS
  exact List.findIdx?_eq_none_iff.2 fun x hx => by have := h x hx; simpa using this
theorem nexts_len {b : Int} : ∀ {ts : List Int} {D : List Int} {W : List Bool}, (nextsS b ts D W).1.length = D.length ∧ (nextsS b ts D W).2.1.length = W.length
  | [], D, W => ⟨rfl, rfl⟩
  | t :: ts, D, W => by
    unfold nextsS
    split
    · exact ⟨rfl, rfl⟩
    · split
      · have := @nexts_len b ts (D.set t.toNat b) (W.set t.toNat true)
        simpa using this
      · split
        · exact nexts_len
        · exact ⟨rfl, rfl⟩
/-- What changes: places that were not reached, and wait now. -/
def Grew (b : Int) (ts : List Int) (D D' : List Int) (W W' : List Bool) : Prop :=
  ∀ i, (D'[i]? = D[i]? ∧ W'[i]? = W[i]?) ∨ (D[i]? = some (-1) ∧ D'[i]? = some b ∧ W'[i]? = some true ∧ ∃ t ∈ ts, t.toNat = i)
theorem nexts_grew {b : Int} : ∀ {ts : List Int} {D : List Int} {W : List Bool}, W.length = D.length → (∀ t ∈ ts, 0 ≤ t) → Grew b ts D (nextsS b ts D W).1 W (nextsS b ts D W).2.1
  | [], D, W, _, _ => fun i => .inl ⟨rfl, rfl⟩
  | t :: ts, D, W, hl, h0 => by
    unfold nextsS
    have ht := h0 t (by simp)
    have hts : ∀ t ∈ ts, 0 ≤ t := fun u hu => h0 u (by simp [hu])
    split
    · exact fun i => .inl ⟨rfl, rfl⟩
    · rename_i hlt
      have hlt2 : t.toNat < D.length := by omega
      split
      · rename_i hm
        have ih := @nexts_grew b ts (D.set t.toNat b) (W.set t.toNat true) (by simp [hl]) hts
        intro i
        by_cases hi : t.toNat = i
        · subst hi
          rcases ih t.toNat with ⟨h1, h2⟩ | ⟨h1, h2, h3, h4⟩
          · refine .inr ⟨?_, ?_, ?_, t, by simp, rfl⟩
            · rw [List.getD_eq_getElem?_getD, List.getElem?_eq_getElem hlt2] at hm
              rw [List.getElem?_eq_getElem hlt2]
              simpa using hm
            · rw [h1]; simp [hlt2]
            · rw [h2]; simp [hl, hlt2]
          · refine .inr ⟨?_, h2, h3, t, by simp, rfl⟩
            rw [List.getD_eq_getElem?_getD, List.getElem?_eq_getElem hlt2] at hm
            rw [List.getElem?_eq_getElem hlt2]
            simpa using hm
        · rcases ih i with ⟨h1, h2⟩ | ⟨h1, h2, h3, u, h4, h5⟩
          · exact .inl ⟨by rw [h1, List.getElem?_set_ne hi], by rw [h2, List.getElem?_set_ne hi]⟩
          · exact .inr ⟨by rw [List.getElem?_set_ne hi] at h1; exact h1, h2, h3, u, by simp [h4], h5⟩
      · split
        · intro i
          rcases @nexts_grew b ts D W hl hts i with h | ⟨h1, h2, h3, u, h4, h5⟩
          · exact .inl h
          · exact .inr ⟨h1, h2, h3, u, by simp [h4], h5⟩
        · exact fun i => .inl ⟨rfl, rfl⟩
theorem grew_keeps {b : Int} {ts : List Int} {D D' : List Int} {W W' : List Bool} (h : Grew b ts D D' W W') {i : Nat} {d : Int} (hd : D[i]? = some d) (hn : d ≠ -1) : D'[i]? = some d ∧ W'[i]? = W[i]? := by
  rcases h i with ⟨h1, h2⟩ | ⟨h1, _⟩
  · exact ⟨h1.trans hd, h2⟩
  · rw [hd] at h1
    exact absurd (Option.some.inj h1) hn
theorem nexts_ok {b : Int} (hb : b ≠ -1) : ∀ {ts : List Int} {D : List Int} {W : List Bool}, W.length = D.length → (∀ t ∈ ts, 0 ≤ t) → (nextsS b ts D W).2.2 = 0 → ∀ t ∈ ts, t < D.length ∧ (nextsS b ts D W).1[t.toNat]? = some b
  | [], D, W, _, _, _, t, h => by simp at h
  | t :: ts, D, W, hl, h0, he, u, hu => by
    have ht := h0 t (by simp)
    have hts : ∀ t ∈ ts, 0 ≤ t := fun u hu => h0 u (by simp [hu])
    unfold nextsS at he ⊢
    split
    · rename_i hc
      rw [if_pos hc] at he
      cases he
    · rename_i hc
      rw [if_neg hc] at he
      have hlt2 : t.toNat < D.length := by omega
      split
      · rename_i hm
        rw [if_pos hm] at he
        have ih := @nexts_ok b hb ts (D.set t.toNat b) (W.set t.toNat true) (by simp [hl]) hts he
        rcases List.mem_cons.1 hu with rfl | hu
        · refine ⟨by omega, ?_⟩
          exact (grew_keeps (nexts_grew (b := b) (ts := ts) (by simp [hl]) hts) (by simp [hlt2]) hb).1
        · have := ih u hu
          simpa using this
      · rename_i hm
        rw [if_neg hm] at he
        split
        · rename_i hm2
          rw [if_pos hm2] at he
          have ih := @nexts_ok b hb ts D W hl hts he
          rcases List.mem_cons.1 hu with rfl | hu
          · refine ⟨by omega, ?_⟩
            refine (grew_keeps (nexts_grew (b := b) (ts := ts) hl hts) ?_ hb).1
            rw [List.getD_eq_getElem?_getD, List.getElem?_eq_getElem hlt2] at hm2
            rw [List.getElem?_eq_getElem hlt2]
            simpa using hm2
          · exact ih u hu
        · rename_i hm2
          rw [if_neg hm2] at he
          cases he

/-- How many places are still to be gone through. -/
def todoB (D : List Int) (W : List Bool) (i : Nat) : Bool := D[i]? == some (-1) || W[i]? == some true
def muS (n : Nat) (D : List Int) (W : List Bool) : Nat := (List.range n).countP (todoB D W)
theorem countP_lt {α : Type} {p q : α → Bool} : ∀ {l : List α}, (∀ x ∈ l, q x = true → p x = true) → (∃ a ∈ l, p a = true ∧ q a = false) → l.countP q < l.countP p
  | [], _, h => by obtain ⟨a, h, _⟩ := h; simp at h
  | x :: l, h1, ⟨a, ha, hp, hq⟩ => by
    have hx := h1 x (by simp)
    have hl : ∀ y ∈ l, q y = true → p y = true := fun y hy => h1 y (by simp [hy])
    have hle : l.countP q ≤ l.countP p := List.countP_mono_left hl
    rw [List.countP_cons, List.countP_cons]
    rcases List.mem_cons.1 ha with rfl | ha
    · rw [hp, hq]
      simp
      omega
    · have := countP_lt hl ⟨a, ha, hp, hq⟩
      cases hqx : q x
      · simp
        split <;> omega
      · rw [hx hqx]
        simp
        omega
theorem mu_pos {n : Nat} {D : List Int} {W : List Bool} {i : Nat} (hi : i < n) (h : W[i]? = some true) : 0 < muS n D W := by
  unfold muS
  rw [List.countP_pos_iff]
  exact ⟨i, by simpa using hi, by simp [todoB, h]⟩
/-- What is known of depths and of who waits, all the way. -/
structure Gone (G : Nat → Int × Int × List Int) (n : Nat) (D : List Int) (W : List Bool) : Prop where
  dl : D.length = n
  wl : W.length = n
  zero : D[0]? = some 0
  range : ∀ (i : Nat) (d : Int), D[i]? = some d → -1 ≤ d ∧ d ≤ 16
  wait : ∀ i : Nat, W[i]? = some true → D[i]? ≠ some (-1)
  done : ∀ (i : Nat) (d : Int), D[i]? = some d → d ≠ -1 → W[i]? = some false → (G i).1 ≤ d ∧ d - (G i).1 + (G i).2.1 ≤ 16 ∧ ∀ t ∈ (G i).2.2, t < n ∧ D[t.toNat]? = some (d - (G i).1 + (G i).2.1)
  from_ : ∀ (i : Nat) (d : Int), 0 < i → D[i]? = some d → d ≠ -1 → ∃ (j : Nat) (e : Int), D[j]? = some e ∧ e ≠ -1 ∧ W[j]? = some false ∧ ∃ t ∈ (G j).2.2, t.toNat = i
/-- Places that follow are told by numbers, and more is laid than nothing. -/
def Fine (G : Nat → Int × Int × List Int) (n : Nat) : Prop := ∀ i, i < n → 0 ≤ (G i).2.1 ∧ ∀ t ∈ (G i).2.2, 0 ≤ t
theorem good_step {G : Nat → Int × Int × List Int} {n : Nat} {D : List Int} {W : List Bool} (hF : Fine G n) (h : Gone G n D W) {i : Nat} (ho : openS W = some i)
    (he : (procS (G i) (D.getD i 0) D (W.set i false)).2.2 = 0) :
    Gone G n (procS (G i) (D.getD i 0) D (W.set i false)).1 (procS (G i) (D.getD i 0) D (W.set i false)).2.1 ∧
    muS n (procS (G i) (D.getD i 0) D (W.set i false)).1 (procS (G i) (D.getD i 0) D (W.set i false)).2.1 < muS n D W := by
  obtain ⟨hi, hwi, _⟩ := openS_some ho
  have hdl := h.dl
  have hwl := h.wl
  have hin : i < n := by omega
  have hid : i < D.length := by omega
  obtain ⟨hq, hts⟩ := hF i hin
  have hd0 : D[i]? = some D[i] := List.getElem?_eq_getElem hid
  have hg : D.getD i 0 = D[i] := by rw [List.getD_eq_getElem?_getD, hd0]; rfl
  have hwait := h.wait i (by rw [List.getElem?_eq_getElem hi, hwi])
  rw [hd0] at hwait
  have hdn : D[i] ≠ -1 := fun e => hwait (by rw [e])
  have hr := h.range i _ hd0
  rw [hg] at he ⊢
  generalize D[i] = d at *
  unfold procS at he ⊢
  split
  · rename_i hc
    rw [if_pos hc] at he
    cases he
  rename_i hc
  rw [if_neg hc] at he
  have hb : d - (G i).1 + (G i).2.1 ≠ -1 := by omega
  have hlen := @nexts_len (d - (G i).1 + (G i).2.1) (G i).2.2 D (W.set i false)
  have hgr := @nexts_grew (d - (G i).1 + (G i).2.1) (G i).2.2 D (W.set i false) (by simp; omega) hts
  have hok := @nexts_ok (d - (G i).1 + (G i).2.1) hb (G i).2.2 D (W.set i false) (by simp; omega) hts he
  have hWi : (W.set i false)[i]? = some false := by simp [hi]
  have hWj : ∀ j, i ≠ j → (W.set i false)[j]? = W[j]? := fun j hj => List.getElem?_set_ne hj
  generalize nextsS (d - (G i).1 + (G i).2.1) (G i).2.2 D (W.set i false) = R at *
  obtain ⟨D', W', e'⟩ := R
  simp only at *
  have hki := grew_keeps hgr hd0 hdn
  have hW'i : W'[i]? = some false := by rw [hki.2, hWi]
  constructor
  · refine ⟨by omega, by simp at hlen; omega, ?_, ?_, ?_, ?_, ?_⟩
    · exact (grew_keeps hgr h.zero (by omega)).1
    · intro j e hj
      rcases hgr j with ⟨h1, h2⟩ | ⟨h1, h2, _⟩
      · exact h.range j e (h1.symm.trans hj)
      · rw [hj] at h2
        have := Option.some.inj h2
        omega
    · intro j hj e
      rcases hgr j with ⟨h1, h2⟩ | ⟨h1, h2, _⟩
      · by_cases hij : i = j
        · subst hij
          rw [hW'i] at hj
          cases hj
        · exact h.wait j (by rw [← hWj j hij, ← h2, hj]) (h1.symm.trans e)
      · rw [e] at h2
        exact hb (Option.some.inj h2).symm
    · intro j e hj hne hw
      by_cases hij : i = j
      · subst hij
        rw [hki.1] at hj
        obtain rfl := Option.some.inj hj
        exact ⟨by omega, by omega, fun t ht => ⟨by have := (hok t ht).1; omega, (hok t ht).2⟩⟩
      · rcases hgr j with ⟨h1, h2⟩ | ⟨h1, h2, h3, _⟩
        · have hWW : W[j]? = some false := by rw [← hWj j hij, ← h2, hw]
          have hDD : D[j]? = some e := h1.symm.trans hj
          obtain ⟨g1, g2, g3⟩ := h.done j e hDD hne hWW
          have hjl : j < n := by
            obtain ⟨_, _⟩ := List.getElem?_eq_some_iff.1 hDD
            omega
          refine ⟨g1, g2, fun t ht => ⟨(g3 t ht).1, ?_⟩⟩
          refine (grew_keeps hgr (g3 t ht).2 ?_).1
          have := (hF j hjl).1
          have := h.range j e hDD
          omega
        · rw [hw] at h3
          cases h3
    · intro j e hj0 hj hne
      rcases hgr j with ⟨h1, h2⟩ | ⟨h1, h2, h3, t, ht, htj⟩
      · obtain ⟨k, ek, g1, g2, g3, g4⟩ := h.from_ j e hj0 (h1.symm.trans hj) hne
        have hik : i ≠ k := fun e => by
          subst e
          rw [List.getElem?_eq_getElem hi, hwi] at g3
          cases g3
        have hk := grew_keeps hgr g1 g2
        exact ⟨k, ek, hk.1, g2, by rw [hk.2, hWj k hik, g3], g4⟩
      · exact ⟨i, d, hki.1, hdn, hW'i, t, ht, htj⟩
  · unfold muS
    refine countP_lt (fun j _ hj => ?_) ⟨i, by simpa using hin, by simp [todoB, List.getElem?_eq_getElem hi, hwi], ?_⟩
    · simp only [todoB, Bool.or_eq_true, beq_iff_eq] at hj ⊢
      rcases hgr j with ⟨h1, h2⟩ | ⟨h1, h2, h3, _⟩
      · by_cases hij : i = j
        · subst hij
          rw [hki.1, hW'i] at hj
          rcases hj with hj | hj
          · exact absurd (Option.some.inj hj) hdn
          · cases hj
        · rw [h1, h2, hWj j hij] at hj
          exact hj
      · exact .inl h1
    · rw [todoB, hki.1, hW'i]
      simpa using hdn
theorem init_good (G : Nat → Int × Int × List Int) {n : Nat} (hn : 0 < n) : Gone G n (initD n) (initW n) := by
  have hD : ∀ i d, (initD n)[i]? = some d → (i = 0 ∧ d = 0) ∨ (0 < i ∧ d = -1) := by
    intro i d h
    cases i with
    | zero => exact .inl ⟨rfl, by simpa [initD] using h.symm⟩
    | succ i =>
      simp only [initD, List.getElem?_cons_succ, List.getElem?_replicate] at h
      split at h
      · exact .inr ⟨by omega, (Option.some.inj h).symm⟩
      · cases h
  have hW : ∀ i b, (initW n)[i]? = some b → (i = 0 ∧ b = true) ∨ (0 < i ∧ b = false) := by
    intro i d h
    cases i with
    | zero => exact .inl ⟨rfl, by simpa [initW] using h.symm⟩
    | succ i =>
      simp only [initW, List.getElem?_cons_succ, List.getElem?_replicate] at h
      split at h
      · exact .inr ⟨by omega, (Option.some.inj h).symm⟩
      · cases h
  refine ⟨by simp [initD]; omega, by simp [initW]; omega, rfl, ?_, ?_, ?_, ?_⟩
  · intro i d h
    rcases hD i d h with ⟨_, h⟩ | ⟨_, h⟩ <;> omega
  · intro i h e
    rcases hW i _ h with ⟨rfl, _⟩ | ⟨_, h⟩
    · simp [initD] at e
    · cases h
  · intro i d h hd hw
    rcases hD i d h with ⟨rfl, _⟩ | ⟨_, h⟩
    · rcases hW 0 _ hw with ⟨_, h⟩ | ⟨h, _⟩
      · cases h
      · omega
    · exact absurd h hd
  · intro i d h0 h hd
    rcases hD i d h with ⟨rfl, _⟩ | ⟨_, h⟩
    · omega
    · exact absurd h hd
theorem flow_good {G : Nat → Int × Int × List Int} {n : Nat} (hF : Fine G n) : ∀ (k : Nat) {D : List Int} {W : List Bool}, Gone G n D W → muS n D W ≤ k → (flowS G k D W).2.2 = 0 →
    ∃ W', Gone G n (flowS G k D W).1 W' ∧ ∀ x ∈ W', x = false
  | 0, D, W, h, hk, he => by
    refine ⟨W, h, fun x hx => ?_⟩
    obtain ⟨i, hi, rfl⟩ := List.mem_iff_getElem.1 hx
    rcases hw : W[i] with _ | _
    · rfl
    · have := mu_pos (D := D) (n := n) (by have := h.wl; omega) (show W[i]? = some true by rw [List.getElem?_eq_getElem hi, hw])
      omega
  | k + 1, D, W, h, hk, he => by
    unfold flowS at he ⊢
    cases ho : openS W with
    | none => exact ⟨W, h, openS_none ho⟩
    | some i =>
      rw [ho] at he
      simp only at he ⊢
      split
      · rename_i hp
        rw [if_pos hp] at he
        obtain ⟨h1, h2⟩ := good_step hF h ho hp
        exact flow_good hF k h1 (by omega) he
      · rename_i hp
        rw [if_neg hp] at he
        exact absurd he hp
/-- What is known of the depths of a function with which nothing is wrong. -/
structure Solved (G : Nat → Int × Int × List Int) (n : Nat) (D : List Int) : Prop where
  dl : D.length = n
  zero : D[0]? = some 0
  range : ∀ (i : Nat) (d : Int), D[i]? = some d → -1 ≤ d ∧ d ≤ 16
  done : ∀ (i : Nat) (d : Int), D[i]? = some d → d ≠ -1 → (G i).1 ≤ d ∧ d - (G i).1 + (G i).2.1 ≤ 16 ∧ ∀ t ∈ (G i).2.2, t < n ∧ D[t.toNat]? = some (d - (G i).1 + (G i).2.1)
  from_ : ∀ (i : Nat) (d : Int), 0 < i → D[i]? = some d → d ≠ -1 → ∃ (j : Nat) (e : Int), D[j]? = some e ∧ e ≠ -1 ∧ ∃ t ∈ (G j).2.2, t.toNat = i
theorem mu_le (n : Nat) (D : List Int) (W : List Bool) : muS n D W ≤ n := by
  unfold muS
  have := List.countP_le_length (l := List.range n) (p := todoB D W)
  simpa using this
theorem flow_solved {G : Nat → Int × Int × List Int} {n : Nat} (hF : Fine G n) (hn : 0 < n) (hn2 : n ≤ 201) (he : (flowS G 201 (initD n) (initW n)).2.2 = 0) : Solved G n (flowS G 201 (initD n) (initW n)).1 := by
  obtain ⟨W', h, hw⟩ := flow_good hF 201 (init_good G hn) (Nat.le_trans (mu_le _ _ _) hn2) he
  have hwi : ∀ i, i < n → W'[i]? = some false := fun i hi => by
    have hl := h.wl
    rw [List.getElem?_eq_getElem (by omega)]
    rw [hw _ (List.getElem_mem _)]
  have hlt : ∀ {i : Nat} {d : Int}, (flowS G 201 (initD n) (initW n)).1[i]? = some d → i < n := fun {i d} hd => by
    obtain ⟨_, _⟩ := List.getElem?_eq_some_iff.1 hd
    have := h.dl
    omega
  refine ⟨h.dl, h.zero, h.range, fun i d hd hne => h.done i d hd hne (hwi i (hlt hd)), fun i d h0 hd hne => ?_⟩
  obtain ⟨j, e, g1, g2, _, g4⟩ := h.from_ i d h0 hd hne
  exact ⟨j, e, g1, g2, g4⟩
theorem nexts_nil (b : Int) (D : List Int) (W : List Bool) : nextsS b [] D W = (D, W, 0) := rfl
theorem nexts_eq (b t : Int) (ts : List Int) (D : List Int) (W : List Bool) : nextsS b (t :: ts) D W = if (D.length : Int) ≤ t then (D, W, 81)
    else if D.getD t.toNat 0 = -1 then nextsS b ts (D.set t.toNat b) (W.set t.toNat true)
    else if D.getD t.toNat 0 = b then nextsS b ts D W else (D, W, 84) := rfl
theorem nexts_cons (b t : Int) (ts : List Int) (D : List Int) (V : List Bool) : nextsS b (t :: ts) D V = if (nextsS b [t] D V).2.2 = 0 then nextsS b ts (nextsS b [t] D V).1 (nextsS b [t] D V).2.1 else nextsS b [t] D V := by
  rw [nexts_eq, nexts_eq b t [], nexts_nil, nexts_nil]
  by_cases h1 : (D.length : Int) ≤ t
  · simp only [if_pos h1]; rfl
  · by_cases h2 : D.getD t.toNat 0 = -1
    · simp only [if_neg h1, if_pos h2]; rfl
    · by_cases h3 : D.getD t.toNat 0 = b
      · simp only [if_neg h1, if_neg h2, if_pos h3]; rfl
      · simp only [if_neg h1, if_neg h2, if_neg h3]; rfl
/-- What a walk may know of a function's instructions, one by one. -/
structure FunOk (p : List Fun) (f : Fun) : Prop where
  n1 : 0 < f.code.length
  n2 : f.code.length ≤ 200
  off : ∀ x ∈ f.code, 0 ≤ offI p x ∧ offI p x ≤ 16
  on : ∀ x ∈ f.code, 0 ≤ (rz x.1).q ∧ (rz x.1).q ≤ 2
  spawn : ∀ x ∈ f.code, x.1 = 13 → 0 ≤ x.2.1 ∧ x.2.1 < p.length
  next : ∀ (i : Nat) (hi : i < f.code.length), ∀ t ∈ nextI f.code[i] i, 0 ≤ t ∧ t ≤ f.code.length
theorem onq_bd : ∀ k, k < 17 → 0 ≤ (orow k).q ∧ (orow k).q ≤ 2 ∧ 0 ≤ (orow k).p ∧ (orow k).p ≤ 2 ∧ 0 ≤ (orow k).lo := by decide
theorem may_node {x : Int × Int × Int} (h : mayZ x.1 x.2.1 x.2.2 = true) : (0 ≤ (rz x.1).q ∧ (rz x.1).q ≤ 2) ∧ (0 ≤ (rz x.1).p ∧ (rz x.1).p ≤ 2) ∧ 0 ≤ x.2.1 := by
  obtain ⟨k, hk, he⟩ := may_in h
  have hb := onq_bd k hk
  have hr := rz_in hk
  rw [← he] at hr
  rw [hr]
  simp only [mayZ, Bool.and_eq_true, decide_eq_true_eq, hr] at h
  omega
theorem ar_ok {p : List Fun} (hm : ∀ f ∈ p, mayF f = true) (i : Int) : 0 ≤ arP p i ∧ arP p i ≤ 16 := by
  unfold arP
  split
  · rename_i f hf
    have := (headB_iff _ _ _).1 ((mayF_iff f).1 (hm f (List.mem_of_getElem? hf))).1
    omega
  · omega
theorem fields_ok {p : List Fun} {f : Fun} {x : Int × Int × Int} (h : fieldI p f x = 0) : ((x.1 = 1 ∨ x.1 = 2) → x.2.1 < f.lo) ∧ (x.1 = 14 → x.2.1 < f.sl) ∧ (x.1 = 13 → x.2.2 < f.sl ∧ x.2.1 < p.length) ∧ ((x.1 = 10 ∨ x.1 = 11) → x.2.1 < f.code.length) := by
  unfold fieldI at h
  split at h
  · cases h
  · split at h
    · cases h
    · omega
theorem fun_ok {p : List Fun} (hm : ∀ f ∈ p, mayF f = true) {f : Fun} (hf : mayF f = true) (he : ∀ x ∈ f.code, fieldI p f x = 0) : FunOk p f := by
  obtain ⟨h1, h2, h3, h4⟩ := (mayF_iff f).1 hf
  refine ⟨by omega, h3, fun x hx => ?_, fun x hx => (may_node (h4 x hx)).1, fun x hx ho => ?_, fun i hi t ht => ?_⟩
  · unfold offI
    split
    · exact ar_ok hm _
    · have := (may_node (h4 x hx)).2.1
      omega
  · exact ⟨(may_node (h4 x hx)).2.2, ((fields_ok (he x hx)).2.2.1 ho).2⟩
  · have hx : f.code[i] ∈ f.code := List.getElem_mem hi
    have hn := (may_node (h4 _ hx)).2.2
    have hj := (fields_ok (he _ hx)).2.2.2
    generalize f.code[i] = x at *
    unfold nextI at ht
    split at ht
    · simp only [List.mem_singleton] at ht
      subst ht
      have := hj (.inl (by assumption))
      omega
    · split at ht
      · simp at ht
      · split at ht
        · simp only [List.mem_cons, List.not_mem_nil, or_false] at ht
          have := hj (.inr (by assumption))
          omega
        · simp only [List.mem_singleton] at ht
          omega
theorem grF_at {p : List Fun} {c : List (Int × Int × Int)} {i : Nat} (hi : i < c.length) : grF p c i = nodeI p c[i] i := by
  unfold grF
  rw [List.getElem?_eq_getElem hi]
theorem FunOk.fine {p : List Fun} {f : Fun} (h : FunOk p f) : Fine (grF p f.code) f.code.length := fun i hi => by
  rw [grF_at hi]
  exact ⟨(h.on _ (List.getElem_mem hi)).1, fun t ht => (h.next i hi t ht).1⟩
end Go.Proofs.YtoeinpiekfmbgaaGreatDoor

/- The plain mathematics of layer 5: seeds. -/
namespace Go.Proofs.YtoeinpiekfmbgaaGreatDoor.Sdm
set_option linter.unusedVariables false
set_option linter.unusedSimpArgs false

def mulF (a m : Nat) : Nat := a * m % 4294967296
def shF (x k : Nat) : Nat := x ^^^ x / 2 ^ k
def mixN (s n : Nat) : Nat := shF (mulF (shF (mulF (shF (s ^^^ mulF ((n + 1) % 4294967296) 2654435761) 15) 2246822507) 15) 2246822507) 13
theorem mulF_lt (a m : Nat) : mulF a m < 4294967296 := Nat.mod_lt _ (by decide)
theorem shF_lt {x k : Nat} (h : x < 4294967296) : shF x k < 4294967296 := by
  unfold shF
  exact Nat.xor_lt_two_pow (n := 32) h (Nat.lt_of_le_of_lt (Nat.div_le_self _ _) h)
theorem mix_lt {s n : Nat} : mixN s n < 4294967296 := shF_lt (mulF_lt _ _)
end Go.Proofs.YtoeinpiekfmbgaaGreatDoor.Sdm

/- Layer 5's code: seeds, at every input. -/
namespace Go.Proofs.YtoeinpiekfmbgaaGreatDoor
set_option linter.unusedVariables false
set_option linter.unusedSimpArgs false
open Go.RowKit Go.ChangeShapes Go.WideShapes Go.ChangeAt Gm Sdm

/-- Whether a number is a seed. -/
def isZ (n : Int) : Bool := decide (0 ≤ n) && decide (n ≤ 4294967295)
/-- What a seed and a number are mixed into. -/
def mixZ (s n : Int) : Int := if isZ s = true ∧ isZ n = true then (mixN s.toNat n.toNat : Nat) else 0

set_option maxHeartbeats 1000000 in
theorem smay_any (n : Int) (w : World) : Calls Tryz.prog 134 #[.int .i64 n] w fun e w' => e = .returned (.bool (isZ n)) ∧ w = w' := by
  have hm : isZ n = (decide (0 ≤ n) && decide (n ≤ 4294967295)) := rfl
  have HM := Lib.hid hm
  clear hm
  go_enter Tryz.func134, Tryz.ntmps134
  go_wp2_with fail
  all_goals
    go_ret
    rw [HM.out]
    refine ⟨ret_bool ?_, rfl⟩
    rw [Bool.eq_iff_iff]
    simp
    omega

theorem isZ_nat {n : Nat} (h : n < 4294967296) : isZ n = true := by simp [isZ]; omega
theorem cs_may {n : Int} {b : Bool} (h : isZ n = b) : Cs Tryz.prog 134 #[.int .i64 n] (.bool b) := fun W => by have := smay_any n W; rwa [h] at this

/-- One round, and some. -/
def rnd (x : Nat) : Nat := mulF (shF x 15) 2246822507
def rndk : Nat → Nat → Nat
  | 0, x => x
  | k + 1, x => rnd (rndk k x)
def start (s n : Nat) : Nat := s ^^^ mulF ((n + 1) % 4294967296) 2654435761
theorem rndk_lt {k x : Nat} (h : x < 4294967296) : rndk k x < 4294967296 := by
  cases k with
  | zero => exact h
  | succ k => exact mulF_lt _ _
theorem mix_rnd (s n : Nat) : mixN s n = shF (rndk 2 (start s n)) 13 := rfl
theorem u32_start (s n : Nat) (hs : s < 4294967296) : bits .xor .u32 (s : Int) (((n : Int) + 1) % 4294967296 * 2654435761 % 4294967296) = (start s n : Nat) := by
  have e : ((n : Int) + 1) % 4294967296 * 2654435761 % 4294967296 = ((mulF ((n + 1) % 4294967296) 2654435761 : Nat) : Int) := by unfold mulF; omega
  rw [e, u32_xor_nat _ _ hs (mulF_lt _ _), start]
theorem u32_sh (x k : Nat) (hx : x < 4294967296) : bits .xor .u32 (x : Int) ((x : Int) / 2 ^ k) = (shF x k : Nat) := by
  have e : (x : Int) / 2 ^ k = ((x / 2 ^ k : Nat) : Int) := by simp
  rw [e, u32_xor_nat _ _ hx (Nat.lt_of_le_of_lt (Nat.div_le_self _ _) hx), shF]
theorem u32_rnd (x : Nat) (hx : x < 4294967296) : bits .xor .u32 (x : Int) ((x : Int) / 32768) * 2246822507 % 4294967296 = (rnd x : Nat) := by
  have := u32_sh x 15 hx
  rw [show (2 : Int) ^ 15 = 32768 from rfl] at this
  rw [this]; simp [rnd, mulF]
theorem i64_xor_nat (a b : Nat) (ha : a < 4294967296) (hb : b < 4294967296) : bits .xor .i64 (a : Int) (b : Int) = ((a ^^^ b : Nat) : Int) := by
  have hx : a ^^^ b < 2 ^ 32 := Nat.xor_lt_two_pow (by omega) (by omega)
  show IntKind.i64.wrap ((BitVec.ofInt 64 (a : Int) ^^^ BitVec.ofInt 64 (b : Int)).toNat : Int) = _
  have e : ∀ c : Nat, c < 4294967296 → (BitVec.ofInt 64 (c : Int)).toNat = c := fun c hc => by rw [BitVec.ofInt_natCast, BitVec.toNat_ofNat]; exact Nat.mod_eq_of_lt (by omega)
  rw [BitVec.toNat_xor, e a ha, e b hb]
  simp only [IntKind.wrap, IntKind.bits, IntKind.signed]
  simp
  omega
theorem i64_sh (x k : Nat) (hx : x < 4294967296) : bits .xor .i64 (x : Int) ((x : Int) / 2 ^ k) = (shF x k : Nat) := by
  have e : (x : Int) / 2 ^ k = ((x / 2 ^ k : Nat) : Int) := by simp
  rw [e, i64_xor_nat _ _ hx (Nat.lt_of_le_of_lt (Nat.div_le_self _ _) hx), shF]

set_option maxHeartbeats 1000000 in
set_option maxRecDepth 100000 in
theorem mix_in (s n : Nat) (w : World) (hs : s < 4294967296) (hn : n < 4294967296) : Calls Tryz.prog 135 #[.int .i64 s, .int .i64 n] w fun e w' => e = .returned (.int .i64 (mixN s n : Nat)) ∧ w = w' := by
  have C1 := cs_may (isZ_nat hs)
  have C2 := cs_may (isZ_nat hn)
  go_enter Tryz.func135, Tryz.ntmps135
  go_wp2_with (first
    | (go_at_call 134; (with_reducible refine (C1.go _).mono ?_); rintro e v ⟨rfl, rfl⟩)
    | (go_at_call 134; (with_reducible refine (C2.go _).mono ?_); rintro e v ⟨rfl, rfl⟩))
  go_loop [5, 21] (fun y i => ∃ k : Nat, k ≤ 2 ∧ i = .int .i64 k ∧ y = .int .u32 (rndk k (start s n) : Nat)) (fun _ i => 2 - (intOf i).toNat)
  case atStart => exact ⟨0, by omega, rfl, by rw [u32_start s n hs]; rfl⟩
  case round =>
    obtain ⟨k, hk, rfl, rfl⟩ := hrel
    have hx : rndk k (start s n) < 4294967296 := rndk_lt (Nat.xor_lt_two_pow (n := 32) hs (mulF_lt _ _))
    by_cases hlt : k < 2
    · have hr := u32_rnd _ hx
      have HR := Lib.hid hr
      clear hr
      go_wp2_with fail
      go_round
      case rel => exact ⟨k + 1, by omega, by go_num, by rw [HR.out]; rfl⟩
      case measure => simp [intOf]; omega
    · obtain rfl : k = 2 := by omega
      have hr := u32_sh _ 13 hx
      rw [← mix_rnd, show (2 : Int) ^ 13 = 8192 from rfl] at hr
      have HR := Lib.hid hr
      clear hr
      have hm : mixN s n < 4294967296 := mix_lt
      go_wp2_with fail
      go_ret
      refine ⟨ret_int ?_, rfl⟩
      rw [HR.out]
      unfold wrap64
      omega
theorem mix_out (s n : Int) (w : World) (h : (isZ s && isZ n) = false) : Calls Tryz.prog 135 #[.int .i64 s, .int .i64 n] w fun e w' => e = .returned (.int .i64 0) ∧ w = w' := by
  by_cases hs : isZ s = true
  · have hn : isZ n = false := by simpa [hs] using h
    have C1 := cs_may hs
    have C2 := cs_may hn
    clear h hs hn
    go_enter Tryz.func135, Tryz.ntmps135
    go_wp2_with (first
      | (go_at_call 134; (with_reducible refine (C1.go _).mono ?_); rintro e v ⟨rfl, rfl⟩)
      | (go_at_call 134; (with_reducible refine (C2.go _).mono ?_); rintro e v ⟨rfl, rfl⟩))
    go_ret
    exact ⟨rfl, rfl⟩
  · have hs : isZ s = false := by simpa using hs
    have C1 := cs_may hs
    clear h hs
    go_enter Tryz.func135, Tryz.ntmps135
    go_wp2_with (go_at_call 134; (with_reducible refine (C1.go _).mono ?_); rintro e v ⟨rfl, rfl⟩)
    go_ret
    exact ⟨rfl, rfl⟩
theorem isZ_of {n : Int} (h : isZ n = true) : ∃ m : Nat, n = m ∧ m < 4294967296 := by
  simp [isZ] at h
  exact ⟨n.toNat, by omega, by omega⟩
/-- Mix, at every input. -/
theorem mix_any (s n : Int) : Cs Tryz.prog 135 #[.int .i64 s, .int .i64 n] (.int .i64 (mixZ s n)) := fun w => by
  by_cases h : isZ s = true ∧ isZ n = true
  · obtain ⟨s, rfl, hs⟩ := isZ_of h.1
    obtain ⟨n, rfl, hn⟩ := isZ_of h.2
    have := mix_in s n w hs hn
    rwa [show ((mixN s n : Nat) : Int) = mixZ s n by rw [mixZ, if_pos h]; rfl] at this
  · have := mix_out s n w (by rw [Bool.eq_false_iff]; simpa using h)
    rwa [show (0 : Int) = mixZ s n by rw [mixZ, if_neg h]] at this

/-- What a seed and an index are used for. -/
def useZ (s u k : Int) : Int := if isZ s = true then mixZ (mixZ s u) k else 0
theorem use_any (s u k : Int) : Cs Tryz.prog 127 #[.int .i64 s, .int .i64 u, .int .i64 k] (.int .i64 (useZ s u k)) := fun w => by
  by_cases hs : isZ s = true
  · have C1 := cs_may hs
    have C2 := mix_any s u
    have C3 := mix_any (mixZ s u) k
    rw [useZ, if_pos hs]
    generalize mixZ (mixZ s u) k = y at *
    generalize mixZ s u = x at *
    clear hs
    go_enter Tryz.func127, Tryz.ntmps127
    go_wp2_with (first
      | (go_at_call 134; (with_reducible refine (C1.go _).mono ?_); rintro e v ⟨rfl, rfl⟩)
      | (go_at_call 135; (with_reducible refine (C2.go _).mono ?_); rintro e v ⟨rfl, rfl⟩)
      | (go_at_call 135; (with_reducible refine (C3.go _).mono ?_); rintro e v ⟨rfl, rfl⟩))
    go_ret
    exact ⟨rfl, rfl⟩
  · have hs : isZ s = false := by simpa using hs
    have C1 := cs_may hs
    rw [useZ, if_neg (by simp [hs])]
    clear hs
    go_enter Tryz.func127, Tryz.ntmps127
    go_wp2_with (go_at_call 134; (with_reducible refine (C1.go _).mono ?_); rintro e v ⟨rfl, rfl⟩)
    go_ret
    exact ⟨rfl, rfl⟩
theorem child_any (s k : Int) : Cs Tryz.prog 121 #[.int .i64 s, .int .i64 k] (.int .i64 (useZ s 1 k)) := fun w => by
  have C1 := use_any s 1 k
  generalize useZ s 1 k = x at *
  go_enter Tryz.func121, Tryz.ntmps121
  go_wp2_with (go_at_call 127; (with_reducible refine (C1.go _).mono ?_); rintro e v ⟨rfl, rfl⟩)
  go_ret
  exact ⟨rfl, rfl⟩

theorem mixZ_bd (s n : Int) : 0 ≤ mixZ s n ∧ mixZ s n ≤ 4294967295 := by
  unfold mixZ
  split
  · have := @mix_lt s.toNat n.toNat; omega
  · omega
theorem useZ_bd (s u k : Int) : 0 ≤ useZ s u k ∧ useZ s u k ≤ 4294967295 := by
  unfold useZ
  split
  · exact mixZ_bd _ _
  · omega
/-- What is drawn. -/
def drawZ (s k : Int) : Int × Int := (rs (useZ s 2 k), rs (useZ s 2 k / 65536))
theorem draw_any (s k : Int) : Ct Tryz.prog 126 #[.int .i64 s, .int .i64 k] (gv (drawZ s k).1 (drawZ s k).2) := fun w => by
  have C1 := use_any s 2 k
  have hb := useZ_bd s 2 k
  show Calls Tryz.prog 126 _ w fun e w' => e = .returned (gv (rs (useZ s 2 k)) (rs (useZ s 2 k / 65536))) ∧ _
  have C2 : Ct Tryz.prog 117 #[.int .i64 (useZ s 2 k), .int .i64 (useZ s 2 k / 65536)] (gv (rs (useZ s 2 k)) (rs (useZ s 2 k / 65536))) := fun W => gof_any _ _ W
  generalize rs (useZ s 2 k) = p at *
  generalize rs (useZ s 2 k / 65536) = q at *
  generalize useZ s 2 k = x at *
  obtain ⟨h0, h1⟩ := hb
  go_enter Tryz.func126, Tryz.ntmps126
  go_wp2_with (first
    | (go_at_call 127; (with_reducible refine (C1.go _).mono ?_); rintro e v ⟨rfl, rfl⟩)
    | (go_at_call 117; (with_reducible refine (C2.go _).mono ?_); rintro e v ⟨rfl, hb⟩; have hx := (Held.new w _ _).below hb; have hw := below_laid hb; clear hb; obtain ⟨c0, c1, f0, f1⟩ := hx.two))
  replace hx := hx.set (.int .i64 p) (.int .i64 q)
  replace hw := set2b (k := w.heap.size) (x := .int .i64 p) (y := .int .i64 q) (by omega) hw
  generalize (v.setCell _ _).setCell _ _ = W2 at hx hw ⊢
  obtain ⟨d0, d1, _, _⟩ := hx.two
  exact bodyPost_ret (v := gv p q) (by simp [results, Tryz.results126, go_sem, d0, d1]) rfl ⟨rfl, hw⟩
end Go.Proofs.YtoeinpiekfmbgaaGreatDoor

/- Layer 9, plain: frames, and what an instruction does with one. -/
namespace Go.Proofs.YtoeinpiekfmbgaaGreatDoor
set_option linter.unusedVariables false
set_option linter.unusedSimpArgs false
open Gm Go Go.RowKit

structure Slt where
  st : Int
  kat : Int
  kgn : Int
  tr : Int
  re : Int
  im : Int
/-- A frame. -/
structure Frm where
  fn : Int
  pc : Int
  stk : List V
  loc : List V
  slt : List Slt
  seed : Int
  spn : Int
  drw : Int
  st : Int
  wt : Int
  otr : Int
  ore : Int
  oim : Int
  uat : Int
  ugn : Int
  usl : Int
/-- What an instruction asks for. -/
structure ActP where
  kd : Int
  fn : Int
  sl : Int
  sd : Int
  ar : List V
def act0 : ActP := ⟨0, 0, 0, 0, []⟩
def actK (k : Int) : ActP := ⟨k, 0, 0, 0, []⟩
def slt0 : Slt := ⟨0, 0, 0, 0, 0, 0⟩
def frm0 : Frm := ⟨0, 0, [], [], [], 0, 0, 0, 0, 0, 0, 0, 0, 0, 0, 0⟩
def hasI (n : Nat) (i : Int) : Bool := decide (0 ≤ i) && decide (i < n)
def codeP (p : List Fun) (i : Int) : List (Int × Int × Int) := match p[i.toNat]? with
  | some f => f.code
  | none => []
def endF (f : Frm) (t : Int) (v : V) : Frm := { f with st := 2, otr := t, ore := v.1, oim := v.2 }
def goF (f : Frm) (n : Int) : Frm := { f with pc := n }
def pushF (f : Frm) (l : List V) : Frm := { f with stk := f.stk ++ l }
def popF (f : Frm) (n : Nat) : Frm := { f with stk := f.stk.take (f.stk.length - n) }
def topF (f : Frm) : V := f.stk.getD (f.stk.length - 1) (0, 0)
def lowF (f : Frm) : V := f.stk.getD (f.stk.length - 2) (0, 0)
def knowsF (p : List Fun) (f : Frm) (x : Int × Int × Int) : Bool :=
  if x.1 = 1 ∨ x.1 = 2 then hasI f.loc.length x.2.1 else if x.1 = 13 then hasI p.length x.2.1 && hasI f.slt.length x.2.2 else if x.1 = 14 then hasI f.slt.length x.2.1 else true
/-- The instruction at the place, or a trap. -/
def fetchF (p : List Fun) (f : Frm) : (Int × Int × Int) × Int :=
  if hasI (codeP p f.fn).length f.pc = true then
    (if mayZ ((codeP p f.fn).getD f.pc.toNat (0, 0, 0)).1 ((codeP p f.fn).getD f.pc.toNat (0, 0, 0)).2.1 ((codeP p f.fn).getD f.pc.toNat (0, 0, 0)).2.2 = true ∧ knowsF p f ((codeP p f.fn).getD f.pc.toNat (0, 0, 0)) = true
      then ((codeP p f.fn).getD f.pc.toNat (0, 0, 0), 0) else ((0, 0, 0), 4))
  else ((0, 0, 0), 4)
def depthF (p : List Fun) (f : Frm) (x : Int × Int × Int) : Int :=
  if offI p x < 0 ∨ (f.stk.length : Int) < offI p x then 3
  else if 0 < (rz x.1).q ∧ 16 < (f.stk.length : Int) - offI p x + (rz x.1).q then 3 else 0
def combF (o : Int) (a b : V) : V × Bool := if o = 3 then (gAdd a b, true) else if o = 4 then (gSub a b, true) else if o = 5 then (gMul a b, true) else (gQuo a b, decide (gNorm b ≠ 0))
def sltAt (f : Frm) (i : Int) : Slt := f.slt.getD i.toNat slt0
def spawnF (p : List Fun) (f : Frm) (fn sl : Int) : Frm × ActP × Int :=
  if (sltAt f sl).st ≠ 0 then (f, act0, 2)
  else ({ f with slt := f.slt.set sl.toNat { sltAt f sl with st := 1, kat := -1, kgn := 0 }, stk := f.stk.take (f.stk.length - (arP p fn).toNat), spn := wrap64 (f.spn + 1), pc := f.pc + 1 },
    ⟨2, fn, sl, useZ f.seed 1 f.spn, f.stk.drop (f.stk.length - (arP p fn).toNat)⟩, 0)
def joinF (f : Frm) (sl : Int) : Frm × ActP × Int :=
  if (sltAt f sl).st = 1 then ({ f with st := 1, wt := sl }, actK 3, 0)
  else if (sltAt f sl).st = 2 then
    (if (sltAt f sl).tr ≠ 0 then ({ f with slt := f.slt.set sl.toNat slt0 }, act0, (sltAt f sl).tr)
      else (goF (pushF { f with slt := f.slt.set sl.toNat slt0 } [((sltAt f sl).re, (sltAt f sl).im)]) (f.pc + 1), actK 1, 0))
  else (f, act0, 2)
def compF (f : Frm) (o : Int) : Frm × ActP × Int :=
  if (combF o (lowF f) (topF f)).2 = true then (goF (pushF (popF f 2) [(combF o (lowF f) (topF f)).1]) (f.pc + 1), actK 1, 0) else (f, act0, 1)
def moveF (f : Frm) (x : Int × Int × Int) : Frm :=
  if x.1 = 0 then pushF f [(rs x.2.1, rs x.2.2)]
  else if x.1 = 1 then pushF f [f.loc.getD x.2.1.toNat (0, 0)]
  else if x.1 = 2 then { popF f 1 with loc := f.loc.set x.2.1.toNat (topF f) }
  else if x.1 = 7 then pushF (popF f 1) [gConj (topF f)]
  else if x.1 = 8 then pushF (popF f 1) [topF f, topF f]
  else if x.1 = 9 then popF f 1
  else if x.1 = 12 then { pushF f [drawZ f.seed f.drw] with drw := wrap64 (f.drw + 1) }
  else f
def execF (p : List Fun) (f : Frm) (x : Int × Int × Int) : Frm × ActP × Int :=
  if x.1 = 16 then (f, act0, x.2.1)
  else if x.1 = 15 then (endF (popF f 1) 0 (topF f), actK 4, 0)
  else if x.1 = 13 then spawnF p f x.2.1 x.2.2
  else if x.1 = 14 then joinF f x.2.1
  else if x.1 = 3 ∨ x.1 = 4 ∨ x.1 = 5 ∨ x.1 = 6 then compF f x.1
  else if x.1 = 10 then (goF f x.2.1, actK 1, 0)
  else if x.1 = 11 then (if gOf (topF f) = (0, 0) then (goF (popF f 1) x.2.1, actK 1, 0) else (goF (popF f 1) (f.pc + 1), actK 1, 0))
  else (goF (moveF f x) (f.pc + 1), actK 1, 0)
/-- An instruction that can be executed wherever it stood. -/
def runF (p : List Fun) (f : Frm) : Frm × ActP :=
  if (fetchF p f).2 ≠ 0 then (endF f (fetchF p f).2 (0, 0), actK 4)
  else if depthF p f (fetchF p f).1 ≠ 0 then (endF f (depthF p f (fetchF p f).1) (0, 0), actK 4)
  else if (execF p f (fetchF p f).1).2.2 ≠ 0 then (endF (execF p f (fetchF p f).1).1 (execF p f (fetchF p f).1).2.2 (0, 0), actK 4)
  else ((execF p f (fetchF p f).1).1, (execF p f (fetchF p f).1).2.1)
def doF (p : List Fun) (f : Frm) : Frm × ActP := if f.st ≠ 0 ∨ hasI p.length f.fn = false then (f, act0) else runF p f
/-- A child's end is given. -/
def giveF (f : Frm) (sl t : Int) (v : V) : Frm × Bool :=
  if hasI f.slt.length sl = true ∧ (sltAt f sl).st = 1 then
    (if f.st = 1 ∧ f.wt = sl then { f with slt := f.slt.set sl.toNat ⟨2, -1, 0, t, v.1, v.2⟩, st := 0, wt := 0 } else { f with slt := f.slt.set sl.toNat ⟨2, -1, 0, t, v.1, v.2⟩ }, true)
  else (f, false)
/-- How a frame ends. -/
def finF (f : Frm) : Int × V × Bool :=
  if f.st ≠ 2 ∨ (f.slt.any fun s => s.st == 1) = true then (0, (0, 0), false)
  else if f.otr ≠ 0 then (f.otr, (f.ore, f.oim), true)
  else match f.slt.find? fun s => s.st == 2 && s.tr != 0 with
    | some s => (s.tr, (0, 0), true)
    | none => (0, (f.ore, f.oim), true)
def newF (p : List Fun) (fn : Int) (args : List V) (s : Int) : Frm × Bool :=
  if mayP p = true ∧ hasI p.length fn = true ∧ isZ s = true then
    (match p[fn.toNat]? with
      | some g => if g.ar ≤ g.lo ∧ g.ar = args.length ∧ (args.all fun v => mayB v.1 v.2) = true
          then (⟨fn, 0, [], args ++ List.replicate (g.lo.toNat - args.length) (0, 0), List.replicate g.sl.toNat slt0, s, 0, 0, 0, 0, 0, 0, 0, -1, 0, 0⟩, true) else (frm0, false)
      | none => (frm0, false))
  else (frm0, false)

/-- What an instruction leaves as it is. -/
structure Keeps (f g : Frm) (k : Int) : Prop where
  fn : g.fn = f.fn
  seed : g.seed = f.seed
  uat : g.uat = f.uat
  ugn : g.ugn = f.ugn
  usl : g.usl = f.usl
  loc : g.loc.length = f.loc.length
  slt : g.slt.length = f.slt.length
  spn : g.spn = f.spn ∨ (k = 2 ∧ g.spn = wrap64 (f.spn + 1))
  drw : g.drw = f.drw ∨ g.drw = wrap64 (f.drw + 1)
theorem Keeps.refl (f : Frm) (k : Int) : Keeps f f k := ⟨rfl, rfl, rfl, rfl, rfl, rfl, rfl, .inl rfl, .inl rfl⟩
/-- What holds of what an instruction leaves. -/
def ExK (f : Frm) (R : Frm × ActP × Int) : Prop := Keeps f R.1 R.2.1.kd ∧ (R.2.1.kd = 2 ∨ R.2.1.ar = []) ∧ (R.2.1.kd = 4 → R.1.st = 2) ∧ (R.2.2 ≠ 0 → R.2.1.kd ≠ 2)
theorem exk {f g : Frm} {a : ActP} {t : Int} (h : Keeps f g a.kd) (h1 : a.kd = 2 ∨ a.ar = []) (h2 : a.kd = 4 → g.st = 2) (h3 : t ≠ 0 → a.kd ≠ 2) : ExK f (g, a, t) := ⟨h, h1, h2, h3⟩
theorem move_keeps (f : Frm) (x : Int × Int × Int) : Keeps f (moveF f x) 1 := by
  unfold moveF
  repeat' split
  all_goals exact ⟨rfl, rfl, rfl, rfl, rfl, by simp [pushF, popF], rfl, .inl rfl, by first | exact .inl rfl | exact .inr rfl⟩
theorem exec_keeps (p : List Fun) (f : Frm) (x : Int × Int × Int) : ExK f (execF p f x) := by
  unfold execF
  split
  · exact exk (Keeps.refl f _) (.inr rfl) (by simp [act0]) (by simp [act0])
  split
  · exact exk ⟨rfl, rfl, rfl, rfl, rfl, rfl, rfl, .inl rfl, .inl rfl⟩ (.inr rfl) (fun _ => rfl) (by simp)
  split
  · unfold spawnF
    split
    · exact exk (Keeps.refl f _) (.inr rfl) (by simp [act0]) (by simp [act0])
    · exact exk ⟨rfl, rfl, rfl, rfl, rfl, rfl, by simp, .inr ⟨rfl, rfl⟩, .inl rfl⟩ (.inl rfl) (by simp) (by simp)
  split
  · unfold joinF
    split
    · exact exk ⟨rfl, rfl, rfl, rfl, rfl, rfl, rfl, .inl rfl, .inl rfl⟩ (.inr rfl) (by simp [actK]) (by simp)
    · split
      · split
        · exact exk ⟨rfl, rfl, rfl, rfl, rfl, rfl, by simp, .inl rfl, .inl rfl⟩ (.inr rfl) (by simp [act0]) (by simp [act0])
        · exact exk ⟨rfl, rfl, rfl, rfl, rfl, rfl, by simp [goF, pushF], .inl rfl, .inl rfl⟩ (.inr rfl) (by simp [actK]) (by simp)
      · exact exk (Keeps.refl f _) (.inr rfl) (by simp [act0]) (by simp [act0])
  split
  · unfold compF
    split
    · exact exk ⟨rfl, rfl, rfl, rfl, rfl, rfl, rfl, .inl rfl, .inl rfl⟩ (.inr rfl) (by simp [actK]) (by simp)
    · exact exk (Keeps.refl f _) (.inr rfl) (by simp [act0]) (by simp [act0])
  split
  · exact exk ⟨rfl, rfl, rfl, rfl, rfl, rfl, rfl, .inl rfl, .inl rfl⟩ (.inr rfl) (by simp [actK]) (by simp)
  split
  · split
    · exact exk ⟨rfl, rfl, rfl, rfl, rfl, rfl, rfl, .inl rfl, .inl rfl⟩ (.inr rfl) (by simp [actK]) (by simp)
    · exact exk ⟨rfl, rfl, rfl, rfl, rfl, rfl, rfl, .inl rfl, .inl rfl⟩ (.inr rfl) (by simp [actK]) (by simp)
  · have h := move_keeps f x
    exact exk ⟨h.fn, h.seed, h.uat, h.ugn, h.usl, h.loc, h.slt, h.spn, h.drw⟩ (.inr rfl) (by simp [actK]) (by simp)
theorem keeps_end {f g : Frm} {k : Int} (t : Int) (v : V) (h : Keeps f g k) (hk : k ≠ 2) : Keeps f (endF g t v) 4 :=
  ⟨h.fn, h.seed, h.uat, h.ugn, h.usl, h.loc, h.slt, .inl (h.spn.resolve_right fun e => hk e.1), h.drw⟩
theorem do_keeps (p : List Fun) (f : Frm) : Keeps f (doF p f).1 (doF p f).2.kd ∧ ((doF p f).2.kd = 2 ∨ (doF p f).2.ar = []) ∧ ((doF p f).2.kd = 4 → (doF p f).1.st = 2) := by
  unfold doF
  split
  · exact ⟨Keeps.refl _ _, .inr rfl, fun h => by simp [act0] at h⟩
  · unfold runF
    split
    · exact ⟨keeps_end _ _ (Keeps.refl f 0) (by decide), .inr rfl, fun _ => rfl⟩
    · split
      · exact ⟨keeps_end _ _ (Keeps.refl f 0) (by decide), .inr rfl, fun _ => rfl⟩
      · have h := exec_keeps p f (fetchF p f).1
        split
        · exact ⟨keeps_end _ _ h.1 (h.2.2.2 ‹_›), .inr rfl, fun _ => rfl⟩
        · exact ⟨h.1, h.2.1, h.2.2.1⟩
end Go.Proofs.YtoeinpiekfmbgaaGreatDoor

/- Layer 9, plain: lengths, and ends that are given in whatever order. -/
namespace Go.Proofs.YtoeinpiekfmbgaaGreatDoor
set_option linter.unusedVariables false
set_option linter.unusedSimpArgs false
open Gm Go Go.RowKit

theorem exec_len (p : List Fun) (f : Frm) (x : Int × Int × Int) : (execF p f x).1.stk.length ≤ f.stk.length + 2 ∧ (execF p f x).2.1.ar.length ≤ f.stk.length := by
  unfold execF
  split
  · simp [act0]
  split
  · simp [endF, popF, actK]; omega
  split
  · unfold spawnF
    split
    · simp [act0]
    · simp; omega
  split
  · unfold joinF
    split
    · simp [actK]
    · split
      · split
        · simp [act0]
        · simp [goF, pushF, actK]
      · simp [act0]
  split
  · unfold compF
    split
    · simp [goF, pushF, popF, actK]; omega
    · simp [act0]
  split
  · simp [goF, actK]
  split
  · split
    · simp [goF, popF, actK]; omega
    · simp [goF, popF, actK]; omega
  · have : (moveF f x).stk.length ≤ f.stk.length + 2 := by
      unfold moveF
      repeat' split
      all_goals simp [pushF, popF]
      all_goals omega
    exact ⟨this, by simp [actK]⟩
theorem do_len (p : List Fun) (f : Frm) : (doF p f).1.stk.length ≤ f.stk.length + 2 ∧ (doF p f).2.ar.length ≤ f.stk.length := by
  unfold doF
  split
  · simp [act0]
  · unfold runF
    split
    · simp [endF, actK]
    · split
      · simp [endF, actK]
      · have h := exec_len p f (fetchF p f).1
        split
        · exact ⟨h.1, by simp [actK]⟩
        · exact h
end Go.Proofs.YtoeinpiekfmbgaaGreatDoor

/- Layer 9, plain: the frames whose ways the document fixes. -/
namespace Go.Proofs.YtoeinpiekfmbgaaGreatDoor
set_option linter.unusedVariables false
set_option linter.unusedSimpArgs false
open Gm Go Go.RowKit

/-- The program of the fixed calls. -/
def p9 : List Fun := [⟨1, 1, 2, [(1, 0, 0), (13, 0, 1), (14, 1, 0), (14, 1, 0), (15, 0, 0)]⟩]
end Go.Proofs.YtoeinpiekfmbgaaGreatDoor

