/- Layer 8: CheckMore: functions behind those of a program with which nothing is wrong, that spawn nobody, and with which nothing is wrong, change nothing for these, nor for themselves. For all programs. -/
import Derived.Test.YtdbmpcdianjaaaaDoorzL8safe
import Derived.Test.YtdbmpcdianjaaaaDoorzPq
namespace Go.Proofs.YtdbmpcdianjaaaaDoor
set_option linter.unusedVariables false
set_option linter.unusedSimpArgs false
open Go.ChangeShapes Go.WideShapes Go.ChangeAt Go.RowKit Go.Sort
theorem gr_same {p p' : List Fun} {c : List (Int × Int × Int)} (h : ∀ x ∈ c, offI p x = offI p' x) : grF p c = grF p' c := by
  funext i
  unfold grF
  cases hx : c[i]? with
  | none => rfl
  | some x =>
    simp only
    unfold nodeI
    rw [h x (List.mem_of_getElem? hx)]
theorem flow_same {p p' : List Fun} {c : List (Int × Int × Int)} (h : ∀ x ∈ c, offI p x = offI p' x) : flowF p c = flowF p' c := by
  unfold flowF
  rw [gr_same h]
theorem first_same {p p' : List Fun} {f : Fun} : ∀ {l : List (Int × Int × Int)} {k : Int}, (∀ x ∈ l, fieldI p f x = fieldI p' f x) → firstI p f l k = firstI p' f l k
  | [], _, _ => rfl
  | x :: l, k, h => by
    rw [firstI_cons, firstI_cons, h x (by simp), first_same (fun y hy => h y (by simp [hy]))]
theorem fun_same {p p' : List Fun} {f : Fun} (h : ∀ x ∈ f.code, offI p x = offI p' x) (h2 : ∀ x ∈ f.code, fieldI p f x = fieldI p' f x) : funE p f = funE p' f := by
  unfold funE
  rw [flow_same h, first_same h2]
theorem off_app {p q : List Fun} {x : Int × Int × Int} (h : x.1 = 13 → 0 ≤ x.2.1 ∧ x.2.1 < p.length) : offI p x = offI (p ++ q) x := by
  unfold offI
  by_cases h1 : x.1 = 13
  · rw [if_pos h1, if_pos h1]
    obtain ⟨h2, h3⟩ := h h1
    unfold arP
    rw [List.getElem?_append_left (by omega)]
  · rw [if_neg h1, if_neg h1]
theorem off_none {p q : List Fun} {x : Int × Int × Int} (h : x.1 ≠ 13) : offI p x = offI q x := by
  unfold offI
  rw [if_neg h, if_neg h]
theorem field_app {p q : List Fun} {f : Fun} {x : Int × Int × Int} (h : fieldI p f x = 0) : fieldI p f x = fieldI (p ++ q) f x := by
  rw [h]
  obtain ⟨h1, h2, h3, h4⟩ := fields_ok h
  unfold fieldI
  rw [List.length_append]
  rw [if_neg, if_neg]
  · omega
  · rintro (⟨g1, g2⟩ | ⟨g1, g2⟩ | ⟨g1, g2⟩)
    · have := h1 g1; omega
    · have := h2 g1; omega
    · have := h3 g1; omega
theorem field_none2 {p q : List Fun} {f : Fun} {x : Int × Int × Int} (h : x.1 ≠ 13) : fieldI p f x = fieldI q f x := by
  unfold fieldI
  simp only [h, false_and, or_false]
/-- Two programs with which nothing is wrong, one behind the other, the second of which spawns nobody. -/
theorem more_ok {p q : List Fun} (hp : (checkP p).2.2 = 0) (hq : (checkP q).2.2 = 0) (hn : ∀ f ∈ q, ∀ x ∈ f.code, x.1 ≠ 13) (hl : p.length + q.length ≤ 16) :
    (checkP (p ++ q)).2.2 = 0 ∧ (∀ k, k < p.length → depthsP (p ++ q) k = depthsP p k) ∧ ∀ k, k < q.length → depthsP (p ++ q) ((p.length + k : Nat) : Int) = depthsP q k := by
  obtain ⟨mp, fp⟩ := check_facts hp
  obtain ⟨mq, fq⟩ := check_facts hq
  obtain ⟨p1, p2, p3⟩ := (mayP_iff p).1 mp
  obtain ⟨q1, q2, q3⟩ := (mayP_iff q).1 mq
  have hm : mayP (p ++ q) = true := (mayP_iff _).2 ⟨by rw [List.length_append]; omega, by rw [List.length_append]; omega, fun f hf => (List.mem_append.1 hf).elim (p3 f) (q3 f)⟩
  have hoff : ∀ f ∈ p, ∀ x ∈ f.code, offI p x = offI (p ++ q) x := fun f hf x hx => off_app ((check_ok hp hf).spawn x hx)
  have hall : ∀ f ∈ p ++ q, (funE (p ++ q) f).2 = 0 := by
    intro f hf
    rcases List.mem_append.1 hf with hf | hf
    · rw [← fun_same (hoff f hf) (fun x hx => field_app ((fun_facts (fp f hf)).2.1 x hx))]
      exact fp f hf
    · rw [fun_same (p := p ++ q) (p' := q) (fun x hx => off_none (hn f hf x hx)) (fun x hx => field_none2 (hn f hf x hx))]
      exact fq f hf
  have hc := check_all hm hall
  have hc2 : (checkP (p ++ q)).2.2 = 0 := by rw [hc]
  refine ⟨hc2, fun k hk => ?_, fun k hk => ?_⟩
  · have hk2 : k < (p ++ q).length := by rw [List.length_append]; omega
    rw [depths_at hc2 hk2, depths_at hp hk, List.getElem_append_left hk, ← flow_same (hoff _ (List.getElem_mem hk))]
  · have hk2 : p.length + k < (p ++ q).length := by rw [List.length_append]; omega
    rw [depths_at hc2 hk2, depths_at hq hk]
    have : (p ++ q)[p.length + k] = q[k] := by
      rw [List.getElem_append_right (by omega)]
      congr 1
      omega
    rw [this, flow_same (p := p ++ q) (p' := q) (fun x hx => off_none (hn _ (List.getElem_mem hk) x hx))]
end Go.Proofs.YtdbmpcdianjaaaaDoor
namespace Go.Proofs.YtdbmpcdianjaaaaDoor.checkMore
open Go.ChangeShapes Go.WideShapes Go.ChangeAt Go.RowKit Go.Sort

set_option maxHeartbeats 4000000 in
set_option maxRecDepth 100000 in
theorem out {A A' : Option Addr} {p q : List Fun} (c c' : Nat) (w : World) (hT : Otab w) (ha : ProgAt w w.heap.size A p) (hz : SizedP p) (hb : ProgAt w w.heap.size A' q) (hy : SizedP q) (h : smallP p 150 = false ∨ smallP q 150 = false ∨ ((checkP p).2.2 == 0) = false ∨ ((checkP q).2.2 == 0) = false ∨ 16 < p.length + q.length) :
    Calls Tryd.prog 6 #[.slice A p.length c, .slice A' q.length c'] w fun e w' => e = .returned (.bool true) ∧ Below w.heap.size w w' := by
  have hw : Below w.heap.size w w := Below.refl _ _
  have S1 := fun W (h : ProgAt W W.heap.size A p) => Lib.hid (psmall_any c 150 W h)
  have S2 := fun W (h : ProgAt W W.heap.size A' q) => Lib.hid (psmall_any c' 150 W h)
  have G1 := fun W (h : ProgAt W W.heap.size A p) => Lib.hid (rgood_any c W h hz (Nat.le_refl _))
  have G2 := fun W (h : ProgAt W W.heap.size A' q) => Lib.hid (rgood_any c' W h hy (Nat.le_refl _))
  have HA := Lib.hid ha
  have HB := Lib.hid hb
  have hlp : ((checkP p).2.2 == 0) = true → p.length ≤ 16 := fun h => ((mayP_iff p).1 (check_facts (by simpa using h)).1).2.1
  have hlq : ((checkP q).2.2 == 0) = true → q.length ≤ 16 := fun h => ((mayP_iff q).1 (check_facts (by simpa using h)).1).2.1
  clear ha hb hz hy
  generalize smallP p 150 = b1 at *
  generalize smallP q 150 = b2 at *
  generalize ((checkP p).2.2 == 0) = b3 at *
  generalize ((checkP q).2.2 == 0) = b4 at *
  cases b1
  · clear h hlp hlq
    go_enter Tryd.func6, Tryd.ntmps6
    go_wp2_with (first
      | (go_at_call 10; (with_reducible refine (fixed8 _ hT).mono ?_); rintro e v ⟨rfl, hb⟩; replace HA := Lib.hid ((HA.out.below hb (Nat.le_refl _)).more hb.size); replace HB := Lib.hid ((HB.out.below hb (Nat.le_refl _)).more hb.size); replace hT := hT.below hb; replace hw := Below.step hw hb; clear hb)
      | (go_at_call 9; (with_reducible refine (S1 _ HA.out).out.mono ?_); rintro e v ⟨rfl, rfl⟩)
      | (go_at_call 9; (with_reducible refine (S2 _ HB.out).out.mono ?_); rintro e v ⟨rfl, rfl⟩)
      | (go_at_call 19; (with_reducible refine (G1 _ HA.out).out.mono ?_); rintro e v ⟨rfl, hb⟩; replace HA := Lib.hid ((HA.out.below hb (Nat.le_refl _)).more hb.size); replace HB := Lib.hid ((HB.out.below hb (Nat.le_refl _)).more hb.size); replace hT := hT.below hb; replace hw := Below.step hw hb; clear hb)
      | (go_at_call 19; (with_reducible refine (G2 _ HB.out).out.mono ?_); rintro e v ⟨rfl, hb⟩; replace HA := Lib.hid ((HA.out.below hb (Nat.le_refl _)).more hb.size); replace HB := Lib.hid ((HB.out.below hb (Nat.le_refl _)).more hb.size); replace hT := hT.below hb; replace hw := Below.step hw hb; clear hb))
    go_ret
    exact ⟨rfl, hw⟩
  cases b2
  · clear h hlp hlq
    go_enter Tryd.func6, Tryd.ntmps6
    go_wp2_with (first
      | (go_at_call 10; (with_reducible refine (fixed8 _ hT).mono ?_); rintro e v ⟨rfl, hb⟩; replace HA := Lib.hid ((HA.out.below hb (Nat.le_refl _)).more hb.size); replace HB := Lib.hid ((HB.out.below hb (Nat.le_refl _)).more hb.size); replace hT := hT.below hb; replace hw := Below.step hw hb; clear hb)
      | (go_at_call 9; (with_reducible refine (S1 _ HA.out).out.mono ?_); rintro e v ⟨rfl, rfl⟩)
      | (go_at_call 9; (with_reducible refine (S2 _ HB.out).out.mono ?_); rintro e v ⟨rfl, rfl⟩)
      | (go_at_call 19; (with_reducible refine (G1 _ HA.out).out.mono ?_); rintro e v ⟨rfl, hb⟩; replace HA := Lib.hid ((HA.out.below hb (Nat.le_refl _)).more hb.size); replace HB := Lib.hid ((HB.out.below hb (Nat.le_refl _)).more hb.size); replace hT := hT.below hb; replace hw := Below.step hw hb; clear hb)
      | (go_at_call 19; (with_reducible refine (G2 _ HB.out).out.mono ?_); rintro e v ⟨rfl, hb⟩; replace HA := Lib.hid ((HA.out.below hb (Nat.le_refl _)).more hb.size); replace HB := Lib.hid ((HB.out.below hb (Nat.le_refl _)).more hb.size); replace hT := hT.below hb; replace hw := Below.step hw hb; clear hb))
    go_ret
    exact ⟨rfl, hw⟩
  cases b3
  · clear h hlp hlq
    go_enter Tryd.func6, Tryd.ntmps6
    go_wp2_with (first
      | (go_at_call 10; (with_reducible refine (fixed8 _ hT).mono ?_); rintro e v ⟨rfl, hb⟩; replace HA := Lib.hid ((HA.out.below hb (Nat.le_refl _)).more hb.size); replace HB := Lib.hid ((HB.out.below hb (Nat.le_refl _)).more hb.size); replace hT := hT.below hb; replace hw := Below.step hw hb; clear hb)
      | (go_at_call 9; (with_reducible refine (S1 _ HA.out).out.mono ?_); rintro e v ⟨rfl, rfl⟩)
      | (go_at_call 9; (with_reducible refine (S2 _ HB.out).out.mono ?_); rintro e v ⟨rfl, rfl⟩)
      | (go_at_call 19; (with_reducible refine (G1 _ HA.out).out.mono ?_); rintro e v ⟨rfl, hb⟩; replace HA := Lib.hid ((HA.out.below hb (Nat.le_refl _)).more hb.size); replace HB := Lib.hid ((HB.out.below hb (Nat.le_refl _)).more hb.size); replace hT := hT.below hb; replace hw := Below.step hw hb; clear hb)
      | (go_at_call 19; (with_reducible refine (G2 _ HB.out).out.mono ?_); rintro e v ⟨rfl, hb⟩; replace HA := Lib.hid ((HA.out.below hb (Nat.le_refl _)).more hb.size); replace HB := Lib.hid ((HB.out.below hb (Nat.le_refl _)).more hb.size); replace hT := hT.below hb; replace hw := Below.step hw hb; clear hb))
    go_ret
    exact ⟨rfl, hw⟩
  cases b4
  · clear h hlp hlq
    go_enter Tryd.func6, Tryd.ntmps6
    go_wp2_with (first
      | (go_at_call 10; (with_reducible refine (fixed8 _ hT).mono ?_); rintro e v ⟨rfl, hb⟩; replace HA := Lib.hid ((HA.out.below hb (Nat.le_refl _)).more hb.size); replace HB := Lib.hid ((HB.out.below hb (Nat.le_refl _)).more hb.size); replace hT := hT.below hb; replace hw := Below.step hw hb; clear hb)
      | (go_at_call 9; (with_reducible refine (S1 _ HA.out).out.mono ?_); rintro e v ⟨rfl, rfl⟩)
      | (go_at_call 9; (with_reducible refine (S2 _ HB.out).out.mono ?_); rintro e v ⟨rfl, rfl⟩)
      | (go_at_call 19; (with_reducible refine (G1 _ HA.out).out.mono ?_); rintro e v ⟨rfl, hb⟩; replace HA := Lib.hid ((HA.out.below hb (Nat.le_refl _)).more hb.size); replace HB := Lib.hid ((HB.out.below hb (Nat.le_refl _)).more hb.size); replace hT := hT.below hb; replace hw := Below.step hw hb; clear hb)
      | (go_at_call 19; (with_reducible refine (G2 _ HB.out).out.mono ?_); rintro e v ⟨rfl, hb⟩; replace HA := Lib.hid ((HA.out.below hb (Nat.le_refl _)).more hb.size); replace HB := Lib.hid ((HB.out.below hb (Nat.le_refl _)).more hb.size); replace hT := hT.below hb; replace hw := Below.step hw hb; clear hb))
    go_ret
    exact ⟨rfl, hw⟩
  · have h5 : 16 < p.length + q.length := by simpa using h
    have h6 : (16 : Int) < (p.length : Int) + (q.length : Int) := by omega
    have h7 := hlp rfl
    have h8 := hlq rfl
    clear h hlp hlq
    go_enter Tryd.func6, Tryd.ntmps6
    go_wp2_with (first
      | (go_at_call 10; (with_reducible refine (fixed8 _ hT).mono ?_); rintro e v ⟨rfl, hb⟩; replace HA := Lib.hid ((HA.out.below hb (Nat.le_refl _)).more hb.size); replace HB := Lib.hid ((HB.out.below hb (Nat.le_refl _)).more hb.size); replace hT := hT.below hb; replace hw := Below.step hw hb; clear hb)
      | (go_at_call 9; (with_reducible refine (S1 _ HA.out).out.mono ?_); rintro e v ⟨rfl, rfl⟩)
      | (go_at_call 9; (with_reducible refine (S2 _ HB.out).out.mono ?_); rintro e v ⟨rfl, rfl⟩)
      | (go_at_call 19; (with_reducible refine (G1 _ HA.out).out.mono ?_); rintro e v ⟨rfl, hb⟩; replace HA := Lib.hid ((HA.out.below hb (Nat.le_refl _)).more hb.size); replace HB := Lib.hid ((HB.out.below hb (Nat.le_refl _)).more hb.size); replace hT := hT.below hb; replace hw := Below.step hw hb; clear hb)
      | (go_at_call 19; (with_reducible refine (G2 _ HB.out).out.mono ?_); rintro e v ⟨rfl, hb⟩; replace HA := Lib.hid ((HA.out.below hb (Nat.le_refl _)).more hb.size); replace HB := Lib.hid ((HB.out.below hb (Nat.le_refl _)).more hb.size); replace hT := hT.below hb; replace hw := Below.step hw hb; clear hb))
    go_ret
    exact ⟨rfl, hw⟩

set_option maxHeartbeats 4000000 in
set_option maxRecDepth 100000 in
theorem good {A A' : Option Addr} {p q : List Fun} (c c' : Nat) (w : World) (hT : Otab w) (ha : ProgAt w w.heap.size A p) (hz : SizedP p) (hb : ProgAt w w.heap.size A' q) (hy : SizedP q) (h1 : smallP p 150 = true) (h2 : smallP q 150 = true) (h3 : (checkP p).2.2 = 0) (h4 : (checkP q).2.2 = 0) (h5 : p.length + q.length ≤ 16) :
    Calls Tryd.prog 6 #[.slice A p.length c, .slice A' q.length c'] w fun e w' => e = .returned (.bool true) ∧ Below w.heap.size w w' := by
  have hw : Below w.heap.size w w := Below.refl _ _
  have S1 := fun W (h : ProgAt W W.heap.size A p) => Lib.hid (psmall_any c 150 W h)
  have S2 := fun W (h : ProgAt W W.heap.size A' q) => Lib.hid (psmall_any c' 150 W h)
  have G1 := fun W (h : ProgAt W W.heap.size A p) => Lib.hid (rgood_any c W h hz (Nat.le_refl _))
  have G2 := fun W (h : ProgAt W W.heap.size A' q) => Lib.hid (rgood_any c' W h hy (Nat.le_refl _))
  have HA := Lib.hid ha
  have HB := Lib.hid hb
  have hgp : ((checkP p).2.2 == 0) = true := by simpa using h3
  have hgq : ((checkP q).2.2 == 0) = true := by simpa using h4
  rw [h1] at S1
  rw [h2] at S2
  rw [hgp] at G1
  rw [hgq] at G2
  obtain ⟨mp, _⟩ := check_facts h3
  obtain ⟨mq, _⟩ := check_facts h4
  have hp1 := ((mayP_iff p).1 mp).1
  have hq1 := ((mayP_iff q).1 mq).1
  have HMO := Lib.hid (fun hn => more_ok h3 h4 hn h5)
  have hp6 : (p.length : Int) + (q.length : Int) ≤ 16 := by omega
  have hszb : SizedP (p ++ q) := ⟨by rw [List.length_append]; unfold maxLen; omega, fun f hf => (List.mem_append.1 hf).elim (hz.2 f) (hy.2 f)⟩
  have hra : (p ++ q).length = p.length + q.length := List.length_append
  generalize hr : p ++ q = r at *
  have HR := Lib.hid hr
  have HDL := Lib.hid (fun i => checkTells.depths_len r i)
  have hrl : r.length ≤ 16 := by omega
  have HRA := Lib.hid hra
  clear hra
  have HMQ := Lib.hid mq
  clear ha hb hr hgp hgq mp mq h1 h2
  go_enter Tryd.func6, Tryd.ntmps6
  go_wp2_with (first
      | (go_at_call 10; (with_reducible refine (fixed8 _ hT).mono ?_); rintro e v ⟨rfl, hb⟩; replace HA := Lib.hid ((HA.out.below hb (Nat.le_refl _)).more hb.size); replace HB := Lib.hid ((HB.out.below hb (Nat.le_refl _)).more hb.size); replace hT := hT.below hb; replace hw := Below.step hw hb; clear hb)
      | (go_at_call 9; (with_reducible refine (S1 _ HA.out).out.mono ?_); rintro e v ⟨rfl, rfl⟩)
      | (go_at_call 9; (with_reducible refine (S2 _ HB.out).out.mono ?_); rintro e v ⟨rfl, rfl⟩)
      | (go_at_call 19; (with_reducible refine (G1 _ HA.out).out.mono ?_); rintro e v ⟨rfl, hb⟩; replace HA := Lib.hid ((HA.out.below hb (Nat.le_refl _)).more hb.size); replace HB := Lib.hid ((HB.out.below hb (Nat.le_refl _)).more hb.size); replace hT := hT.below hb; replace hw := Below.step hw hb; clear hb)
      | (go_at_call 19; (with_reducible refine (G2 _ HB.out).out.mono ?_); rintro e v ⟨rfl, hb⟩; replace HA := Lib.hid ((HA.out.below hb (Nat.le_refl _)).more hb.size); replace HB := Lib.hid ((HB.out.below hb (Nat.le_refl _)).more hb.size); replace hT := hT.below hb; replace hw := Below.step hw hb; clear hb)
      | (at_builtin; refine wpList_append_prog _ Tryd.underlying23 rfl _ _ rfl _ _ [] rfl (OwnQ.made _) rfl (HA.out.below ((Below.refl _ _).alloc (Nat.le_refl _) _) (Nat.le_refl _)) hp1 (by simp; omega) (by simp) ?_; intro v1 u1 l1 e1 ho1 hb1; replace hb1 := Below.trans ((Below.refl _ _).alloc (Nat.le_refl _) _) hb1; have HO1 := Lib.hid ho1; clear ho1)
      | (at_builtin; refine wpList_append_prog _ Tryd.underlying23 rfl _ _ rfl _ _ _ rfl HO1.out rfl (HB.out.below hb1 (Nat.le_refl _)) hq1 (both_len e1 (by omega)) hb1.size ?_; intro v2 u2 l2 e2 ho2 hb2; obtain ⟨A3, c3, rfl, hp3⟩ := both_prog HR.out e1 e2 ho2 (Nat.le_trans hb1.size hb2.size); clear ho2 HO1; replace hb := Below.trans hb1 hb2; clear hb1 hb2; have HP := Lib.hid hp3; clear hp3; replace HA := Lib.hid ((HA.out.below hb (Nat.le_refl _)).more hb.size); replace HB := Lib.hid ((HB.out.below hb (Nat.le_refl _)).more hb.size); replace hT := hT.below hb; replace hw := Below.step hw hb; clear hb))
  go_loop [6, 7] (fun iv _ => ∃ i : Nat, iv = .int .i64 i ∧ i ≤ q.length ∧ ∀ f ∈ q.take i, ∀ x ∈ f.code, x.1 ≠ 13) (fun iv _ => q.length - (intOf iv).toNat)
  case atStart => exact ⟨0, rfl, by omega, by simp⟩
  case round =>
    obtain ⟨i, rfl, hi, hall⟩ := hrel
    by_cases hlt : i < q.length
    · obtain ⟨qb, qo, rfl, hqb, hqc⟩ := HB.out (by omega)
      obtain ⟨_, _, _, Ac, cc, q3, hcode⟩ := hqc i hlt
      have htk : q.take (i + 1) = q.take i ++ [q[i]] := List.take_succ_eq_append_getElem hlt
      have hfl := ((mayF_iff _).1 (((mayP_iff q).1 HMQ.out).2.2 _ (List.getElem_mem hlt))).2.2.1
      have HQ := Lib.hid hall
      have HTK := Lib.hid htk
      generalize q[i] = f at *
      have HCO := Lib.hid hcode
      clear hqc hall htk hcode
      have hfi : (f.code.length : Int) ≤ 200 := by omega
      go_wp2_with fail
      go_loop [7] (fun kv => ∃ k : Nat, kv = .int .i64 k ∧ k ≤ f.code.length ∧ ∀ x ∈ f.code.take k, x.1 ≠ 13) (fun kv => f.code.length - (intOf kv).toNat)
      case atStart => exact ⟨0, rfl, by omega, by simp⟩
      case round =>
        obtain ⟨k, rfl, hk, hck⟩ := hrel
        by_cases hkl : k < f.code.length
        · obtain ⟨cb, co, rfl, _, hcc⟩ := HCO.out (by omega)
          obtain ⟨a0, _, _⟩ := hcc k hkl
          have hck2 : f.code.take (k + 1) = f.code.take k ++ [f.code[k]] := List.take_succ_eq_append_getElem hkl
          have HCK := Lib.hid hck
          have HC2 := Lib.hid hck2
          generalize f.code[k] = x at *
          clear hcc hck hck2
          by_cases hx : x.1 = 13
          · rw [hx] at a0
            clear hx
            go_wp2_with fail
            go_ret
            exact ⟨rfl, hw⟩
          · have hxe : (x.1 == 13) = false := by simpa using hx
            have HXX := Lib.hid hx
            clear hx
            generalize x.1 = xo at a0 hxe
            go_wp2_with fail
            go_round
            case rel =>
              refine ⟨k + 1, by go_num, by omega, fun y hy => ?_⟩
              rw [HC2.out] at hy
              rcases List.mem_append.1 hy with hy | hy
              · exact HCK.out y hy
              · simp only [List.mem_singleton] at hy
                subst hy
                exact HXX.out
            case measure => simp [intOf]; omega
        · obtain rfl : k = f.code.length := by omega
          rw [List.take_length] at hck
          have HCK := Lib.hid hck
          clear hck
          go_wp2_with fail
          go_round
          case rel =>
            refine ⟨i + 1, by go_num, by omega, fun y hy => ?_⟩
            rw [HTK.out] at hy
            rcases List.mem_append.1 hy with hy | hy
            · exact HQ.out y hy
            · simp only [List.mem_singleton] at hy
              subst hy
              exact HCK.out
          case measure => simp [intOf]; omega
    · obtain rfl : i = q.length := by omega
      rw [List.take_length] at hall
      obtain ⟨hm1, hm2, hm3⟩ := HMO.out hall
      have CB := Lib.hid (check_any c3 _ hT HP.out hszb (Nat.le_refl _))
      have HM2 := Lib.hid hm2
      have HM3 := Lib.hid hm3
      generalize checkP r = R at *
      obtain ⟨r1, r2, r3⟩ := R
      simp only at hm1 CB
      subst hm1
      clear hall hm2 hm3
      go_wp2_with (go_at_call 11; (with_reducible refine CB.out.mono ?_); rintro _ U ⟨rfl, hb⟩)
      have HPU := Lib.hid ((HP.out.below hb (Nat.le_refl _)).more hb.size)
      have HAU := Lib.hid ((HA.out.below hb (Nat.le_refl _)).more hb.size)
      have HBU := Lib.hid ((HB.out.below hb (Nat.le_refl _)).more hb.size)
      have HTU := Lib.hid (hT.below hb)
      have HWU := Lib.hid (Below.step hw hb)
      clear CB hb hw hT
      go_loopw [11, 12] (fun iv _ W => ∃ i : Nat, iv = .int .i64 i ∧ i ≤ r.length ∧ Below U.heap.size U W) (fun iv _ _ => r.length - (intOf iv).toNat)
      case atStart => exact ⟨0, rfl, by omega, Below.refl _ _⟩
      case round =>
        obtain ⟨i, rfl, hi, hw⟩ := hrel
        have HWi := Lib.hid hw
        clear hw
        by_cases hil : i < r.length
        · have DR := fun W (hb : Below U.heap.size U W) => Lib.hid (depths_any c3 i W (HTU.out.below hb) (HPU.out.below hb (Nat.le_refl _)) hszb hb.size)
          have DQ := fun n W (hb : Below U.heap.size U W) => Lib.hid (depths_any c' n W (HTU.out.below hb) (HBU.out.below hb (Nat.le_refl _)) hy hb.size)
          have DP := fun W (hb : Below U.heap.size U W) => Lib.hid (depths_any c i W (HTU.out.below hb) (HAU.out.below hb (Nat.le_refl _)) hz hb.size)
          by_cases hip : i < p.length
          · have he := HM2.out i hip
            have hdr := HDL.out i
            rw [he] at DR hdr
            generalize depthsP p i = D at *
            have HD1 := Lib.hid hdr
            clear he hdr
            go_wp2_with (first
              | (go_at_call 14; (with_reducible refine (DQ _ _ HWi.out).out.mono ?_); rintro _ W1 ⟨x1, rfl, hL1, hb1⟩; have HW1 := Lib.hid (HWi.out.trans (hb1.mono HWi.out.size)); clear hb1 hL1)
              | (go_at_call 14; (with_reducible refine (DP _ HW1.out).out.mono ?_); rintro _ W2 ⟨x2, rfl, hL2, hb2⟩; have HW2 := Lib.hid (HW1.out.trans (hb2.mono HW1.out.size)); clear hb2)
              | (go_at_call 14; (with_reducible refine (DR _ HW2.out).out.mono ?_); rintro _ W3 ⟨x3, rfl, hL3, hb3⟩; have HW3 := Lib.hid (HW2.out.trans (hb3.mono HW2.out.size)); have hL2' := hL2.below hb3; clear hb3 hL2)
              | (go_at_call 13; (refine (ints_any _ hL3 hL2' HD1.out).mono ?_); rintro _ W4 ⟨rfl, hb4⟩; have HW4 := Lib.hid (HW3.out.trans (hb4.mono HW3.out.size)); clear hb4))
            go_roundw
            case rel => exact ⟨i + 1, by go_num, by omega, HW4.out⟩
            case measure => simp [intOf]; omega
          · have hrl2 := HRA.out
            have he := HM3.out (i - p.length) (by omega)
            rw [show p.length + (i - p.length) = i by omega, show ((i - p.length : Nat) : Int) = (i : Int) - (p.length : Int) by omega] at he
            have DQ1 := DQ ((i : Int) - (p.length : Int))
            have hdr := HDL.out i
            rw [he] at DR hdr
            generalize depthsP q ((i : Int) - (p.length : Int)) = D at *
            have HD1 := Lib.hid hdr
            clear he hdr hrl2 DQ DP
            go_wp2_with (first
              | (go_at_call 14; (with_reducible refine (DQ1 _ HWi.out).out.mono ?_); rintro _ W1 ⟨x1, rfl, hL1, hb1⟩; have HW1 := Lib.hid (HWi.out.trans (hb1.mono HWi.out.size)); clear hb1)
              | (go_at_call 14; (with_reducible refine (DR _ HW1.out).out.mono ?_); rintro _ W3 ⟨x3, rfl, hL3, hb3⟩; have HW3 := Lib.hid (HW1.out.trans (hb3.mono HW1.out.size)); have hL2' := hL1.below hb3; clear hb3 hL1)
              | (go_at_call 13; (refine (ints_any _ hL3 hL2' HD1.out).mono ?_); rintro _ W4 ⟨rfl, hb4⟩; have HW4 := Lib.hid (HW3.out.trans (hb4.mono HW3.out.size)); clear hb4))
            go_roundw
            case rel => exact ⟨i + 1, by go_num, by omega, HW4.out⟩
            case measure => simp [intOf]; omega
        · obtain rfl : i = r.length := by omega
          have HWW := Lib.hid (Below.step HWU.out HWi.out)
          go_wp2_with fail
          go_ret
          exact ⟨rfl, HWW.out⟩
theorem walk {A A' : Option Addr} {p q : List Fun} (c c' : Nat) (w : World) (hT : Otab w) (ha : ProgAt w w.heap.size A p) (hz : SizedP p) (hb : ProgAt w w.heap.size A' q) (hy : SizedP q) :
    Calls Tryd.prog 6 #[.slice A p.length c, .slice A' q.length c'] w fun e w' => e = .returned (.bool true) ∧ Below w.heap.size w w' := by
  by_cases h : smallP p 150 = false ∨ smallP q 150 = false ∨ ((checkP p).2.2 == 0) = false ∨ ((checkP q).2.2 == 0) = false ∨ 16 < p.length + q.length
  · exact out c c' w hT ha hz hb hy h
  · have h1 : smallP p 150 = true := by
      cases hs : smallP p 150
      · exact absurd (.inl hs) h
      · rfl
    have h2 : smallP q 150 = true := by
      cases hs : smallP q 150
      · exact absurd (.inr (.inl hs)) h
      · rfl
    have h3 : (checkP p).2.2 = 0 := Decidable.byContradiction fun e => h (.inr (.inr (.inl (by simpa using e))))
    have h4 : (checkP q).2.2 = 0 := Decidable.byContradiction fun e => h (.inr (.inr (.inr (.inl (by simpa using e)))))
    have h5 : p.length + q.length ≤ 16 := Decidable.byContradiction fun e => h (.inr (.inr (.inr (.inr (by omega)))))
    exact good c c' w hT ha hz hb hy h1 h2 h3 h4 h5
theorem entry {H : Type} {enc : TypeId × Value → H} (W : World) (base : Nat) (v0 v1 : Value) (d0 d1 : DataW H) (p0 p1 : List MemPlace)
    (k0 : Value.okWide Tryd.prog W .any base 23 v0)
    (k1 : Value.okWide Tryd.prog W .any base 23 v1)
    (h0 : DataW.Trod enc Tryd.prog W 0 (fun _ => true) true 23 v0 d0 p0)
    (h1 : DataW.Trod enc Tryd.prog W 0 (fun _ => true) true 23 v1 d1 p1)
    (hT : Otab W) : Calls Tryd.prog 6 #[v0, v1] W fun e w' => e = .returned (.bool true) ∧ Below W.heap.size W w' := by
  obtain ⟨A0, c0, ps0, rfl, hp0, hz0⟩ := open_prog k0 h0
  obtain ⟨A1, c1, ps1, rfl, hp1, hz1⟩ := open_prog k1 h1
  exact walk c0 c1 W hT hp0 hz0 hp1 hz1
end Go.Proofs.YtdbmpcdianjaaaaDoor.checkMore

