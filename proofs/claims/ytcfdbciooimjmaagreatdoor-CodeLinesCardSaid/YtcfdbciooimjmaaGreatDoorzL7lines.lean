/- Layer 7: CodeLines: a text's lines are its functions and its instructions; the texts of two programs, one behind the other, are both's. For all programs. -/
import Derived.Test.YtcfdbciooimjmaaGreatDoorzGm
import Derived.OpenShut
import Derived.Test.YtcfdbciooimjmaaGreatDoorzL7back
import Derived.Test.YtcfdbciooimjmaaGreatDoorzL7cut
import Derived.Test.YtcfdbciooimjmaaGreatDoorzPq
namespace Go.Proofs.YtcfdbciooimjmaaGreatDoor.codeLines
set_option linter.unusedVariables false
set_option linter.unusedSimpArgs false
open Go.ChangeShapes Go.WideShapes Go.ChangeAt Go.RowKit Go.Sort

open codeBack (text_len)
theorem both_len {p : List Fun} {l : List (Fun × Value)} {n : Nat} (e : l.map (·.1) = p) (h : p.length + n ≤ 1000000) : (([] : List (Fun × Value)) ++ l).length + n ≤ 1000000 := by
  rw [← e, List.length_map] at h
  exact h
theorem both_prog {p q r : List Fun} (hr : p ++ q = r) {w : World} {B : Nat} {v : Value} {l m : List (Fun × Value)} (e : l.map (·.1) = p) (f : m.map (·.1) = q) (h : OwnQ w B v (([] ++ l) ++ m)) (hB : B ≤ w.heap.size) :
    ∃ A c, v = .slice A r.length c ∧ ProgAt w w.heap.size A r := by
  have := h.prog hB
  rw [List.nil_append, List.map_append, e, f, hr] at this
  exact this
/-- The lines of the functions ahead of the k-th, and of all heads. -/
def lnN (r : List Fun) (k : Nat) : Nat := r.length + ((r.take k).map fun f => f.code.length).sum
theorem lnN_succ (r : List Fun) (k : Nat) (h : k < r.length) : lnN r (k + 1) = lnN r k + r[k].code.length := by
  unfold lnN
  rw [List.take_succ_eq_append_getElem h, List.map_append, List.sum_append]
  simp only [List.map_cons, List.map_nil, List.sum_cons, List.sum_nil]
  omega
theorem lnN_all (r : List Fun) : lnN r r.length = (linesP r).length := by unfold lnN; rw [List.take_length, linesP_len]
theorem lnN_mono (r : List Fun) : ∀ k, k ≤ r.length → lnN r k ≤ lnN r r.length := by
  intro k hk
  obtain ⟨d, hd⟩ := Nat.exists_eq_add_of_le hk
  induction d generalizing k with
  | zero => rw [hd]; exact Nat.le_refl _
  | succ d ih =>
    have := ih (k + 1) (by omega) (by omega)
    rw [lnN_succ r k (by omega)] at this
    omega
theorem sized_app {p q : List Fun} (hp : mayP p = true) (hq : mayP q = true) (hz : SizedP p) (hy : SizedP q) : SizedP (p ++ q) := by
  have h1 := ((mayP_iff p).1 hp).2.1
  have h2 := ((mayP_iff q).1 hq).2.1
  exact ⟨by rw [List.length_append]; unfold maxLen; omega, fun f hf => (List.mem_append.1 hf).elim (hz.2 f) (hy.2 f)⟩
set_option maxHeartbeats 4000000 in
set_option maxRecDepth 100000 in
theorem walk {T : World → Prop} {D : List UInt8 → Int} (K : CodeC T D) {A A' : Option Addr} {p q : List Fun} (c c' : Nat) (w : World) (hT : T w) (ha : ProgAt w w.heap.size A p) (hb : ProgAt w w.heap.size A' q) (hz : SizedP p) (hy : SizedP q) :
    Calls Tryz.prog 7 #[.slice A p.length c, .slice A' q.length c'] w fun e w' => e = .returned (.bool true) ∧ Below w.heap.size w w' := by
  have hw : Below w.heap.size w w := Below.refl _ _
  have S1 := fun W (h : ProgAt W W.heap.size A p) => Lib.hid (psmall_any c 150 W h)
  have S2 := fun W (h : ProgAt W W.heap.size A' q) => Lib.hid (psmall_any c' 150 W h)
  have MP := fun W (h1 : T W) (h : ProgAt W W.heap.size A p) => Lib.hid (K.may c W h1 h hz (Nat.le_refl _))
  have MQ := fun W (h1 : T W) (h : ProgAt W W.heap.size A' q) => Lib.hid (K.may c' W h1 h hy (Nat.le_refl _))
  have TP := fun W (h1 : T W) (h : ProgAt W W.heap.size A p) => Lib.hid (K.text c W h1 h hz (Nat.le_refl _))
  have TQ := fun W (h1 : T W) (h : ProgAt W W.heap.size A' q) => Lib.hid (K.text c' W h1 h hy (Nat.le_refl _))
  have HA := Lib.hid ha
  have HB := Lib.hid hb
  have hzz := fun h1 h2 => sized_app (p := p) (q := q) h1 h2 hz hy
  clear ha hb hz hy
  generalize smallP p 150 = b1 at *
  generalize smallP q 150 = b2 at *
  cases b1
  · clear hzz
    go_enter Tryz.func7, Tryz.ntmps7
    go_wp2_with (first
      | (go_at_call 10; (with_reducible refine (K.fx _ hT).mono ?_); rintro e v ⟨rfl, hb⟩; replace HA := Lib.hid ((HA.out.below hb (Nat.le_refl _)).more hb.size); replace HB := Lib.hid ((HB.out.below hb (Nat.le_refl _)).more hb.size); replace hT := K.keep hT hb; replace hw := Below.step hw hb; clear hb)
      | (go_at_call 9; (with_reducible refine (S1 _ HA.out).out.mono ?_); rintro e v ⟨rfl, rfl⟩)
      | (go_at_call 9; (with_reducible refine (S2 _ HB.out).out.mono ?_); rintro e v ⟨rfl, rfl⟩)
      | (go_at_call 15; (with_reducible refine (MP _ hT HA.out).out.mono ?_); rintro e v ⟨rfl, hb⟩; replace HA := Lib.hid ((HA.out.below hb (Nat.le_refl _)).more hb.size); replace HB := Lib.hid ((HB.out.below hb (Nat.le_refl _)).more hb.size); replace hT := K.keep hT hb; replace hw := Below.step hw hb; clear hb)
      | (go_at_call 15; (with_reducible refine (MQ _ hT HB.out).out.mono ?_); rintro e v ⟨rfl, hb⟩; replace HA := Lib.hid ((HA.out.below hb (Nat.le_refl _)).more hb.size); replace HB := Lib.hid ((HB.out.below hb (Nat.le_refl _)).more hb.size); replace hT := K.keep hT hb; replace hw := Below.step hw hb; clear hb)
      )
    go_ret
    exact ⟨rfl, hw⟩
  cases b2
  · clear hzz
    go_enter Tryz.func7, Tryz.ntmps7
    go_wp2_with (first
      | (go_at_call 10; (with_reducible refine (K.fx _ hT).mono ?_); rintro e v ⟨rfl, hb⟩; replace HA := Lib.hid ((HA.out.below hb (Nat.le_refl _)).more hb.size); replace HB := Lib.hid ((HB.out.below hb (Nat.le_refl _)).more hb.size); replace hT := K.keep hT hb; replace hw := Below.step hw hb; clear hb)
      | (go_at_call 9; (with_reducible refine (S1 _ HA.out).out.mono ?_); rintro e v ⟨rfl, rfl⟩)
      | (go_at_call 9; (with_reducible refine (S2 _ HB.out).out.mono ?_); rintro e v ⟨rfl, rfl⟩)
      | (go_at_call 15; (with_reducible refine (MP _ hT HA.out).out.mono ?_); rintro e v ⟨rfl, hb⟩; replace HA := Lib.hid ((HA.out.below hb (Nat.le_refl _)).more hb.size); replace HB := Lib.hid ((HB.out.below hb (Nat.le_refl _)).more hb.size); replace hT := K.keep hT hb; replace hw := Below.step hw hb; clear hb)
      | (go_at_call 15; (with_reducible refine (MQ _ hT HB.out).out.mono ?_); rintro e v ⟨rfl, hb⟩; replace HA := Lib.hid ((HA.out.below hb (Nat.le_refl _)).more hb.size); replace HB := Lib.hid ((HB.out.below hb (Nat.le_refl _)).more hb.size); replace hT := K.keep hT hb; replace hw := Below.step hw hb; clear hb)
      )
    go_ret
    exact ⟨rfl, hw⟩
  cases hp : mayP p
  · rw [hp] at MP
    clear hp hzz
    go_enter Tryz.func7, Tryz.ntmps7
    go_wp2_with (first
      | (go_at_call 10; (with_reducible refine (K.fx _ hT).mono ?_); rintro e v ⟨rfl, hb⟩; replace HA := Lib.hid ((HA.out.below hb (Nat.le_refl _)).more hb.size); replace HB := Lib.hid ((HB.out.below hb (Nat.le_refl _)).more hb.size); replace hT := K.keep hT hb; replace hw := Below.step hw hb; clear hb)
      | (go_at_call 9; (with_reducible refine (S1 _ HA.out).out.mono ?_); rintro e v ⟨rfl, rfl⟩)
      | (go_at_call 9; (with_reducible refine (S2 _ HB.out).out.mono ?_); rintro e v ⟨rfl, rfl⟩)
      | (go_at_call 15; (with_reducible refine (MP _ hT HA.out).out.mono ?_); rintro e v ⟨rfl, hb⟩; replace HA := Lib.hid ((HA.out.below hb (Nat.le_refl _)).more hb.size); replace HB := Lib.hid ((HB.out.below hb (Nat.le_refl _)).more hb.size); replace hT := K.keep hT hb; replace hw := Below.step hw hb; clear hb)
      | (go_at_call 15; (with_reducible refine (MQ _ hT HB.out).out.mono ?_); rintro e v ⟨rfl, hb⟩; replace HA := Lib.hid ((HA.out.below hb (Nat.le_refl _)).more hb.size); replace HB := Lib.hid ((HB.out.below hb (Nat.le_refl _)).more hb.size); replace hT := K.keep hT hb; replace hw := Below.step hw hb; clear hb)
      )
    go_ret
    exact ⟨rfl, hw⟩
  cases hq : mayP q
  · rw [hp] at MP
    rw [hq] at MQ
    clear hp hq hzz
    go_enter Tryz.func7, Tryz.ntmps7
    go_wp2_with (first
      | (go_at_call 10; (with_reducible refine (K.fx _ hT).mono ?_); rintro e v ⟨rfl, hb⟩; replace HA := Lib.hid ((HA.out.below hb (Nat.le_refl _)).more hb.size); replace HB := Lib.hid ((HB.out.below hb (Nat.le_refl _)).more hb.size); replace hT := K.keep hT hb; replace hw := Below.step hw hb; clear hb)
      | (go_at_call 9; (with_reducible refine (S1 _ HA.out).out.mono ?_); rintro e v ⟨rfl, rfl⟩)
      | (go_at_call 9; (with_reducible refine (S2 _ HB.out).out.mono ?_); rintro e v ⟨rfl, rfl⟩)
      | (go_at_call 15; (with_reducible refine (MP _ hT HA.out).out.mono ?_); rintro e v ⟨rfl, hb⟩; replace HA := Lib.hid ((HA.out.below hb (Nat.le_refl _)).more hb.size); replace HB := Lib.hid ((HB.out.below hb (Nat.le_refl _)).more hb.size); replace hT := K.keep hT hb; replace hw := Below.step hw hb; clear hb)
      | (go_at_call 15; (with_reducible refine (MQ _ hT HB.out).out.mono ?_); rintro e v ⟨rfl, hb⟩; replace HA := Lib.hid ((HA.out.below hb (Nat.le_refl _)).more hb.size); replace HB := Lib.hid ((HB.out.below hb (Nat.le_refl _)).more hb.size); replace hT := K.keep hT hb; replace hw := Below.step hw hb; clear hb)
      )
    go_ret
    exact ⟨rfl, hw⟩
  rw [hp] at MP
  rw [hq] at MQ
  have hz3 := hzz hp hq
  clear hzz
  have hp1 := ((mayP_iff p).1 hp).1
  have hq1 := ((mayP_iff q).1 hq).1
  have hp2 := ((mayP_iff p).1 hp).2.1
  have hq2 := ((mayP_iff q).1 hq).2.1
  have hl1000 : p.length + q.length ≤ 1000000 := by omega
  have ht1 := text_len hp
  have ht2 := text_len hq
  have hb1 := fun h => parse_both hp hq h
  have hb2 := fun h => parse_over hp hq h
  have hln := lnN_all (p ++ q)
  have hlm := lnN_mono (p ++ q)
  have hls := lnN_succ (p ++ q)
  have hpl := linesP_len (p ++ q)
  have hsp := linesP_small hp
  have hsq := linesP_small hq
  have hsa : (linesP (p ++ q)).length = (linesP p).length + (linesP q).length := by rw [linesP_app, List.length_append]
  generalize hu : textP p = u at *
  generalize hv : textP q = t at *
  clear hu hv
  have es : (⟨u.toArray⟩ : ByteArray) ++ ⟨t.toArray⟩ = ⟨(u ++ t).toArray⟩ := by rw [bytes_append]
  have us : (⟨u.toArray⟩ : ByteArray).size = u.length := by show u.toArray.size = _; simp
  have ts : (⟨t.toArray⟩ : ByteArray).size = t.length := by show t.toArray.size = _; simp
  have C1 := fun W (h1 : T W) => Lib.hid (K.parse (u ++ t) W h1 (by rw [List.length_append]; omega))
  rw [← es] at C1
  generalize hU : (⟨u.toArray⟩ : ByteArray) = U at *
  generalize hV : (⟨t.toArray⟩ : ByteArray) = V at *
  have hUV : U.size + V.size ≤ 200000 := by omega
  clear hU hV es us ts ht1 ht2
  have hra : (p ++ q).length = p.length + q.length := List.length_append
  generalize hr : p ++ q = r at *
  have HR := Lib.hid hr
  by_cases hl : 16 < p.length + q.length
  · obtain ⟨h1, h2⟩ := hb2 hl
    have hl16 : (16 : Int) < r.length := by omega
    generalize (parseP (u ++ t)).2.1 = n1 at *
    rw [h1, h2] at C1
    clear hb1 hb2 h1 h2 hln hlm hls hpl hsp hsq hsa hl hp hq hz3
    go_enter Tryz.func7, Tryz.ntmps7
    go_wp2_with (first
      | (go_at_call 10; (with_reducible refine (K.fx _ hT).mono ?_); rintro e v ⟨rfl, hb⟩; replace HA := Lib.hid ((HA.out.below hb (Nat.le_refl _)).more hb.size); replace HB := Lib.hid ((HB.out.below hb (Nat.le_refl _)).more hb.size); replace hT := K.keep hT hb; replace hw := Below.step hw hb; clear hb)
      | (go_at_call 9; (with_reducible refine (S1 _ HA.out).out.mono ?_); rintro e v ⟨rfl, rfl⟩)
      | (go_at_call 9; (with_reducible refine (S2 _ HB.out).out.mono ?_); rintro e v ⟨rfl, rfl⟩)
      | (go_at_call 15; (with_reducible refine (MP _ hT HA.out).out.mono ?_); rintro e v ⟨rfl, hb⟩; replace HA := Lib.hid ((HA.out.below hb (Nat.le_refl _)).more hb.size); replace HB := Lib.hid ((HB.out.below hb (Nat.le_refl _)).more hb.size); replace hT := K.keep hT hb; replace hw := Below.step hw hb; clear hb)
      | (go_at_call 15; (with_reducible refine (MQ _ hT HB.out).out.mono ?_); rintro e v ⟨rfl, hb⟩; replace HA := Lib.hid ((HA.out.below hb (Nat.le_refl _)).more hb.size); replace HB := Lib.hid ((HB.out.below hb (Nat.le_refl _)).more hb.size); replace hT := K.keep hT hb; replace hw := Below.step hw hb; clear hb)
      | (at_builtin; refine wpList_append_prog _ Tryz.underlying23 rfl _ _ rfl _ _ [] rfl (OwnQ.made _) rfl (HA.out.below ((Below.refl _ _).alloc (Nat.le_refl _) _) (Nat.le_refl _)) hp1 (by simp; omega) (by simp) ?_; intro v1 u1 l1 e1 ho1 hb1; replace hb1 := Below.trans ((Below.refl _ _).alloc (Nat.le_refl _) _) hb1; have HO1 := Lib.hid ho1; clear ho1)
      | (at_builtin; refine wpList_append_prog _ Tryz.underlying23 rfl _ _ rfl _ _ _ rfl HO1.out rfl (HB.out.below hb1 (Nat.le_refl _)) hq1 (both_len e1 hl1000) hb1.size ?_; intro v2 u2 l2 e2 ho2 hb2; obtain ⟨A3, c3, rfl, hp3⟩ := both_prog HR.out e1 e2 ho2 (Nat.le_trans hb1.size hb2.size); clear ho2 HO1; replace hb := Below.trans hb1 hb2; clear hb1 hb2; have HP := Lib.hid hp3; clear hp3; replace HA := Lib.hid ((HA.out.below hb (Nat.le_refl _)).more hb.size); replace HB := Lib.hid ((HB.out.below hb (Nat.le_refl _)).more hb.size); replace hT := K.keep hT hb; replace hw := Below.step hw hb; clear hb e1 e2)
      | (go_at_call 17; (with_reducible refine (TP _ hT HA.out).out.mono ?_); rintro e v ⟨rfl, hb⟩; replace HA := Lib.hid ((HA.out.below hb (Nat.le_refl _)).more hb.size); replace HB := Lib.hid ((HB.out.below hb (Nat.le_refl _)).more hb.size); replace HP := Lib.hid ((HP.out.below hb (Nat.le_refl _)).more hb.size); replace hT := K.keep hT hb; replace hw := Below.step hw hb; clear hb)
      | (go_at_call 17; (with_reducible refine (TQ _ hT HB.out).out.mono ?_); rintro e v ⟨rfl, hb⟩; replace HA := Lib.hid ((HA.out.below hb (Nat.le_refl _)).more hb.size); replace HB := Lib.hid ((HB.out.below hb (Nat.le_refl _)).more hb.size); replace HP := Lib.hid ((HP.out.below hb (Nat.le_refl _)).more hb.size); replace hT := K.keep hT hb; replace hw := Below.step hw hb; clear hb)
      | (go_at_call 11; (with_reducible refine (C1 _ hT).out.mono ?_); rintro e v ⟨A1, c1, rfl, hp1, hb⟩; replace HA := Lib.hid ((HA.out.below hb (Nat.le_refl _)).more hb.size); replace HB := Lib.hid ((HB.out.below hb (Nat.le_refl _)).more hb.size); replace HP := Lib.hid ((HP.out.below hb (Nat.le_refl _)).more hb.size); replace hT := K.keep hT hb; replace hw := Below.step hw hb; clear hb; clear hp1)
      )
    go_ret
    exact ⟨rfl, hw⟩
  · have h1 := hb1 (by omega)
    rw [h1] at C1
    have hl16 : (r.length : Int) ≤ 16 := by omega
    have SM := fun W (h1 : T W) (A1 A3 : Option Addr) (c1 c3 : Nat) (hx : ProgAt W W.heap.size A1 r) (hy : ProgAt W W.heap.size A3 r) => Lib.hid (K.same c1 c3 W h1 hx hz3 hy hz3 (Nat.le_refl _))
    rw [(sameP_iff r r).2 rfl] at SM
    have hN : (linesP r).length ≤ 6432 := by omega
    generalize (linesP r).length = N at *
    have HM := Lib.hid hlm
    have HS := Lib.hid hls
    have HN := Lib.hid hln
    have h0 : lnN r 0 = r.length := by simp [lnN]
    have H0 := Lib.hid h0
    clear hb1 hb2 h1 hln hlm hls hpl hsp hsq hsa hl hp hq hz3 h0 hra
    go_enter Tryz.func7, Tryz.ntmps7
    go_wp2_with (first
      | (go_at_call 10; (with_reducible refine (K.fx _ hT).mono ?_); rintro e v ⟨rfl, hb⟩; replace HA := Lib.hid ((HA.out.below hb (Nat.le_refl _)).more hb.size); replace HB := Lib.hid ((HB.out.below hb (Nat.le_refl _)).more hb.size); replace hT := K.keep hT hb; replace hw := Below.step hw hb; clear hb)
      | (go_at_call 9; (with_reducible refine (S1 _ HA.out).out.mono ?_); rintro e v ⟨rfl, rfl⟩)
      | (go_at_call 9; (with_reducible refine (S2 _ HB.out).out.mono ?_); rintro e v ⟨rfl, rfl⟩)
      | (go_at_call 15; (with_reducible refine (MP _ hT HA.out).out.mono ?_); rintro e v ⟨rfl, hb⟩; replace HA := Lib.hid ((HA.out.below hb (Nat.le_refl _)).more hb.size); replace HB := Lib.hid ((HB.out.below hb (Nat.le_refl _)).more hb.size); replace hT := K.keep hT hb; replace hw := Below.step hw hb; clear hb)
      | (go_at_call 15; (with_reducible refine (MQ _ hT HB.out).out.mono ?_); rintro e v ⟨rfl, hb⟩; replace HA := Lib.hid ((HA.out.below hb (Nat.le_refl _)).more hb.size); replace HB := Lib.hid ((HB.out.below hb (Nat.le_refl _)).more hb.size); replace hT := K.keep hT hb; replace hw := Below.step hw hb; clear hb)
      | (at_builtin; refine wpList_append_prog _ Tryz.underlying23 rfl _ _ rfl _ _ [] rfl (OwnQ.made _) rfl (HA.out.below ((Below.refl _ _).alloc (Nat.le_refl _) _) (Nat.le_refl _)) hp1 (by simp; omega) (by simp) ?_; intro v1 u1 l1 e1 ho1 hb1; replace hb1 := Below.trans ((Below.refl _ _).alloc (Nat.le_refl _) _) hb1; have HO1 := Lib.hid ho1; clear ho1)
      | (at_builtin; refine wpList_append_prog _ Tryz.underlying23 rfl _ _ rfl _ _ _ rfl HO1.out rfl (HB.out.below hb1 (Nat.le_refl _)) hq1 (both_len e1 hl1000) hb1.size ?_; intro v2 u2 l2 e2 ho2 hb2; obtain ⟨A3, c3, rfl, hp3⟩ := both_prog HR.out e1 e2 ho2 (Nat.le_trans hb1.size hb2.size); clear ho2 HO1; replace hb := Below.trans hb1 hb2; clear hb1 hb2; have HP := Lib.hid hp3; clear hp3; replace HA := Lib.hid ((HA.out.below hb (Nat.le_refl _)).more hb.size); replace HB := Lib.hid ((HB.out.below hb (Nat.le_refl _)).more hb.size); replace hT := K.keep hT hb; replace hw := Below.step hw hb; clear hb e1 e2)
      | (go_at_call 17; (with_reducible refine (TP _ hT HA.out).out.mono ?_); rintro e v ⟨rfl, hb⟩; replace HA := Lib.hid ((HA.out.below hb (Nat.le_refl _)).more hb.size); replace HB := Lib.hid ((HB.out.below hb (Nat.le_refl _)).more hb.size); replace HP := Lib.hid ((HP.out.below hb (Nat.le_refl _)).more hb.size); replace hT := K.keep hT hb; replace hw := Below.step hw hb; clear hb)
      | (go_at_call 17; (with_reducible refine (TQ _ hT HB.out).out.mono ?_); rintro e v ⟨rfl, hb⟩; replace HA := Lib.hid ((HA.out.below hb (Nat.le_refl _)).more hb.size); replace HB := Lib.hid ((HB.out.below hb (Nat.le_refl _)).more hb.size); replace HP := Lib.hid ((HP.out.below hb (Nat.le_refl _)).more hb.size); replace hT := K.keep hT hb; replace hw := Below.step hw hb; clear hb)
      | (go_at_call 11; (with_reducible refine (C1 _ hT).out.mono ?_); rintro e v ⟨A1, c1, rfl, hp1, hb⟩; replace HA := Lib.hid ((HA.out.below hb (Nat.le_refl _)).more hb.size); replace HB := Lib.hid ((HB.out.below hb (Nat.le_refl _)).more hb.size); replace HP := Lib.hid ((HP.out.below hb (Nat.le_refl _)).more hb.size); replace hT := K.keep hT hb; replace hw := Below.step hw hb; clear hb; have HX := Lib.hid hp1; clear hp1)
      )
    go_loop [9, 10] (fun n i => ∃ k : Nat, k ≤ r.length ∧ i = .int .i64 k ∧ n = .int .i64 (lnN r k : Nat)) (fun _ i => r.length - (intOf i).toNat)
    case atStart => exact ⟨0, by omega, rfl, by rw [H0.out]⟩
    case round =>
      obtain ⟨k, hk, rfl, rfl⟩ := hrel
      by_cases hlt : k < r.length
      · obtain ⟨b, off, rfl, hbl, hc⟩ := HP.out (by omega)
        obtain ⟨_, _, _, A2, c2, c3, _⟩ := hc k hlt
        clear hc
        have ht := HS.out k hlt
        have hm1 := HM.out (k + 1) (by omega)
        rw [HN.out, ht] at hm1
        have HT := Lib.hid ht
        clear ht
        generalize lnN r k = m at *
        generalize r[k].code.length = l at *
        go_wp2_with fail
        go_round
        case rel => exact ⟨k + 1, by omega, by go_num, by rw [HT.out]; go_num⟩
        case measure => simp [intOf]; omega
      · obtain rfl : k = r.length := by omega
        rw [HN.out]
        go_wp2_with (go_at_call 24; (with_reducible refine (SM _ hT _ _ _ _ HX.out HP.out).out.mono ?_); rintro e v ⟨rfl, hb⟩; replace hw := Below.step hw hb; clear hb)
        go_ret
        exact ⟨rfl, hw⟩
set_option maxRecDepth 100000 in
/-- The walk, its arguments opened. -/
theorem entryK {T : World → Prop} {D : List UInt8 → Int} (K : CodeC T D) {H : Type} {enc : TypeId × Value → H} (W : World) (base : Nat) (v0 v1 : Value) (d0 d1 : DataW H) (p0 p1 : List MemPlace)
    (k0 : Value.okWide Tryz.prog W .any base 23 v0)
    (k1 : Value.okWide Tryz.prog W .any base 23 v1)
    (h0 : DataW.Trod enc Tryz.prog W 0 (fun _ => true) true 23 v0 d0 p0)
    (h1 : DataW.Trod enc Tryz.prog W 0 (fun _ => true) true 23 v1 d1 p1)
    (hT : T W) : Calls Tryz.prog 7 #[v0, v1] W fun e w' => e = .returned (.bool true) ∧ Below W.heap.size W w' := by
  obtain ⟨A0, c0, ps0, rfl, hp0, hz0⟩ := open_prog k0 h0
  obtain ⟨A1, c1, ps1, rfl, hp1, hz1⟩ := open_prog k1 h1
  exact walk K c0 c1 W hT hp0 hp1 hz0 hz1
end Go.Proofs.YtcfdbciooimjmaaGreatDoor.codeLines

