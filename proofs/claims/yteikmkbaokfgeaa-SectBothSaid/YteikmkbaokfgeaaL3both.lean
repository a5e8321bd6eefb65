/- Layer 3: SectBoth: sections and sections behind them are both, one behind the other; where the second ones are none it is told where. For every two texts. -/
import Derived.Test.YteikmkbaokfgeaaSfix
import Derived.Test.YteikmkbaokfgeaaSm2
import Derived.Test.YteikmkbaokfgeaaSopen
import Derived.ChangeMaps5
namespace Go.Proofs.Yteikmkbaokfgeaa.sectBoth
set_option linter.unusedVariables false
set_option linter.unusedSimpArgs false
open Go.ChangeShapes Go.WideShapes Go.ChangeAt Go.RowKit Cm

theorem flat_raw (ss : List (Int × ByteArray)) (j : Nat) (u : Value) (h : (flatS (rawS ss))[j]? = some u) : ∃ i, ∃ hi : i < ss.length, (j = i * 2 ∧ u = .int .i64 ss[i].1) ∨ (j = i * 2 + 1 ∧ u = .string ss[i].2) := by
  have hl : j < (flatS (rawS ss)).length := by
    rcases Nat.lt_or_ge j (flatS (rawS ss)).length with h' | h'
    · exact h'
    · rw [List.getElem?_eq_none h'] at h; cases h
  rw [flatS_len] at hl
  have hr : (rawS ss).length = ss.length := by simp [rawS]
  have hi : j / 2 < (rawS ss).length := by omega
  obtain ⟨e1, e2⟩ := flatS_at (rawS ss) (j / 2) hi
  have hx : (rawS ss)[j / 2] = (ss[j / 2].1, ss[j / 2].2.data.toList) := by simp [rawS]
  rw [hx] at e1 e2
  refine ⟨j / 2, by omega, ?_⟩
  rcases (by omega : j = j / 2 * 2 ∨ j = j / 2 * 2 + 1) with e | e
  · rw [e, e1] at h
    exact .inl ⟨e, by injection h with h; exact h.symm⟩
  · rw [e, e2] at h
    refine .inr ⟨e, ?_⟩
    injection h with h
    rw [← h]

/-- An operation that its guard lets through. -/
theorem wpList_wanted {P : Program} {w : World} {ops : Array Oper} {rest : List Oper} {o : Oper} {a : Act} {Q : Exit → Act → World → Prop}
    (hw : Region.wanted o (yielded ops a.tmps) = true) (h : wpList P ops Q ({ o with guard := none } :: rest) a w) : wpList P ops Q (o :: rest) a w := by
  unfold wpList at h ⊢
  rw [if_pos hw]
  rw [if_pos (by simp [Region.wanted])] at h
  exact h

/-- Sections more, out of a list that lies there. -/
theorem wpList_append_secs {w : World} {ops : Array Oper} {rest : List Oper} {o : Oper} {a : Act} {Q : Exit → Act → World → Prop}
    (hg : o.guard = none) (s x : Operand) (hop : o.op = Op.call { callee := Callee.builtin Builtin.append, args := #[s, x], argTypes := #[22, 22] })
    (B : Nat) (v : Value) (l : List (Int × List UInt8)) (hs : a.eval s = v) (own : OwnS w B v l) (C : Nat) (A : Option Addr) (ss : List (Int × ByteArray)) (n c : Nat) (hn : ss.length = n) (hS : Secs w C A ss)
    (hx : a.eval x = .slice A n c) (hlen : l.length + ss.length ≤ 1000000) (hB : B ≤ w.heap.size)
    (h : ∀ v' w', OwnS w' B v' (l ++ rawS ss) → Below B w w' → wpList Try.prog ops Q rest (a.put o.dst v') w') : wpList Try.prog ops Q (o :: rest) a w := by
  subst hn
  obtain ⟨i, hi, hz0, hz1, hz2⟩ := info_parts infoSec
  have hr : (rawS ss).length = ss.length := by simp [rawS]
  have fin : ∀ v' w', w'.ownsRow B 32 2 v' (l.length + ss.length) (flatS l ++ flatS (rawS ss)) → w.grownBy w' v.ownBlock → (v' = .slice none 0 0 ↔ v = .slice none 0 0 ∧ ss.length = 0) → wpList Try.prog ops Q rest (a.put o.dst v') w' := by
    intro v' w' h1 h2 _
    refine h v' w' ?_ ((Below.refl B w).grown h2 hB (fun k hk => (own.lt k hk).1))
    unfold OwnS
    rw [List.length_append, hr]
    have : flatS (l ++ rawS ss) = flatS l ++ flatS (rawS ss) := by simp [flatS]
    rw [this]
    exact h1
  have hone : ∀ u ∈ flatS (rawS ss), u.oneCell' = true := by
    intro u hu
    obtain ⟨j, hj⟩ := List.getElem?_of_mem hu
    obtain ⟨i, hi, ⟨_, rfl⟩ | ⟨_, rfl⟩⟩ := flat_raw ss j u hj <;> rfl
  have hfl : (flatS (rawS ss)).length = ss.length * 2 := by rw [flatS_len, hr]
  by_cases h0 : 0 < ss.length
  · obtain ⟨b, off, rfl, _, hc⟩ := hS h0
    refine wpList_append_own _ hg s x 22 hop B 32 i (.agg #[.int .i64 0, .string ⟨#[]⟩]) 2 24 Try.underlying22 hi hz0 hz1 hz2 rfl (by decide) v l.length (flatS l) hs own ⟨b, off, none⟩ ss.length c (flatS (rawS ss)) hx hfl ?_ hone (by unfold maxLen; omega) (by omega) hB fin
    intro j u hu
    obtain ⟨i, hi, ⟨rfl, rfl⟩ | ⟨rfl, rfl⟩⟩ := flat_raw ss j u hu
    · have a1 : (⟨b, off, none⟩ : Addr).add (i * 2) = ⟨b, off + i * 2, none⟩ := by unfold Addr.add; split <;> simp [*]
      rw [a1]; exact (hc i hi).1
    · have a2 : (⟨b, off, none⟩ : Addr).add (i * 2 + 1) = ⟨b, off + i * 2 + 1, none⟩ := by unfold Addr.add; rw [if_neg (by omega)]; simp; omega
      rw [a2]; exact (hc i hi).2
  · have e : ss = [] := List.eq_nil_of_length_eq_zero (by omega)
    subst e
    cases A with
    | some ad =>
      refine wpList_append_own _ hg s x 22 hop B 32 i (.agg #[.int .i64 0, .string ⟨#[]⟩]) 2 24 Try.underlying22 hi hz0 hz1 hz2 rfl (by decide) v l.length (flatS l) hs own ad 0 c [] hx rfl (by simp) (by simp) (by unfold maxLen; simp at hlen ⊢; omega) (by simp at hlen ⊢; omega) hB ?_
      exact fin
    | none =>
      have hrun : ∀ ty, (Builtin.append_ #[22, 22] ty #[v, .slice none 0 c]).run Try.prog w = .ok v w := fun ty => by
        have hu := Try.underlying22
        rcases own.2 with ⟨rfl, _⟩ | ⟨g, cap, cur, rfl, _, _, hnc, _⟩
        · simp [Builtin.append_, run_underlying hu, Go.sizeOf, typeInfo, hi, Builtin.lenOf, Builtin.firstCells]
        · simp [Builtin.append_, run_underlying hu, Go.sizeOf, typeInfo, hi, Builtin.lenOf, Builtin.firstCells, hnc, storeCells]
      have hx' : a.eval x = .slice none 0 c := hx
      refine wpList_plain hg fun K hK => ?_
      unfold Oper.wp
      simp [execOp, hop, resolve, invoke, builtin, hs, hx', hrun, Result.andThen]
      refine hK _ _ (h v w ?_ (Below.refl _ _))
      have : l ++ rawS [] = l := by simp [rawS]
      rw [this]
      exact own

theorem OwnS.two {w : World} {B : Nat} {v : Value} {l1 l2 : List (Int × List UInt8)} (h : OwnS w B v ([] ++ rawS (packS l1) ++ rawS (packS l2))) : OwnS w B v (l1 ++ l2) := by
  rw [List.nil_append, rawS_pack, rawS_pack] at h; exact h
theorem len_two {l1 l2 : List (Int × List UInt8)} (h1 : l1.length ≤ 200) (h2 : l2.length ≤ 200) : ([] ++ rawS (packS l1)).length + (packS l2).length ≤ 1000000 := by
  rw [List.nil_append, rawS_pack, packS_len]; omega
theorem len_app {l1 l2 : List (Int × List UInt8)} (h1 : l1.length ≤ 200) (h2 : l2.length ≤ 200) : l1.length + l2.length < 9223372036854775807 := by omega
theorem len_pack (l1 l2 : List (Int × List UInt8)) : (packS (l1 ++ l2)).length = l1.length + l2.length := by rw [packS_len, List.length_append]
theorem own_le {w w' : World} {o : Obj} {B : Nat} (h : Below B (w.alloc o) w') : w.heap.size ≤ w'.heap.size := by
  have := h.size; simp at this; omega

set_option maxHeartbeats 1000000 in
set_option maxRecDepth 100000 in
theorem good (s t : ByteArray) (w : World) (hs : s.size ≤ 200) (ht : t.size ≤ 200) :
    Calls Try.prog 7 #[.string s, .string t] w fun e w' => e = .returned (.bool true) ∧ Below w.heap.size w w' := by
  have hb : Below w.heap.size w w := Below.refl _ _
  have hl : s.data.toList.length = s.size := rfl
  have hl' : t.data.toList.length = t.size := rfl
  have hst : s ++ t = ⟨(s.data.toList ++ t.data.toList).toArray⟩ := by apply ByteArray.ext; simp
  obtain ⟨l1, k1, e1, h1⟩ : ∃ l k e, allS s.data.toList = (l, k, e) := ⟨_, _, _, rfl⟩
  obtain ⟨l2, k2, e2, h2⟩ : ∃ l k e, allS t.data.toList = (l, k, e) := ⟨_, _, _, rfl⟩
  have C1 := fun W => Lib.hid (sall_lit s l1 l1.length k1 k1 e1 W (by omega) h1 rfl rfl)
  have C2 := fun W => Lib.hid (sall_lit t l2 l2.length k2 k2 e2 W (by omega) h2 rfl rfl)
  have n1 : decide ((200 : Int) < s.size) = false := by simp; omega
  have n2 : decide ((200 : Int) < t.size) = false := by simp; omega
  have n3 : s.size + t.size ≤ 9223372036854775807 := by omega
  have hstz : (s ++ t).size ≤ 1000000 := by rw [ByteArray.size_append]; omega
  have hstl : (s ++ t).data.toList = s.data.toList ++ t.data.toList := by simp
  have z1 : l1.length ≤ 200 := by have := all_count s.data.toList; rw [h1] at this; simp only at this; omega
  have z2 : l2.length ≤ 200 := by have := all_count t.data.toList; rw [h2] at this; simp only at this; omega
  have z3 : k2 ≤ 200 := by have := allS_bd (s := t.data.toList); rw [h2] at this; simp only at this; omega
  have happ := fun h => allS_app (s := s.data.toList) (t := t.data.toList) h
  rw [h1, h2] at happ
  simp only at happ
  by_cases he1 : e1 = 0
  · subst he1
    have happ := happ rfl
    by_cases he2 : e2 = 0
    · subst he2
      rw [if_neg (by simp), hl] at happ
      have C3 := fun W => Lib.hid (sall_lit (s ++ t) (l1 ++ l2) (l1 ++ l2).length (s.size + k2 : Int) (s.size + k2) 0 W hstz (by rw [hstl]; exact happ) rfl (by simp))
      have hk2 : (k2 : Int) = t.size := by
        have := (allS_eq (s := t.data.toList) (by rw [h2])).2.1
        rw [h2] at this
        simp only at this
        omega
      rw [hk2] at C3
      have hin : IntKind.i64.wrap ((s.size : Int) + t.size) = (s.size : Int) + t.size := IntWalk.i64_in _ (by omega)
      clear happ h1 h2 hst hstl hstz
      go_enter Try.func7, Try.ntmps7
      go_wp2_with (first
        | (go_at_call 10; refine (fixed_true _).mono ?_; rintro e v1 ⟨rfl, hb1⟩; replace hb := Below.step hb hb1; clear hb1)
        | (go_at_call 13; with_reducible refine (C1 _).out.mono ?_; rintro e v2 ⟨A1, c1, rfl, hS1, hb2⟩; replace hb := Below.step hb hb2; clear hb2)
        | (go_at_call 13; with_reducible refine (C2 _).out.mono ?_; rintro e v3 ⟨A2, c2, rfl, hS2, hb3⟩; replace hb := Below.step hb hb3; replace hS1 := (hS1.below hb3 (Nat.le_refl _)).more hb3.size; clear hb3)
        | (go_at_call 13; with_reducible refine (C3 _).out.mono ?_; rintro e v4 ⟨A3, c3, rfl, hS3, hb4⟩; replace hb := Below.step hb hb4; replace hS1 := (hS1.below hb4 (Nat.le_refl _)).more hb4.size; replace hS2 := (hS2.below hb4 (Nat.le_refl _)).more hb4.size; clear hb4; have hS1a := Secs.alloc hS1 (.cells #[] 32))
        | (at_builtin; refine wpList_wanted rfl ?_; refine wpList_append_secs rfl (.tmp 80) (.tmp 81) rfl v4.heap.size (.slice (some ⟨v4.heap.size, 0, none⟩) 0 0) [] rfl (OwnS.made v4) v4.heap.size A1 (packS l1) l1.length c1 (packS_len l1) hS1a rfl (by rw [packS_len]; simp; omega) (by simp) ?_; intro x5 v5 hv5 hb5; have hS2b := ((hS2.below ((Below.refl v4.heap.size v4).alloc (Nat.le_refl _) (.cells #[] 32)) (Nat.le_refl _)).below hb5 (Nat.le_refl _)); have hS3b := ((hS3.below ((Below.refl v4.heap.size v4).alloc (Nat.le_refl _) (.cells #[] 32)) (Nat.le_refl _)).below hb5 (Nat.le_refl _)); have hlen2 := len_two z1 z2; have hsz2 := own_le hb5; replace hb5 := ((Below.refl v4.heap.size v4).alloc (Nat.le_refl _) (.cells #[] 32)).trans hb5)
        | (at_builtin; go_loud (refine wpList_wanted rfl ?_; refine wpList_append_secs rfl (.tmp 82) (.tmp 83) rfl v4.heap.size x5 _ rfl hv5 v4.heap.size A2 (packS l2) l2.length c2 (packS_len l2) hS2b rfl hlen2 hsz2 ?_; intro x6 v6 hv6 hb6; obtain ⟨A6, c6, rfl, hS6⟩ := OwnS.secs (OwnS.two hv6); have hS3c := hS3b.below hb6 (Nat.le_refl _)))
        | (go_at_call 17; (with_reducible refine (same_lit (l1.length + l2.length) (l1.length + l2.length) c3 c6 true v6 hS3c hS6 (len_pack _ _) (len_pack _ _) (len_app z1 z2) (len_app z1 z2) (decide_eq_true rfl)).mono ?_); rintro e v7 ⟨rfl, hb7⟩))
      go_ret
      exact ⟨rfl, Below.step hb ((hb5.trans hb6).trans (hb7.mono (Nat.le_trans hsz2 hb6.size)))⟩
    · rw [if_pos he2, hl] at happ
      have C3 := fun W => Lib.hid (sall_lit (s ++ t) [] 0 (s.size + k2 : Int) (s.size + k2) e2 W hstz (by rw [hstl]; exact happ) rfl (by simp))
      have heb : (e2 != 0) = true := by simpa using he2
      have hin : IntKind.i64.wrap ((s.size : Int) + k2) = (s.size : Int) + k2 := IntWalk.i64_in _ (by omega)
      clear happ h1 h2 hst hstl hstz he2
      go_enter Try.func7, Try.ntmps7
      go_wp2_with (first
        | (go_at_call 10; refine (fixed_true _).mono ?_; rintro e v1 ⟨rfl, hb1⟩; replace hb := Below.step hb hb1; clear hb1)
        | (go_at_call 13; with_reducible refine (C1 _).out.mono ?_; rintro e v2 ⟨A1, c1, rfl, hS1, hb2⟩; replace hb := Below.step hb hb2; clear hb2)
        | (go_at_call 13; with_reducible refine (C2 _).out.mono ?_; rintro e v3 ⟨A2, c2, rfl, hS2, hb3⟩; replace hb := Below.step hb hb3; clear hb3)
        | (go_at_call 13; with_reducible refine (C3 _).out.mono ?_; rintro e v4 ⟨A3, c3, rfl, hS3, hb4⟩; replace hb := Below.step hb hb4; clear hb4))
      go_ret
      exact ⟨rfl, hb⟩
  · obtain ⟨l3, k3, e3, h3⟩ : ∃ l k e, allS (s ++ t).data.toList = (l, k, e) := ⟨_, _, _, rfl⟩
    have C3 := fun W => Lib.hid (sall_lit (s ++ t) l3 l3.length k3 k3 e3 W hstz h3 rfl rfl)
    have heb : (e1 != 0) = true := by simpa using he1
    clear happ h1 h2 hst hstl hstz he1 h3
    go_enter Try.func7, Try.ntmps7
    go_wp2_with (first
      | (go_at_call 10; refine (fixed_true _).mono ?_; rintro e v1 ⟨rfl, hb1⟩; replace hb := Below.step hb hb1; clear hb1)
      | (go_at_call 13; with_reducible refine (C1 _).out.mono ?_; rintro e v2 ⟨A1, c1, rfl, hS1, hb2⟩; replace hb := Below.step hb hb2; clear hb2)
      | (go_at_call 13; with_reducible refine (C2 _).out.mono ?_; rintro e v3 ⟨A2, c2, rfl, hS2, hb3⟩; replace hb := Below.step hb hb3; clear hb3)
      | (go_at_call 13; with_reducible refine (C3 _).out.mono ?_; rintro e v4 ⟨A3, c3, rfl, hS3, hb4⟩; replace hb := Below.step hb hb4; clear hb4))
    go_ret
    exact ⟨rfl, hb⟩

set_option maxHeartbeats 1000000 in
set_option maxRecDepth 100000 in
theorem other (s t : ByteArray) (w : World) (hs : s.size ≤ maxLen) (ht : t.size ≤ maxLen) (h : 200 < s.size ∨ 200 < t.size) :
    Calls Try.prog 7 #[.string s, .string t] w fun e w' => e = .returned (.bool true) ∧ Below w.heap.size w w' := by
  have hb : Below w.heap.size w w := Below.refl _ _
  unfold maxLen at hs ht
  have hc : (200 : Int) < s.size ∨ (s.size ≤ 200 ∧ (200 : Int) < t.size) := by omega
  clear h
  rcases hc with h | ⟨h, h'⟩
  all_goals
    go_enter Try.func7, Try.ntmps7
    go_wp2_with (go_at_call 10; refine (fixed_true _).mono ?_; rintro e v1 ⟨rfl, hb1⟩; replace hb := Below.step hb hb1; clear hb1)
    go_ret
    exact ⟨rfl, hb⟩

theorem walk (a0 a1 : ByteArray) (w0 : a0.size ≤ maxLen) (w1 : a1.size ≤ maxLen) (w : World) :
    Calls Try.prog 7 #[.string a0, .string a1] w fun e w' => e = .returned (.bool true) ∧ Below w.heap.size w w' := by
  by_cases h : 200 < a0.size ∨ 200 < a1.size
  · exact other a0 a1 w w0 w1 h
  · exact good a0 a1 w (by omega) (by omega)
end Go.Proofs.Yteikmkbaokfgeaa.sectBoth
