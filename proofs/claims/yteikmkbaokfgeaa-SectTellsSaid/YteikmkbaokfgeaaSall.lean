/- Layer 3: bytes as sections: the code's All. -/
import Derived.Test.YteikmkbaokfgeaaSgin
import Derived.Test.YteikmkbaokfgeaaSsec
import Derived.OwnWalk
namespace Go.Proofs.Yteikmkbaokfgeaa
set_option linter.unusedVariables false
set_option linter.unusedSimpArgs false
open Go.RowKit Go.ChangeShapes Go.WideShapes Go.ChangeAt Cm

def packS (l : List (Int × List UInt8)) : List (Int × ByteArray) := l.map fun x => (x.1, ⟨x.2.toArray⟩)
def flatS (l : List (Int × List UInt8)) : List Value := l.flatMap fun x => [.int .i64 x.1, .string ⟨x.2.toArray⟩]
theorem flatS_len : ∀ l, (flatS l).length = l.length * 2
  | [] => rfl
  | x :: l => by simp only [flatS, List.flatMap_cons, List.length_append, List.length_cons, List.length_nil]; have := flatS_len l; unfold flatS at this; omega
theorem flatS_snoc (l : List (Int × List UInt8)) (x : Int × List UInt8) : flatS (l ++ [x]) = flatS l ++ [.int .i64 x.1, .string ⟨x.2.toArray⟩] := by simp [flatS]
theorem flatS_at : ∀ (l : List (Int × List UInt8)) (j : Nat) (h : j < l.length), (flatS l)[j * 2]? = some (.int .i64 l[j].1) ∧ (flatS l)[j * 2 + 1]? = some (.string ⟨l[j].2.toArray⟩)
  | x :: l, 0, _ => by simp [flatS]
  | x :: l, j + 1, h => by
    have ih := flatS_at l j (by simpa using h)
    have e : flatS (x :: l) = .int .i64 x.1 :: .string ⟨x.2.toArray⟩ :: flatS l := by simp [flatS]
    rw [e, show (j + 1) * 2 = j * 2 + 1 + 1 by omega, List.getElem?_cons_succ, List.getElem?_cons_succ, show j * 2 + 1 + 1 + 1 = (j * 2 + 1) + 1 + 1 by omega, List.getElem?_cons_succ, List.getElem?_cons_succ]
    exact ih
theorem packS_len (l : List (Int × List UInt8)) : (packS l).length = l.length := by simp [packS]

/-- The call's own list of sections. -/
def OwnS (w : World) (B : Nat) (v : Value) (l : List (Int × List UInt8)) : Prop := w.ownsRow B 32 2 v l.length (flatS l)
theorem OwnS.secs {w : World} {B : Nat} {v : Value} {l : List (Int × List UInt8)} (h : OwnS w B v l) : ∃ A c, v = .slice A l.length c ∧ Secs w w.heap.size A (packS l) := by
  unfold OwnS at h
  have hc := fun g hg => h.cells (g := g) hg
  have hlt := h.lt
  rcases h.2 with ⟨rfl, h0⟩ | ⟨g, cap, cur, rfl, _⟩
  · rw [h0]
    have e : l = [] := List.eq_nil_of_length_eq_zero h0
    subst e
    exact ⟨none, 0, rfl, Secs.nil _ _ _⟩
  · refine ⟨_, _, rfl, fun _ => ⟨g, 0, rfl, (hlt g rfl).2, fun j hj => ?_⟩⟩
    have hj' : j < l.length := by rw [packS_len] at hj; exact hj
    obtain ⟨e1, e2⟩ := flatS_at l j hj'
    have k1 := hc g rfl _ _ e1
    have k2 := hc g rfl _ _ e2
    have a1 : (⟨g, 0, none⟩ : Addr).add (j * 2) = ⟨g, 0 + j * 2, none⟩ := by unfold Addr.add; split <;> simp [*]
    have a2 : (⟨g, 0, none⟩ : Addr).add (j * 2 + 1) = ⟨g, 0 + j * 2 + 1, none⟩ := by unfold Addr.add; rw [if_neg (by omega)]; simp
    rw [a1] at k1
    rw [a2] at k2
    have e3 : (packS l)[j] = (l[j].1, ⟨l[j].2.toArray⟩) := by simp [packS]
    rw [e3]
    exact ⟨k1, k2⟩
theorem OwnS.nil (w : World) (B : Nat) : OwnS w B (.slice none 0 0) [] := World.ownsRow_nil _ _ _ _
theorem OwnS.below {w w' : World} {B : Nat} {v : Value} {l : List (Int × List UInt8)} (h : OwnS w B v l) (hb : Below w.heap.size w w') : OwnS w' B v l := by
  unfold OwnS at h ⊢
  refine h.kept (row := none) ⟨hb.os, hb.tape, hb.output, hb.size, fun k hk _ => hb.block k hk⟩ ?_
  cases hv : v.ownBlock with
  | none => exact .inl rfl
  | some k => exact .inr (by simp)

theorem infoSec : (Try.prog.info? 32).map (fun i => (i.zero, i.size, i.bytes)) = some (some (.agg #[.int .i64 0, .string ⟨#[]⟩]), 2, 24) := by kernel_rfl

/-- One section more. -/
theorem wpList_append_sec {w : World} {ops : Array Oper} {rest : List Oper} {o : Oper} {a : Act} {Q : Exit → Act → World → Prop}
    (hg : o.guard = none) (s x : Operand) (hop : o.op = Op.call { callee := Callee.builtin Builtin.append, args := #[s, x], argTypes := #[22, 22] })
    (B : Nat) (w0 : World) (v : Value) (l : List (Int × List UInt8)) (t : Int) (p : List UInt8) (hw : w = w0.alloc (.cells #[.int .i64 t, .string ⟨p.toArray⟩] 32)) (hs : a.eval s = v) (own : OwnS w0 B v l)
    (hx : a.eval x = .slice (some ⟨w0.heap.size, 0, none⟩) 1 1) (hlen : l.length ≤ 1000000) (hB : B ≤ w0.heap.size)
    (h : ∀ v' w', OwnS w' B v' (l ++ [(t, p)]) → Below B w0 w' → wpList Try.prog ops Q rest (a.put o.dst v') w') : wpList Try.prog ops Q (o :: rest) a w := by
  subst hw
  obtain ⟨i, hi, hz0, hz1, hz2⟩ := info_parts infoSec
  have own' : (w0.alloc (.cells #[.int .i64 t, .string ⟨p.toArray⟩] 32)).ownsRow B 32 2 v l.length (flatS l) := own.alloc _
  refine wpList_append_own _ hg s x 22 hop B 32 i (.agg #[.int .i64 0, .string ⟨#[]⟩]) 2 24 Try.underlying22 hi hz0 hz1 hz2 rfl (by decide) v l.length (flatS l) hs own' ⟨w0.heap.size, 0, none⟩ 1 1 [.int .i64 t, .string ⟨p.toArray⟩] hx rfl ?_ ?_ (by unfold maxLen; omega) (by omega) (by simp; omega) ?_
  · intro j u hu
    rcases j with _ | _ | j
    · simp at hu; subst hu; simp [Addr.add, go_sem]
    · simp at hu; subst hu; simp [Addr.add, go_sem]
    · simp at hu
  · intro u hu; simp at hu; rcases hu with rfl | rfl <;> rfl
  · intro v' w' h1 h2 _
    refine h v' w' ?_ (((Below.refl B w0).alloc hB _).grown h2 (by simp; omega) (fun k hk => (own.lt k hk).1))
    unfold OwnS
    rw [flatS_snoc, List.length_append]
    exact h1

theorem allS_step (s : List UInt8) (l : List (Int × List UInt8)) (i : Nat) (c : UInt8) (t : List UInt8) (hd : s.drop i = c :: t) (he : (secG c t).2.2 = 0)
    (h : allS s = if (allS (s.drop i)).2.2 ≠ 0 then ([], i + (allS (s.drop i)).2.1, (allS (s.drop i)).2.2) else (l ++ (allS (s.drop i)).1, i + (allS (s.drop i)).2.1, 0)) :
    s.drop (i + 1 + (secG c t).2.1) = t.drop (secG c t).2.1 ∧
    allS s = if (allS (s.drop (i + 1 + (secG c t).2.1))).2.2 ≠ 0 then ([], i + 1 + (secG c t).2.1 + (allS (s.drop (i + 1 + (secG c t).2.1))).2.1, (allS (s.drop (i + 1 + (secG c t).2.1))).2.2)
      else ((l ++ [((c.toNat : Int), (secG c t).1)]) ++ (allS (s.drop (i + 1 + (secG c t).2.1))).1, i + 1 + (secG c t).2.1 + (allS (s.drop (i + 1 + (secG c t).2.1))).2.1, 0) := by
  have e : s.drop (i + 1 + (secG c t).2.1) = t.drop (secG c t).2.1 := by
    rw [show i + 1 + (secG c t).2.1 = i + (1 + (secG c t).2.1) by omega, ← List.drop_drop, hd, show 1 + (secG c t).2.1 = (secG c t).2.1 + 1 by omega, List.drop_succ_cons]
  refine ⟨e, ?_⟩
  rw [e]
  have he' : ¬ (secG c t).2.2 ≠ 0 := by simpa using he
  rw [hd, allS_cons, if_neg he'] at h
  by_cases h1 : (allS (t.drop (secG c t).2.1)).2.2 = 0
  · have h1' : ¬ (allS (t.drop (secG c t).2.1)).2.2 ≠ 0 := by simpa using h1
    rw [if_neg h1'] at h
    simp only at h
    rw [if_neg (by simp)] at h
    rw [h, if_neg h1']
    refine Prod.ext ?_ (Prod.ext ?_ rfl)
    · simp
    · simp only; omega
  · rw [if_pos h1] at h
    simp only at h
    rw [if_pos h1] at h
    rw [h, if_pos h1]
    refine Prod.ext rfl (Prod.ext ?_ rfl)
    simp only; omega

/-- What Get tells within the bytes. -/
theorem getS_in {s : List UInt8} {i : Nat} {c : UInt8} {t : List UInt8} (hd : s.drop i = c :: t) : getS s i = if (secG c t).2.2 ≠ 0 then (0, [], (i : Int), (secG c t).2.2) else ((c.toNat : Int), (secG c t).1, (i : Int) + 1 + (secG c t).2.1, 0) := by
  have hl : i < s.length := by
    rcases Nat.lt_or_ge i s.length with h | h
    · exact h
    · rw [List.drop_of_length_le h] at hd; cases hd
  unfold getS
  rw [if_neg (by omega), Int.toNat_natCast, hd]

def AllR (s : ByteArray) (w : World) (at_ v : Value) (wr : World) : Prop :=
  ∃ (i : Nat) (l : List (Int × List UInt8)), i ≤ s.size ∧ at_ = .int .i64 i ∧ OwnS wr w.heap.size v l ∧ l.length ≤ i ∧ Below w.heap.size w wr ∧
    allS s.data.toList = if (allS (s.data.toList.drop i)).2.2 ≠ 0 then ([], i + (allS (s.data.toList.drop i)).2.1, (allS (s.data.toList.drop i)).2.2) else (l ++ (allS (s.data.toList.drop i)).1, i + (allS (s.data.toList.drop i)).2.1, 0)
theorem AllR.start (s : ByteArray) (w wr : World) (v : Value) (hv : OwnS wr w.heap.size v []) (hb : Below w.heap.size w wr) : AllR s w (.int .i64 0) v wr := by
  refine ⟨0, [], by omega, rfl, hv, by simp, hb, ?_⟩
  rw [List.drop_zero]
  split
  · rename_i h
    exact Prod.ext (allS_bad h) (Prod.ext (by simp) rfl)
  · rename_i h
    exact Prod.ext (by simp) (Prod.ext (by simp) (by simpa using h))

set_option maxHeartbeats 1000000 in
set_option maxRecDepth 100000 in
theorem sall_any (s : ByteArray) (w : World) (hs : s.size ≤ 1000000) :
    Calls Try.prog 13 #[.string s] w fun e w' => ∃ A c, e = .returned (.tuple #[.slice A (allS s.data.toList).1.length c, .int .i64 (allS s.data.toList).2.1, .int .i64 (allS s.data.toList).2.2]) ∧ Secs w' w'.heap.size A (packS (allS s.data.toList).1) ∧ Below w.heap.size w w' := by
  have hl : s.data.toList.length = s.size := rfl
  go_enter Try.func13, Try.ntmps13
  go_wp2
  go_loopw [5, 6] (fun v i wr => AllR s w i v wr) (fun _ i _ => s.size - (intOf i).toNat)
  case atStart => exact AllR.start s w w _ (OwnS.nil _ _) (Below.refl _ _)
  case round =>
    obtain ⟨i, l, hi, rfl, hv, hll, hb, hall⟩ := hrel
    by_cases hlt : i < s.size
    · have hd := drop_cons s i hlt
      generalize s.data.toList.drop (i + 1) = t at *
      have hg := getS_in hd
      have hbd := secG_bd s[i] t
      have htl : t.length + 1 = s.size - i := by
        have := congrArg List.length hd
        simp at this; omega
      by_cases he : (secG s[i] t).2.2 = 0
      · rw [if_neg (by simpa using he)] at hg
        obtain ⟨hd2, hall2⟩ := allS_step _ l i _ _ hd he hall
        have CG := fun W => Lib.hid (sget_lit s i _ _ _ _ W (by unfold maxLen; omega) hg)
        have H2 := Lib.hid hall2
        clear hall hall2 hd2 hg he
        have hc := (tag_lt s[i]).2
        generalize (secG s[i] t).2.1 = k at *
        generalize (secG s[i] t).1 = p at *
        generalize ((s[i].toNat : Nat) : Int) = T at *
        clear hd
        have hk1 : (i : Int) < s.size := by omega
        obtain ⟨j, hj⟩ : ∃ j : Nat, (i : Int) + 1 + k = (j : Int) := ⟨i + 1 + k, by omega⟩
        rw [hj] at CG
        have hj' : i + 1 + k = j := by omega
        rw [hj'] at H2
        go_wp2_with (first
          | (go_at_call 11; (with_reducible refine (CG _).out.mono ?_); rintro e w1 ⟨rfl, hb1⟩; replace hv := OwnS.below hv hb1; have hbw := Below.step hb hb1; clear hb1)
          | (at_builtin; refine wpList_append_sec rfl _ _ rfl w.heap.size w1 _ l T p rfl rfl hv rfl (by omega) hbw.size ?_; intro v' w2 hv2 hb2))
        go_roundw
        case rel => exact ⟨j, l ++ [(T, p)], by omega, rfl, hv2, by simp; omega, hbw.trans hb2, H2.out⟩
        case measure => simp [intOf]; omega
      · rw [if_pos he] at hg
        have CG := fun W => Lib.hid (sget_lit s i _ _ _ _ W (by unfold maxLen; omega) hg)
        have hfin : allS s.data.toList = ([], i, (secG s[i] t).2.2) := by
          rw [hall, hd, allS_cons, if_pos he]; simp only; rw [if_pos he]; simp
        have HFIN := Lib.hid hfin
        have heb : ((secG s[i] t).2.2 != 0) = true := by simpa using he
        clear hall hfin he hg hd hbd
        generalize (secG s[i] t).2.2 = E at *
        have hk1 : (i : Int) < s.size := by omega
        go_wp2_with (go_at_call 11; (with_reducible refine (CG _).out.mono ?_); rintro e w1 ⟨rfl, hb1⟩; have hbw := Below.step hb hb1; clear hb1)
        refine bodyPost_ret (v := .tuple #[.slice none 0 0, .int .i64 i, .int .i64 E]) (by simp [results, Try.results13, go_sem]) rfl ?_
        rw [HFIN.out]
        exact ⟨none, 0, rfl, Secs.nil _ _ _, hbw⟩
    · obtain rfl : i = s.size := by omega
      have hfin : allS s.data.toList = (l, s.size, 0) := by
        rw [hall, List.drop_of_length_le (by rw [hl]; exact Nat.le_refl _), allS_nil]; simp
      have HFIN := Lib.hid hfin
      clear hall hfin
      obtain ⟨A, c, rfl, hS⟩ := hv.secs
      go_wp2
      refine bodyPost_ret (v := .tuple #[.slice A l.length c, .int .i64 s.size, .int .i64 0]) (by simp [results, Try.results13, go_sem]) rfl ?_
      rw [HFIN.out]
      exact ⟨A, c, rfl, hS, hb⟩
theorem Secs.alloc {w : World} {A : Option Addr} {ss : List (Int × ByteArray)} (h : Secs w w.heap.size A ss) (o : Obj) : Secs (w.alloc o) w.heap.size A ss := h.below ((Below.refl _ _).alloc (Nat.le_refl _) o) (Nat.le_refl _)
theorem OwnS.made (w : World) : OwnS (w.alloc (.cells #[] 32)) w.heap.size (.slice (some ⟨w.heap.size, 0, none⟩) 0 0) [] :=
  World.ownsRow_made w #[] 0 (Nat.le_refl _) (by decide) rfl
end Go.Proofs.Yteikmkbaokfgeaa
