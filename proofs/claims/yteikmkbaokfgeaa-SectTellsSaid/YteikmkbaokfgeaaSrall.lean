/- Layer 3: the document's own answers: bytes as sections. -/
import Derived.Test.YteikmkbaokfgeaaSrget
namespace Go.Proofs.Yteikmkbaokfgeaa
set_option linter.unusedVariables false
set_option linter.unusedSimpArgs false
open Go.RowKit Go.ChangeShapes Go.WideShapes Go.ChangeAt Cm

set_option maxHeartbeats 1000000 in
set_option maxRecDepth 100000 in
theorem rsall_any (s : ByteArray) (w : World) (hs : s.size ≤ 1000000) :
    Calls Try.prog 14 #[.string s] w fun e w' => ∃ A c, e = .returned (.tuple #[.slice A (allS s.data.toList).1.length c, .int .i64 (allS s.data.toList).2.1, .int .i64 (allS s.data.toList).2.2]) ∧ Secs w' w'.heap.size A (packS (allS s.data.toList).1) ∧ Below w.heap.size w w' := by
  have hl : s.data.toList.length = s.size := rfl
  go_enter Try.func14, Try.ntmps14
  go_wp2
  go_loopw [5, 6] (fun v i wr => AllR s w i v wr) (fun _ i _ => s.size - (intOf i).toNat)
  case atStart => exact AllR.start s w _ _ (OwnS.made w) ((Below.refl _ _).alloc (Nat.le_refl _) _)
  case round =>
    obtain ⟨i, l, hi, rfl, hv, hll, hb, hall⟩ := hrel
    by_cases hlt : i < s.size
    · have hd := drop_cons s i hlt
      generalize s.data.toList.drop (i + 1) = t at *
      have hg := getS_in hd
      have hbd := secG_bd s[i] t
      have htl : t.length + 1 = s.size - i := by
        have := congrArg List.length hd
        simp at this; omega
      by_cases he : (secG s[i] t).2.2 = 0
      · rw [if_neg (by simpa using he)] at hg
        obtain ⟨hd2, hall2⟩ := allS_step _ l i _ _ hd he hall
        have CG := fun W => Lib.hid (rsget_lit s i _ _ _ _ W (by omega) hg)
        have H2 := Lib.hid hall2
        clear hall hall2 hd2 hg he
        have hc := (tag_lt s[i]).2
        generalize (secG s[i] t).2.1 = k at *
        generalize (secG s[i] t).1 = p at *
        generalize ((s[i].toNat : Nat) : Int) = T at *
        clear hd
        have hk1 : (i : Int) < s.size := by omega
        obtain ⟨j, hj⟩ : ∃ j : Nat, (i : Int) + 1 + k = (j : Int) := ⟨i + 1 + k, by omega⟩
        rw [hj] at CG
        have hj' : i + 1 + k = j := by omega
        rw [hj'] at H2
        go_wp2_with (first
          | (go_at_call 12; (with_reducible refine (CG _).out.mono ?_); rintro e w1 ⟨rfl, hb1⟩; replace hv := OwnS.below hv hb1; have hbw := Below.step hb hb1; clear hb1)
          | (at_builtin; refine wpList_append_sec rfl _ _ rfl w.heap.size w1 _ l T p rfl rfl hv rfl (by omega) hbw.size ?_; intro v' w2 hv2 hb2))
        go_roundw
        case rel => exact ⟨j, l ++ [(T, p)], by omega, rfl, hv2, by simp; omega, hbw.trans hb2, H2.out⟩
        case measure => simp [intOf]; omega
      · rw [if_pos he] at hg
        have CG := fun W => Lib.hid (rsget_lit s i _ _ _ _ W (by omega) hg)
        have hfin : allS s.data.toList = ([], i, (secG s[i] t).2.2) := by
          rw [hall, hd, allS_cons, if_pos he]; simp only; rw [if_pos he]; simp
        have HFIN := Lib.hid hfin
        have heb : ((secG s[i] t).2.2 != 0) = true := by simpa using he
        clear hall hfin he hg hd hbd
        generalize (secG s[i] t).2.2 = E at *
        have hk1 : (i : Int) < s.size := by omega
        go_wp2_with (go_at_call 12; (with_reducible refine (CG _).out.mono ?_); rintro e w1 ⟨rfl, hb1⟩; have hbw := Below.step hb hb1; clear hb1)
        refine bodyPost_ret (v := .tuple #[.slice none 0 0, .int .i64 i, .int .i64 E]) (by simp [results, Try.results14, go_sem]) rfl ?_
        rw [HFIN.out]
        exact ⟨none, 0, rfl, Secs.nil _ _ _, hbw⟩
    · obtain rfl : i = s.size := by omega
      have hfin : allS s.data.toList = (l, s.size, 0) := by
        rw [hall, List.drop_of_length_le (by rw [hl]; exact Nat.le_refl _), allS_nil]; simp
      have HFIN := Lib.hid hfin
      clear hall hfin
      obtain ⟨A, c, rfl, hS⟩ := hv.secs
      go_wp2
      refine bodyPost_ret (v := .tuple #[.slice A l.length c, .int .i64 s.size, .int .i64 0]) (by simp [results, Try.results14, go_sem]) rfl ?_
      rw [HFIN.out]
      exact ⟨A, c, rfl, hS, hb⟩
end Go.Proofs.Yteikmkbaokfgeaa
