/- Layer 7: the document's Decode at every input. -/
import Derived.Test.YtcfdbciooimjmaaGreatDoorzGn
import Derived.Test.YtcfdbciooimjmaaGreatDoorzPrm
namespace Go.Proofs.YtcfdbciooimjmaaGreatDoor
set_option linter.unusedVariables false
set_option linter.unusedSimpArgs false
open Go.RowKit Go.ChangeShapes Go.WideShapes Go.ChangeAt Go.Sort

set_option maxHeartbeats 2000000 in
set_option maxRecDepth 100000 in
theorem pdec_in2 (s : ByteArray) (n : Nat) (q : Int) (r : List UInt8) (hs : s.size ≤ maxLen) (h1 : 1 ≤ n) (h16 : n ≤ 16) (hq : At s.data.toList q r)
    (G : Ct Tryz.prog 31 #[atv s 0 0, .int .i64 1, .int .i64 16] (.tuple #[.int .i64 n, atv s q 0])) (w : World) :
    Calls Tryz.prog 14 #[.string s] w fun e w' => ∃ A c p er, e = .returned (.tuple #[.slice A p.length c, .int .i64 er]) ∧ (p, er) = decM n r ∧ ProgAt w' w'.heap.size A p ∧ Below w.heap.size w w' := by
  have h16' : (n : Int) ≤ 16 := by omega
  go_enter Tryz.func14, Tryz.ntmps14
  go_wp2_with (go_at_call 31; (with_reducible refine (G.go _).mono ?_); rintro e v ⟨rfl, hb⟩; have hsz := hb.size)
  go_loopw [6, 7] (fun p i wr => ∃ (k : Nat) (l : List (Fun × Value)) (j er : Int), i = .int .i64 k ∧ k ≤ n ∧ l.length = k ∧ OwnL wr (v.heap.size + 1) p l ∧ Held wr v.heap.size 54 #[.string s, .int .i64 j, .int .i64 er] ∧ Below w.heap.size w wr ∧ v.heap.size + 1 ≤ wr.heap.size ∧
    ((er = 0 ∧ ∃ t, At s.data.toList j t ∧ manyR funR n r = contM (l.map (·.1)) (manyR funR (n - k) t)) ∨ (er ≠ 0 ∧ manyR funR n r = .inl er))) (fun _ i _ => n - (intOf i).toNat)
  case atStart =>
    exact ⟨0, [], q, 0, rfl, by omega, rfl, by simpa using OwnL.made (v.alloc (.cells #[.string s, .int .i64 q, .int .i64 0] 54)), (Held.new v _ _).alloc _, (hb.alloc hsz _).alloc (by simp; omega) _, by simp, .inl ⟨rfl, r, hq, by simp [contM_start]⟩⟩
  case round =>
    obtain ⟨k, l, j, er, rfl, hk, hl, hO, hH, hbw, hz, hcase⟩ := hrel
    have c0 : wr.cell? ⟨v.heap.size, 0, none⟩ = some (.string s) := by simpa using hH.cell 0
    have c1 : wr.cell? ⟨v.heap.size, 1, none⟩ = some (.int .i64 j) := by simpa using hH.cell 1
    have c2 : wr.cell? ⟨v.heap.size, 2, none⟩ = some (.int .i64 er) := by simpa using hH.cell 2
    rcases hcase with ⟨rfl, t, hat, hm⟩ | ⟨he, hm⟩
    · by_cases hlt : k < n
      · have HF := Lib.hid (fun W => pfun_any s j t hs hat W)
        have HO := Lib.hid hO
        have HH := Lib.hid hH
        have HM := Lib.hid hm
        have HL := Lib.hid hl
        clear hO hH hm hl hat
        go_wp2_with (first
          | (go_at_call 32; (with_reducible refine (HF.out _).mono ?_); rintro e u ⟨f, q2, e2, c, rfl, f1, f2, hoc, hbu⟩; have H1 := Lib.hid f1; have H2 := Lib.hid f2; clear f1 f2; have hsu := hbu.size; obtain ⟨Ac, cc, rfl, _⟩ := hoc.code)
          | (at_builtin; refine wpList_append_fun2 _ Tryz.underlying23 rfl _ _ rfl (v.heap.size + 1) _ _ l f (.slice Ac f.code.length cc) rfl rfl (HO.out.two hbu _ _) (hoc.two hz _ _) (codes_apart HO.out hoc) (by show Value.slice (some ⟨u.heap.size + 1 + 1, 0, none⟩) 1 1 = _; simp) (by rw [HL.out]; omega) (by simp; omega) ?_; intro v' w2 ho2 hg2; have K9 := (Held.new1 u _ _ _).grown hg2 (row_far HO.out (.inr (by omega))); have K5 := ((((HH.out.below hbu).alloc _).alloc _).grown hg2 (row_far HO.out (.inl (by omega)))); have t9 := K9.three; have t5 := K5.three; have hO2 := Lib.hid ho2; have hK5 := Lib.hid K5; have hG2 := Lib.hid hg2; obtain ⟨a0, a1, a2, _, _, _⟩ := t9; obtain ⟨b0, b1, b2, b3, b4, b5⟩ := t5; clear ho2 hg2 K9 K5))
        have hbw2 : Below w.heap.size w w2 := (((Below.step hbw hbu).alloc (by omega) _).alloc (by simp; omega) _).grown hG2.out (by simp; omega) (fun b e => by have := (HO.out.1.lt b e).1; omega)
        have hsz2 := hG2.out.size
        simp at hsz2
        go_round
        case rel =>
          cases hf : funR t with
          | inl e =>
            obtain ⟨rfl, he⟩ := H2.out e hf
            exact ⟨k + 1, l ++ [(f, .slice Ac f.code.length cc)], q2, e2, by go_num, by omega, by rw [List.length_append, HL.out]; rfl, own_set3 hO2.out (by omega), set3 hK5.out, below_set3 hbw2 hsz, by simp [World.setCell]; omega,
              .inr ⟨he, by rw [HM.out, show n - k = (n - k - 1) + 1 by omega, contM_bad _ _ hf]⟩⟩
          | inr x =>
            obtain ⟨g, r1⟩ := x
            obtain ⟨rfl, rfl, ha⟩ := H1.out g r1 hf
            exact ⟨k + 1, l ++ [(f, .slice Ac f.code.length cc)], q2, 0, by go_num, by omega, by rw [List.length_append, HL.out]; rfl, own_set3 hO2.out (by omega), set3 hK5.out, below_set3 hbw2 hsz, by simp [World.setCell]; omega,
              .inl ⟨rfl, r1, ha, by rw [HM.out, show n - k = (n - (k + 1)) + 1 by omega, contM_step _ _ hf, List.map_append]; rfl⟩⟩
        case measure => simp [intOf]; omega
      · obtain rfl : k = n := by omega
        rw [Nat.sub_self, contM_end] at hm
        obtain ⟨a0, a1, a2⟩ := hat
        have hls : s.data.toList.length = s.size := rfl
        by_cases ht : t = []
        · have hd : decM k r = (l.map (·.1), 0) := by unfold decM; rw [hm]; simp only; rw [if_pos ht]
          have hj : (s.size : Int) ≤ j := by
            have := congrArg List.length a2
            rw [ht, List.length_drop, List.length_nil] at this
            omega
          have HD := Lib.hid hd
          obtain ⟨A, c, rfl, hp⟩ := hO.prog
          clear hd hm hO hH a2 ht
          go_wp2_with fail
          go_returns
          exact ⟨A, c, l.map (·.1), 0, by rw [List.length_map, hl]; rfl, HD.out.symm, hp, hbw⟩
        · have hd : decM k r = ([], 72) := by unfold decM; rw [hm]; simp only; rw [if_neg ht]
          have hj : j < (s.size : Int) := by
            rcases Int.lt_or_le j s.size with h | h
            · exact h
            · exact absurd (by rw [← a2]; exact List.drop_eq_nil_of_le (by omega)) ht
          have HD := Lib.hid hd
          clear hd hm hO hH a2 ht
          go_wp2_with fail
          go_returns
          exact ⟨none, 0, [], 72, rfl, HD.out.symm, ProgAt.nil _ _ _, hbw⟩
    · have hd : decM n r = ([], er) := by unfold decM; rw [hm]
      have HD := Lib.hid hd
      have e1 : (er == 0) = false := by simpa using he
      have e2 : (er != 0) = true := by simpa using he
      have hszw := hbw.size
      clear hd hm hO hH he
      go_wp2_with fail
      all_goals (try go_region)
      all_goals (try go_wp2_with fail)
      all_goals go_returns
      all_goals exact ⟨none, 0, [], er, rfl, HD.out.symm, ProgAt.nil _ _ _, by go_grown⟩
theorem pdec_all (l : List UInt8) (w : World) (hl : l.length ≤ 1000000) :
    Calls Tryz.prog 14 #[.string ⟨l.toArray⟩] w fun e w' => ∃ A c, e = .returned (.tuple #[.slice A (decP l).1.length c, .int .i64 (decP l).2]) ∧ ProgAt w' w'.heap.size A (decP l).1 ∧ Below w.heap.size w w' := by
  have hd : (⟨l.toArray⟩ : ByteArray).data.toList = l := by simp
  have hs : (⟨l.toArray⟩ : ByteArray).size ≤ maxLen := by
    show l.toArray.size ≤ maxLen
    simp only [List.size_toArray]
    unfold maxLen
    omega
  have hat : At (⟨l.toArray⟩ : ByteArray).data.toList 0 l := by rw [hd]; exact ⟨by omega, by omega, rfl⟩
  have N := pnum_in ⟨l.toArray⟩ 0 1 16 l hs hat
  cases hn : numR 1 16 l with
  | inl e =>
    obtain ⟨n, q, G⟩ := N.2 e hn
    have e0 : decP l = ([], e) := by rw [decP_of, hn]
    rw [e0]
    exact ((pdec_bad _ n q e (numR_nz _ _ _ _ hn) G).go w).mono fun x w' ⟨h1, h2⟩ => ⟨none, 0, h1, ProgAt.nil _ _ _, h2⟩
  | inr x =>
    obtain ⟨n, r⟩ := x
    obtain ⟨q, hq, G⟩ := N.1 n r hn
    have hb : 1 ≤ n ∧ n ≤ 16 := by
      obtain ⟨_, b1, b2, _⟩ := numR_of _ _ _ hn
      exact ⟨b1, b2⟩
    obtain ⟨m, rfl⟩ := Int.eq_ofNat_of_zero_le (show 0 ≤ n by omega)
    refine (pdec_in2 _ m q r hs (by omega) (by omega) hq G w).mono fun x w' ⟨A, c, p, er, h1, h2, h3, h4⟩ => ?_
    have e : decP l = (p, er) := by rw [decP_of, hn]; exact h2.symm
    rw [e]
    exact ⟨A, c, h1, h3, h4⟩
end Go.Proofs.YtcfdbciooimjmaaGreatDoor

