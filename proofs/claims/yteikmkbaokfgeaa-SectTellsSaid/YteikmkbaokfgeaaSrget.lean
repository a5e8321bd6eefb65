/- Layer 3: the document's own answers: a section that stands in bytes. -/
import Derived.Test.YteikmkbaokfgeaaSrp
import Derived.Test.YteikmkbaokfgeaaCref
import Derived.Test.YteikmkbaokfgeaaWref
import Derived.Test.YteikmkbaokfgeaaWrefx
import Derived.Test.YteikmkbaokfgeaaSall
namespace Go.Proofs.Yteikmkbaokfgeaa
set_option linter.unusedVariables false
set_option linter.unusedSimpArgs false
open Go.RowKit Go.ChangeShapes Go.WideShapes Go.ChangeAt Cm

theorem gfx_drop (s : List UInt8) (b x : Nat) (h : b + x ≤ s.length) : (gfxF s (b + x)).1 = (gfxF (s.drop b) x).1 ∧ (x + 4 ≤ (s.drop b).length → gfxF s (b + x) = ((gfxF (s.drop b) x).1, (b : Int) + x + 4, 0)) := by
  have e1 : ((b : Int) + x).toNat = b + x := by omega
  have e2 : s.drop (b + x) = (s.drop b).drop x := by rw [List.drop_drop]
  unfold gfxF
  rw [if_neg (by omega), if_neg (by simp; omega), e1, Int.toNat_natCast, e2]
  constructor
  · split <;> rfl
  · intro h4
    have hl : 4 ≤ ((s.drop b).drop x).length := by rw [List.length_drop]; omega
    match hd : (s.drop b).drop x with
    | b0 :: b1 :: b2 :: b3 :: r => rfl
    | [] => rw [hd] at hl; simp at hl
    | [_] => rw [hd] at hl; simp at hl
    | [_, _] => rw [hd] at hl; simp at hl
    | [_, _, _] => rw [hd] at hl; simp at hl

theorem rget_lit (s : ByteArray) (a n p q : Int) (w : World) (hs : s.size ≤ maxLen) (h : getF s.data.toList a = (n, p, q)) :
    Calls Try.prog 27 #[.string s, .int .i64 a] w fun e w' => e = .returned (.tuple #[.int .i64 n, .int .i64 p, .int .i64 q]) ∧ w = w' := by
  have := rget_all s a w hs; rw [h] at this; exact this
theorem rfix_lit (s : ByteArray) (a n p q : Int) (w : World) (hs : s.size ≤ 1048576) (h : gfxF s.data.toList a = (n, p, q)) :
    Calls Try.prog 28 #[.string s, .int .i64 a] w fun e w' => e = .returned (.tuple #[.int .i64 n, .int .i64 p, .int .i64 q]) ∧ Below w.heap.size w w' := by
  have := rfix_all s a w hs; rw [h] at this; exact this
theorem rof_str (s : ByteArray) (l : List UInt8) (n : Int) (w : World) (hs : s = ⟨l.toArray⟩) (hl : l.length ≤ maxLen) (h : rollF 0 l = n) :
    Calls Try.prog 29 #[.string s] w fun e w' => e = .returned (.int .i64 n) ∧ w = w' := by
  subst hs h
  exact rof_any _ w (by show l.toArray.size ≤ _; rw [List.size_toArray]; exact hl)
theorem tagged_str (c : UInt8) (t : ByteArray) (w : World) (ht : t.size ≤ 1048576) :
    Calls Try.prog 30 #[.int .i64 (c.toNat : Int), .string t] w fun e w' => e = .returned (.string ⟨(c :: t.data.toList).toArray⟩) ∧ Below w.heap.size w w' := by
  have := tagged_any c.toNat t w c.toNat_lt ht
  rw [UInt8.ofNat_toNat] at this
  exact this

set_option maxHeartbeats 1000000 in
set_option maxRecDepth 100000 in
theorem rsget_out (s : ByteArray) (a : Int) (w : World) (hs : s.size ≤ 1048576) (h : a < 0 ∨ s.size ≤ a) :
    Calls Try.prog 12 #[.string s, .int .i64 a] w fun en w' => en = .returned (.tuple #[.int .i64 0, .string ⟨#[]⟩, .int .i64 a, .int .i64 (if a < 0 ∨ s.size < a then 1 else 10)]) ∧ Below w.heap.size w w' := by
  obtain ⟨e, he⟩ : ∃ e : Int, e = if a < 0 ∨ s.size < a then 1 else 10 := ⟨_, rfl⟩
  rw [← he]
  have hc : (a < 0 ∧ e = 1) ∨ (0 ≤ a ∧ s.size < a ∧ e = 1) ∨ (0 ≤ a ∧ a = s.size ∧ e = 10) := by
    by_cases h0 : a < 0
    · rw [if_pos (.inl h0)] at he; exact .inl ⟨h0, he⟩
    · by_cases h1 : s.size < a
      · rw [if_pos (.inr h1)] at he; exact .inr (.inl ⟨by omega, h1, he⟩)
      · rw [if_neg (by omega)] at he; exact .inr (.inr ⟨by omega, by omega, he⟩)
  clear he h
  rcases hc with ⟨h, rfl⟩ | ⟨h, h', rfl⟩ | ⟨h, h', rfl⟩
  · go_enter Try.func12, Try.ntmps12
    go_wp2_with (go_at_call 26; refine (bad_any _ _ _).mono ?_; rintro e w' ⟨rfl, rfl⟩)
    refine bodyPost_ret (v := .tuple #[.int .i64 0, .string ⟨#[]⟩, .int .i64 a, .int .i64 1]) (by simp [results, Try.results12, go_sem]) rfl ⟨rfl, Below.refl _ _⟩
  · go_enter Try.func12, Try.ntmps12
    go_wp2_with (go_at_call 26; refine (bad_any _ _ _).mono ?_; rintro e w' ⟨rfl, rfl⟩)
    refine bodyPost_ret (v := .tuple #[.int .i64 0, .string ⟨#[]⟩, .int .i64 a, .int .i64 1]) (by simp [results, Try.results12, go_sem]) rfl ⟨rfl, Below.refl _ _⟩
  · have hne : decide (a < 0) = false := by simp; omega
    have heq : (a == (s.size : Int)) = true := by simpa using h'
    have hng : decide ((s.size : Int) < a) = false := by simp; omega
    clear h'
    go_enter Try.func12, Try.ntmps12
    go_wp2_with (go_at_call 26; refine (bad_any _ _ _).mono ?_; rintro e w' ⟨rfl, rfl⟩)
    refine bodyPost_ret (v := .tuple #[.int .i64 0, .string ⟨#[]⟩, .int .i64 a, .int .i64 10]) (by simp [results, Try.results12, go_sem]) rfl ⟨rfl, Below.refl _ _⟩

set_option maxHeartbeats 2000000 in
set_option maxRecDepth 100000 in
theorem rsget_in (s : ByteArray) (a : Nat) (w : World) (hs : s.size ≤ 1048576) (h : a < s.size) :
    Calls Try.prog 12 #[.string s, .int .i64 a] w fun en w' => en = .returned (.tuple #[.int .i64 (getS s.data.toList a).1, .string ⟨(getS s.data.toList a).2.1.toArray⟩, .int .i64 (getS s.data.toList a).2.2.1, .int .i64 (getS s.data.toList a).2.2.2]) ∧ Below w.heap.size w w' := by
  have hl : s.data.toList.length = s.size := rfl
  have hm : s.size ≤ maxLen := by unfold maxLen; omega
  have hd := drop_cons s a h
  have hgs := gfx_drop s.data.toList (a + 1)
  have htl : (s.data.toList.drop (a + 1)).length + (a + 1) = s.size := by rw [List.length_drop, hl]; omega
  have hF : getF s.data.toList ((a : Int) + 1) = ((getL (s.data.toList.drop (a + 1)) 0 0).1, (a : Int) + 1 + (getL (s.data.toList.drop (a + 1)) 0 0).2.1, (getL (s.data.toList.drop (a + 1)) 0 0).2.2) := by
    unfold getF
    rw [if_neg (by rw [hl]; omega), show ((a : Int) + 1).toNat = a + 1 by omega]
  have hget := getS_in (s := s.data.toList) (i := a) hd
  have hbyte : s[a].toNat < 256 := s[a].toNat_lt
  have hex : ∀ x y : Nat, x + y ≤ s.size → s.extract x (x + y) = ⟨((s.data.toList.drop x).take y).toArray⟩ := by
    intro x y hxy
    apply ByteArray.ext
    simp [ByteArray.data_extract]
    apply Array.toList_inj.1
    simp [Array.toList_extract, List.extract_eq_take_drop]
  have hbd := getL_bd (s.data.toList.drop (a + 1)) 0 0 (by omega) (by omega) (by decide)
  have hdd : ∀ k : Nat, (s.data.toList.drop (a + 1)).drop k = s.data.toList.drop (a + 1 + k) := fun k => by rw [List.drop_drop]
  obtain ⟨n, m, e, hg⟩ : ∃ n m e, getL (s.data.toList.drop (a + 1)) 0 0 = (n, m, e) := ⟨_, _, _, rfl⟩
  have hsec : secG s[a] (s.data.toList.drop (a + 1)) = if e ≠ 0 then ([], 0, e) else if 1048576 < n then ([], 0, 11) else if ((s.data.toList.drop (a + 1)).length : Int) - m < n + 4 then ([], 0, 10)
      else if (gfxF (s.data.toList.drop (a + 1)) (m + n)).1 ≠ rollF 0 (s[a] :: ((s.data.toList.drop (a + 1)).drop m).take n.toNat) then ([], 0, 30) else (((s.data.toList.drop (a + 1)).drop m).take n.toNat, m + n.toNat + 4, 0) := by
    rw [secG, hg]
  rw [hg] at hF hbd
  simp only at hF hbd
  have CG := fun W => Lib.hid (rget_lit s _ _ _ _ W hm hF)
  have z0 : decide ((a : Int) < 0) = false := by simp
  have z1 : decide ((s.size : Int) < a) = false := by simp; omega
  have z1' : decide (s.size < a) = false := by simp; omega
  have z2 : ((a : Int) == (s.size : Int)) = false := by simp; omega
  have z3 : IntKind.i64.wrap ((a : Int) + 1) = (a : Int) + 1 := IntWalk.i64_in _ (by omega)
  have z4 : (a : Int) < s.size := by omega
  have hb : Below w.heap.size w w := Below.refl _ _
  clear hF hg hd
  by_cases he : e = 0
  · subst he
    rw [if_neg (by simp)] at hsec
    obtain ⟨b1, b2, b3, _⟩ := hbd
    have b3 := b3 rfl
    obtain ⟨n, rfl⟩ := Int.eq_ofNat_of_zero_le b1
    by_cases h1 : (1048576 : Int) < n
    · rw [if_pos h1] at hsec
      rw [hsec] at hget
      rw [hget]
      clear hget hsec hgs hex hdd b2 b3
      generalize (n : Int) = N at *
      go_enter Try.func12, Try.ntmps12
      go_wp2_with (first
        | (go_at_call 27; (with_reducible refine (CG _).out.mono ?_); rintro e w' ⟨rfl, rfl⟩)
        | (go_at_call 26; refine (bad_any _ _ _).mono ?_; rintro e w' ⟨rfl, rfl⟩))
      refine bodyPost_ret (v := .tuple #[.int .i64 0, .string ⟨#[]⟩, .int .i64 a, .int .i64 11]) (by simp [results, Try.results12, go_sem]) rfl ⟨rfl, hb⟩
    · rw [if_neg h1] at hsec
      have htl' : ((s.data.toList.drop (a + 1)).length : Int) = s.size - (a + 1) := by omega
      have hin1 : IntKind.i64.wrap ((s.size : Int) - ((a : Int) + 1 + m)) = (s.size : Int) - ((a : Int) + 1 + m) := IntWalk.i64_in _ (by omega)
      have hin2 : IntKind.i64.wrap ((n : Int) + 4) = (n : Int) + 4 := IntWalk.i64_in _ (by omega)
      by_cases h2 : ((s.data.toList.drop (a + 1)).length : Int) - m < n + 4
      · rw [if_pos h2] at hsec
        rw [hsec] at hget
        rw [hget]
        have h2' : (s.size : Int) - ((a : Int) + 1 + m) < (n : Int) + 4 := by omega
        have h1' : (n : Int) ≤ 1048576 := by omega
        clear hget hsec hgs hex hdd h2 htl htl' b1 b2
        go_enter Try.func12, Try.ntmps12
        go_wp2_with (first
          | (go_at_call 27; (with_reducible refine (CG _).out.mono ?_); rintro e w' ⟨rfl, rfl⟩)
          | (go_at_call 26; refine (bad_any _ _ _).mono ?_; rintro e w' ⟨rfl, rfl⟩))
        refine bodyPost_ret (v := .tuple #[.int .i64 0, .string ⟨#[]⟩, .int .i64 a, .int .i64 10]) (by simp [results, Try.results12, go_sem]) rfl ⟨rfl, hb⟩
      · rw [if_neg h2, Int.toNat_natCast, hdd] at hsec
        have hg2 := (hgs (m + n) (by rw [hl]; omega)).2 (by omega)
        have hext := hex (a + 1 + m) n (by omega)
        have e1 : ((m : Int) + n) = ((m + n : Nat) : Int) := by omega
        rw [e1] at hsec
        generalize hp : (s.data.toList.drop (a + 1 + m)).take n = p at *
        have hpl : p.length = n := by rw [← hp, List.length_take, List.length_drop, hl]; omega
        generalize (gfxF (s.data.toList.drop (a + 1)) ((m + n : Nat) : Int)).1 = g at *
        obtain ⟨M, hM⟩ : ∃ M : Nat, M = a + 1 + m := ⟨_, rfl⟩
        have hM1 : (a : Int) + 1 + m = (M : Int) := by omega
        have hM2 : ((a + 1 : Nat) : Int) + ((m + n : Nat) : Int) = (M : Int) + n := by omega
        rw [hM2] at hg2
        rw [← hM] at hext
        rw [hM1] at CG hin1
        have CF := fun W => Lib.hid (rfix_lit s _ _ _ _ W hs hg2)
        have CT := fun W => Lib.hid (tagged_str s[a] ⟨p.toArray⟩ W (by show p.toArray.size ≤ _; rw [List.size_toArray]; omega))
        have CO := fun W => Lib.hid (rof_str ⟨(s[a] :: p).toArray⟩ (s[a] :: p) (rollF 0 (s[a] :: p)) W rfl (by simp only [List.length_cons]; unfold maxLen; omega) rfl)
        have h2' : decide ((s.size : Int) - (M : Int) < (n : Int) + 4) = false := by simp; omega
        have h1' : decide ((1048576 : Int) < n) = false := by simp; omega
        have q1 : (M : Int) + n ≤ s.size := by omega
        have q2 : M + n ≤ s.size := by omega
        have q3 : (0 : Int) ≤ (M : Int) + n := by omega
        have q4 : (M : Int) ≤ (M : Int) + n := by omega
        have hin3 : IntKind.i64.wrap ((M : Int) + n) = (M : Int) + n := IntWalk.i64_in _ (by omega)
        have hpa : (⟨p.toArray⟩ : ByteArray).data.toList = p := by simp
        have hfin : (M : Int) + n + 4 = (a : Int) + 1 + ((m + n + 4 : Nat) : Int) := by omega
        have HF := Lib.hid hfin; clear hfin
        clear hgs hex hdd htl htl' b1 b2 b3 h2 h1 hp hpl e1 hM hM1 hM2 hg2
        by_cases h4 : g = rollF 0 (s[a] :: p)
        · have h4' : ¬ g ≠ rollF 0 (s[a] :: p) := by simpa using h4
          rw [if_neg h4'] at hsec
          rw [hsec] at hget
          simp only at hget
          rw [if_neg (by simp)] at hget
          have hsb : (g != rollF 0 (s[a] :: p)) = false := by simpa using h4
          rw [hget]
          clear hget hsec h4' h4
          generalize rollF 0 (s[a] :: p) = q at *
          go_enter Try.func12, Try.ntmps12
          go_wp2_with (first
            | (go_at_call 27; (with_reducible refine (CG _).out.mono ?_); rintro e w' ⟨rfl, rfl⟩)
            | (go_at_call 28; (with_reducible refine (CF _).out.mono ?_); rintro e w1 ⟨rfl, hb1⟩; replace hb := Below.step hb hb1; clear hb1)
            | (go_at_call 30; (with_reducible refine (CT _).out.mono ?_); rintro e w2 ⟨rfl, hb2⟩; replace hb := Below.step hb hb2; clear hb2)
            | (go_at_call 29; (with_reducible refine (CO _).out.mono ?_); rintro e w' ⟨rfl, rfl⟩)
            | (go_at_call 26; refine (bad_any _ _ _).mono ?_; rintro e w' ⟨rfl, rfl⟩))
          refine bodyPost_ret (v := .tuple #[.int .i64 s[a].toNat, .string ⟨p.toArray⟩, .int .i64 (M + n + 4), .int .i64 0]) (by simp [results, Try.results12, go_sem]) rfl ?_
          rw [HF.out]
          exact ⟨rfl, hb⟩
        · rw [if_pos h4] at hsec
          rw [hsec] at hget
          simp only at hget
          rw [if_pos (by decide)] at hget
          have hsb : (g != rollF 0 (s[a] :: p)) = true := by simpa using h4
          rw [hget]
          clear hget hsec h4
          generalize rollF 0 (s[a] :: p) = q at *
          go_enter Try.func12, Try.ntmps12
          go_wp2_with (first
            | (go_at_call 27; (with_reducible refine (CG _).out.mono ?_); rintro e w' ⟨rfl, rfl⟩)
            | (go_at_call 28; (with_reducible refine (CF _).out.mono ?_); rintro e w1 ⟨rfl, hb1⟩; replace hb := Below.step hb hb1; clear hb1)
            | (go_at_call 30; (with_reducible refine (CT _).out.mono ?_); rintro e w2 ⟨rfl, hb2⟩; replace hb := Below.step hb hb2; clear hb2)
            | (go_at_call 29; (with_reducible refine (CO _).out.mono ?_); rintro e w' ⟨rfl, rfl⟩)
            | (go_at_call 26; refine (bad_any _ _ _).mono ?_; rintro e w' ⟨rfl, rfl⟩))
          refine bodyPost_ret (v := .tuple #[.int .i64 0, .string ⟨#[]⟩, .int .i64 a, .int .i64 30]) (by simp [results, Try.results12, go_sem]) rfl ⟨rfl, hb⟩
  · rw [if_pos he] at hsec
    rw [hsec] at hget
    simp only at hget
    rw [if_pos he] at hget
    rw [hget]
    have heb : (e != 0) = true := by simpa using he
    clear hget hsec hgs hex hdd hbd he
    go_enter Try.func12, Try.ntmps12
    go_wp2_with (first
      | (go_at_call 27; (with_reducible refine (CG _).out.mono ?_); rintro e w' ⟨rfl, rfl⟩)
      | (go_at_call 26; refine (bad_any _ _ _).mono ?_; rintro e w' ⟨rfl, rfl⟩))
    refine bodyPost_ret (v := .tuple #[.int .i64 0, .string ⟨#[]⟩, .int .i64 a, .int .i64 e]) (by simp [results, Try.results12, go_sem]) rfl ⟨rfl, hb⟩

theorem rsget_any (s : ByteArray) (a : Int) (w : World) (hs : s.size ≤ 1048576) :
    Calls Try.prog 12 #[.string s, .int .i64 a] w fun en w' => en = .returned (.tuple #[.int .i64 (getS s.data.toList a).1, .string ⟨(getS s.data.toList a).2.1.toArray⟩, .int .i64 (getS s.data.toList a).2.2.1, .int .i64 (getS s.data.toList a).2.2.2]) ∧ Below w.heap.size w w' := by
  have hl : s.data.toList.length = s.size := rfl
  by_cases h : a < 0 ∨ (s.size : Int) ≤ a
  · refine (rsget_out s a w hs h).mono fun e w' ⟨he, hw⟩ => ⟨?_, hw⟩
    rw [he]
    by_cases h1 : a < 0 ∨ s.size < a
    · rw [if_pos h1, getS, if_pos (by rw [hl]; exact h1)]
    · have e1 : a = (s.size : Int) := by omega
      subst e1
      rw [if_neg h1, getS, if_neg (by rw [hl]; exact h1), Int.toNat_natCast, List.drop_of_length_le (by rw [hl]; exact Nat.le_refl _)]
  · obtain ⟨m, rfl⟩ := Int.eq_ofNat_of_zero_le (by omega : 0 ≤ a)
    exact rsget_in s m w hs (by omega)
theorem rsget_lit (s : ByteArray) (a n : Int) (p : List UInt8) (k e : Int) (w : World) (hs : s.size ≤ 1048576) (h : getS s.data.toList a = (n, p, k, e)) :
    Calls Try.prog 12 #[.string s, .int .i64 a] w fun en w' => en = .returned (.tuple #[.int .i64 n, .string ⟨p.toArray⟩, .int .i64 k, .int .i64 e]) ∧ Below w.heap.size w w' := by
  have := rsget_any s a w hs; rw [h] at this; exact this
end Go.Proofs.Yteikmkbaokfgeaa
