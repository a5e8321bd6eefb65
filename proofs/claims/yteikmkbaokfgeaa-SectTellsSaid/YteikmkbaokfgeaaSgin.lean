/- Layer 3: a section that stands in bytes: the code's Get, within the bytes. -/
import Derived.Test.YteikmkbaokfgeaaSget
namespace Go.Proofs.Yteikmkbaokfgeaa
set_option linter.unusedVariables false
set_option linter.unusedSimpArgs false
open Go.RowKit Go.ChangeShapes Go.WideShapes Go.ChangeAt Cm

theorem bytes_one (c : UInt8) (p : List UInt8) : (⟨#[c]⟩ : ByteArray) ++ ⟨p.toArray⟩ = ⟨(c :: p).toArray⟩ := cons_app c ⟨p.toArray⟩

theorem below_read {w w1 w2 w3 : World} {b : Nat} (hb : Below w.heap.size w w1) (hle : w.heap.size ≤ b) (h2 : w1.grownBy w2 (some b)) (h3 : w2.grownBy w3 (some b)) (n : Nat) : Below w.heap.size w (w3.drewN n) := by
  have k1 := hb.grown h2 hb.size (fun k hk => by simp at hk; omega)
  have k2 := k1.grown h3 k1.size (fun k hk => by simp at hk; omega)
  exact below_drewN k2 n

set_option maxHeartbeats 2000000 in
set_option maxRecDepth 100000 in
theorem sget_in (s : ByteArray) (a : Nat) (w : World) (hs : s.size ≤ maxLen) (h : a < s.size) :
    Calls Try.prog 11 #[.string s, .int .i64 a] w fun en w' => en = .returned (.tuple #[.int .i64 (getS s.data.toList a).1, .string ⟨(getS s.data.toList a).2.1.toArray⟩, .int .i64 (getS s.data.toList a).2.2.1, .int .i64 (getS s.data.toList a).2.2.2]) ∧ Below w.heap.size w w' := by
  have hd := drop_cons s a h
  have hz : (s.extract (a + 1) s.size).size = s.size - (a + 1) := by simp
  have hx : (s.extract (a + 1) s.size).data.toList = s.data.toList.drop (a + 1) := extract_list s (a + 1)
  have ho := one_byte s a h
  have hbyte : s[a].toNat < 256 := s[a].toNat_lt
  have hr := rdS_eq s[a] (s.data.toList.drop (a + 1))
  have hget : getS s.data.toList a = if (secG s[a] (s.data.toList.drop (a + 1))).2.2 ≠ 0 then (0, [], (a : Int), (secG s[a] (s.data.toList.drop (a + 1))).2.2) else ((s[a].toNat : Int), (secG s[a] (s.data.toList.drop (a + 1))).1, a + 1 + (secG s[a] (s.data.toList.drop (a + 1))).2.1, 0) := by
    have hl : s.data.toList.length = s.size := rfl
    unfold getS
    rw [if_neg (by rw [hl]; omega), Int.toNat_natCast, hd]
  rw [← hx] at hr hget
  have hcr : (s[a].toNat : Int) = s[a].toNat := rfl
  generalize ht : s.extract (a + 1) s.size = t at *
  obtain ⟨p, a1, e1, h1⟩ : ∃ p a1 e1, textF t.data.toList 0 0 1048576 = (p, a1, e1) := ⟨_, _, _, rfl⟩
  obtain ⟨g, k, e, h2⟩ : ∃ g k e, fixdF t.data.toList a1 e1 = (g, k, e) := ⟨_, _, _, rfl⟩
  have hrd : rdS s[a] t.data.toList = (p, g, k, e) := by unfold rdS; rw [h1]; simp only; rw [h2]
  rw [hrd] at hr
  simp only at hr
  obtain ⟨r1, r2, r3, r4, r5, r6⟩ := hr
  have htl : t.data.toList.length = t.size := rfl
  have htm : t.size ≤ maxLen := by unfold maxLen at hs ⊢; omega
  have CT : ∀ {W : World} {b : Nat}, Rd W b t 0 0 → Hid (Calls Try.prog 21 #[.pointer (some ⟨b, 0, none⟩), .int .i64 1048576] W fun en w' => en = .returned (.string ⟨p.toArray⟩) ∧ Rd w' b t a1 e1 ∧ W.grownBy w' (some b)) := fun hR => Lib.hid (by
    have := text_any hR 1048576 htm (by omega) (by omega)
    rw [h1] at this; exact this)
  have CF : ∀ {W : World} {b : Nat}, Rd W b t a1 e1 → Hid (Calls Try.prog 22 #[.pointer (some ⟨b, 0, none⟩)] W fun en w' => en = .returned (.int .i64 g) ∧ Rd w' b t k e ∧ W.grownBy w' (some b)) := fun hR => Lib.hid (by
    have := fixed_any hR htm
    rw [h2] at this; exact this)
  have hsum := bytes_one s[a] p
  have CO := fun (x : ByteArray) (W : World) (hx : x = ⟨(s[a] :: p).toArray⟩) => Lib.hid (of_all x (s[a] :: p) (rollF 0 (s[a] :: p)) W hx (by simp only [List.length_cons]; unfold maxLen; omega) rfl)
  have HS := Lib.hid hsum; clear hsum
  have hsm := sum_in (s[a] :: p)
  have hp2 : 1 + p.length ≤ 9223372036854775807 := by omega
  have hz' : t.size + (a + 1) = s.size := by omega
  have z0 : (0 : Int) ≤ a := by omega
  have z1 : ¬ (s.size : Int) < a := by omega
  have z2 : ((a : Int) == (s.size : Int)) = false := by simp; omega
  have z3 : IntKind.i64.wrap ((a : Int) + 1) = (a : Int) + 1 := IntWalk.i64_in _ (by unfold maxLen at hs; omega)
  have z4 : (a : Int) + 1 ≤ s.size := by omega
  have z5 : a + 1 ≤ s.size := by omega
  have HG := Lib.hid hget; clear hget
  have HX := Lib.hid hx
  have HT := Lib.hid ht
  have hbw : Below w.heap.size w w := Below.refl _ _
  clear hd hz hx hrd h1 h2 hcr
  by_cases he : e = 0
  · subst he
    by_cases hsum : g = rollF 0 (s[a] :: p)
    · obtain ⟨r7, r8, r9⟩ := r3 rfl hsum
      have hg := HG.out
      rw [r7, r8, if_neg (by simp), r9] at hg
      have HGG := Lib.hid hg
      clear hg HG r7 r8 r9 r1 r2 r3
      have hsb : (g != rollF 0 (s[a] :: p)) = false := by simpa using hsum
      generalize rollF 0 (s[a] :: p) = q at *
      subst hsum
      have hend : (s.size : Int) - (t.size - k) = a + 1 + k := by omega
      have HE := Lib.hid hend; clear hend
      have hk : k ≤ t.size := by omega
      have hin : IntKind.i64.wrap ((s.size : Int) - (t.size - k)) = (s.size : Int) - (t.size - k) := IntWalk.i64_in _ (by unfold maxLen at hs; omega)
      rw [HGG.out]
      clear HGG
      go_enter Try.func11, Try.ntmps11
      go_wp2
      refine wp_scope_once 0 (fun a' w' => False) (fun _ _ => 0) rfl ?_ ?_
      · rintro a' w' h; exact h.elim
      · intro hp
        clear hp
        go_wp2_with (first
          | (go_at_call 20; refine (new_any _ _).mono ?_; rintro en w1 ⟨rfl, hR1, hb1, hz1⟩)
          | (go_at_call 21; refine (CT hR1).out.mono ?_; rintro en w2 ⟨rfl, hR2, ho2⟩)
          | (go_at_call 22; refine (CF hR2).out.mono ?_; rintro en w3 ⟨rfl, hR3, ho3⟩)
          | (go_at_call 23; refine (error_any hR3).mono ?_; rintro en w4 ⟨rfl, nq, rfl⟩)
          | (go_at_call 24; refine (CO _ _ HS.out).out.mono ?_; rintro e w5 ⟨rfl, hb5⟩))
        have hR5 := Rd.below (hR3.drewN nq) hb5 (hR3.drewN nq).lt
        have CL : ∀ n : Nat, Hid (Calls Try.prog 25 #[.pointer (some ⟨w.heap.size, 0, none⟩)] (w5.drewN n) fun en w' => en = .returned (.int .i64 ((t.size : Int) - k)) ∧ ∃ m, w' = w5.drewN m) := fun n => Lib.hid (by
          have := left_any (hR5.drewN n) htm r5 hk
          rw [if_pos rfl] at this
          exact this.mono fun e w' ⟨he, m, hm⟩ => ⟨he, n + m, by rw [hm, World.drewN_drewN]⟩)
        have hbe := Below.step (below_read hb1 (Nat.le_refl _) ho2 ho3 nq) hb5
        have HBE := Lib.hid hbe; clear hbe
        clear hb1 ho2 ho3 hR1 hR2 hR3 hb5
        go_quiet ((go_at_call 25; exact (CL _).out))
        go_wp2
        simp only [Exit.jump]
        refine bodyPost_ret (v := .tuple #[.int .i64 s[a].toNat, .string ⟨p.toArray⟩, .int .i64 (s.size - (t.size - k)), .int .i64 0]) (by simp [results, Try.results11, go_sem]) rfl ?_
        rw [HE.out]
        exact ⟨rfl, below_drewN HBE.out _⟩
    · have r7 := r2 rfl hsum
      rw [r7] at HG
      have hg := HG.out
      rw [if_pos (by decide)] at hg
      have HGG := Lib.hid hg
      clear hg HG r7 r1 r2 r3
      have hsb : (g != rollF 0 (s[a] :: p)) = true := by simpa using hsum
      have Hs := Lib.hid hsum; clear hsum
      generalize rollF 0 (s[a] :: p) = q at *
      rw [HGG.out]
      clear HGG
      go_enter Try.func11, Try.ntmps11
      go_wp2
      refine wp_scope_once 0 (fun a' w' => GetW s a 30 a' w w') (fun _ _ => 0) rfl ?_ ?_
      · rintro a' w' ⟨hb, u2, u3, u8, u9, u10, u12, u13, u14, u15, u16, u17, u18, u19, u20, u21, u22, u23, u24, u25, u26, u27, u28, u29, u30, u31, u32, u33, u34, u35, u36, u37, u38, u39, u40, u41, u42, u43, u44, u45, u46, u47, u48, u49, u50, u51, u52, u53, u54, u55, u56, u57, u58, u59, u60, u61, rfl⟩
        go_wp2
        simp only [Exit.jump]
        refine bodyPost_ret (v := .tuple #[.int .i64 0, .string ⟨#[]⟩, .int .i64 a, .int .i64 30]) (by simp [results, Try.results11, go_sem]) rfl ⟨rfl, hb⟩
      · intro hp
        have Hp := Lib.hid hp; clear hp
        go_wp2_with (first
          | (go_at_call 20; refine (new_any _ _).mono ?_; rintro en w1 ⟨rfl, hR1, hb1, hz1⟩)
          | (go_at_call 21; refine (CT hR1).out.mono ?_; rintro en w2 ⟨rfl, hR2, ho2⟩)
          | (go_at_call 22; refine (CF hR2).out.mono ?_; rintro en w3 ⟨rfl, hR3, ho3⟩)
          | (go_at_call 23; refine (error_any hR3).mono ?_; rintro en w4 ⟨rfl, nq, rfl⟩)
          | (go_at_call 24; refine (CO _ _ HS.out).out.mono ?_; rintro e w5 ⟨rfl, hb5⟩))
        go_step3
        exact ⟨rfl, Below.step (below_read hb1 (Nat.le_refl _) ho2 ho3 nq) hb5, _, _, _, _, _, _, _, _, _, _, _, _, _, _, _, _, _, _, _, _, _, _, _, _, _, _, _, _, _, _, _, _, _, _, _, _, _, _, _, _, _, _, _, _, _, _, _, _, _, _, _, _, _, _, _, rfl⟩
  · obtain ⟨r7, r8⟩ := r1 he
    rw [r7] at HG
    have hg := HG.out
    rw [if_pos he] at hg
    have HGG := Lib.hid hg
    clear hg HG r7 r8 r1 r2 r3
    have heb : (e != 0) = true := by simpa using he
    have He := Lib.hid he; clear he
    rw [HGG.out]
    clear HGG
    go_enter Try.func11, Try.ntmps11
    go_wp2
    refine wp_scope_once 0 (fun a' w' => GetW s a e a' w w') (fun _ _ => 0) rfl ?_ ?_
    · rintro a' w' ⟨hb, u2, u3, u8, u9, u10, u12, u13, u14, u15, u16, u17, u18, u19, u20, u21, u22, u23, u24, u25, u26, u27, u28, u29, u30, u31, u32, u33, u34, u35, u36, u37, u38, u39, u40, u41, u42, u43, u44, u45, u46, u47, u48, u49, u50, u51, u52, u53, u54, u55, u56, u57, u58, u59, u60, u61, rfl⟩
      go_wp2
      simp only [Exit.jump]
      refine bodyPost_ret (v := .tuple #[.int .i64 0, .string ⟨#[]⟩, .int .i64 a, .int .i64 e]) (by simp [results, Try.results11, go_sem]) rfl ⟨rfl, hb⟩
    · intro hp
      have Hp := Lib.hid hp; clear hp
      go_wp2_with (first
        | (go_at_call 20; refine (new_any _ _).mono ?_; rintro en w1 ⟨rfl, hR1, hb1, hz1⟩)
        | (go_at_call 21; refine (CT hR1).out.mono ?_; rintro en w2 ⟨rfl, hR2, ho2⟩)
        | (go_at_call 22; refine (CF hR2).out.mono ?_; rintro en w3 ⟨rfl, hR3, ho3⟩)
        | (go_at_call 23; refine (error_any hR3).mono ?_; rintro en w4 ⟨rfl, nq, rfl⟩))
      go_step3
      exact ⟨rfl, below_read hb1 (Nat.le_refl _) ho2 ho3 nq, _, _, _, _, _, _, _, _, _, _, _, _, _, _, _, _, _, _, _, _, _, _, _, _, _, _, _, _, _, _, _, _, _, _, _, _, _, _, _, _, _, _, _, _, _, _, _, _, _, _, _, _, _, _, _, rfl⟩

theorem sget_any (s : ByteArray) (a : Int) (w : World) (hs : s.size ≤ maxLen) :
    Calls Try.prog 11 #[.string s, .int .i64 a] w fun en w' => en = .returned (.tuple #[.int .i64 (getS s.data.toList a).1, .string ⟨(getS s.data.toList a).2.1.toArray⟩, .int .i64 (getS s.data.toList a).2.2.1, .int .i64 (getS s.data.toList a).2.2.2]) ∧ Below w.heap.size w w' := by
  have hl : s.data.toList.length = s.size := rfl
  by_cases h : a < 0 ∨ (s.size : Int) ≤ a
  · refine (sget_out s a w hs h).mono fun e w' ⟨he, hw⟩ => ⟨?_, hw⟩
    rw [he]
    by_cases h1 : a < 0 ∨ s.size < a
    · rw [if_pos h1, getS, if_pos (by rw [hl]; exact h1)]
    · have e1 : a = (s.size : Int) := by omega
      subst e1
      rw [if_neg h1, getS, if_neg (by rw [hl]; exact h1), Int.toNat_natCast, List.drop_of_length_le (by rw [hl]; exact Nat.le_refl _)]
  · obtain ⟨m, rfl⟩ := Int.eq_ofNat_of_zero_le (by omega : 0 ≤ a)
    exact sget_in s m w hs (by omega)
theorem sget_lit (s : ByteArray) (a n : Int) (p : List UInt8) (k e : Int) (w : World) (hs : s.size ≤ maxLen) (h : getS s.data.toList a = (n, p, k, e)) :
    Calls Try.prog 11 #[.string s, .int .i64 a] w fun en w' => en = .returned (.tuple #[.int .i64 n, .string ⟨p.toArray⟩, .int .i64 k, .int .i64 e]) ∧ Below w.heap.size w w' := by
  have := sget_any s a w hs; rw [h] at this; exact this
end Go.Proofs.Yteikmkbaokfgeaa
