/- Layer 4: the document's own answers: texts. -/
import Derived.Test.YthnnmgjehpapiaaDoorGref
import Derived.Test.YthnnmgjehpapiaaDoorGtx
import Derived.Laws.IdiomStrings
namespace Go.Proofs.YthnnmgjehpapiaaDoor
set_option linter.unusedVariables false
set_option linter.unusedSimpArgs false
open Go.RowKit Go.ChangeShapes Go.WideShapes Go.ChangeAt Gm Fl Go.Sort

theorem dec_lt {n : Nat} (h : n < 10) : Lib.decDigits n = [UInt8.ofNat (48 + n % 10)] := by rw [Lib.decDigits, dif_pos h, Nat.mod_eq_of_lt h]
theorem dec_ge {n : Nat} (h : ¬ n < 10) : Lib.decDigits n = Lib.decDigits (n / 10) ++ [UInt8.ofNat (48 + n % 10)] := by rw [Lib.decDigits, dif_neg h]
theorem dec_len (n : Nat) : (Lib.decDigits n).length ≤ n + 1 := by
  induction n using Nat.strongRecOn with
  | _ n ih =>
    by_cases h : n < 10
    · rw [dec_lt h]; simp
    · rw [dec_ge h, List.length_append]
      have := ih (n / 10) (by omega)
      simp; omega
theorem dec_dig (n : Nat) (h : n < 251) : Lib.decDigits n = digN n := by
  rw [← itoa_dig n h]
  unfold Lib.itoa; rw [if_neg (by omega), Int.toNat_natCast]

set_option maxHeartbeats 1000000 in
set_option maxRecDepth 100000 in
theorem rdig_any (n : Nat) : ∀ (w : World), n < 251 → Calls Tryd.prog 34 #[.int .i64 n] w fun e w' => e = .returned (.string ⟨(Lib.decDigits n).toArray⟩) ∧ Below w.heap.size w w' := by
  induction n using Nat.strongRecOn with
  | _ n ih =>
  intro w hn
  obtain ⟨c, hc⟩ : ∃ c, c = UInt8.ofNat (48 + n % 10) := ⟨_, rfl⟩
  have hv : (48 + (n : Int) % 10) % 256 = c.toNat := by rw [hc, UInt8.toNat_ofNat']; omega
  have hv2 : 48 + (n : Int) % 10 = c.toNat := by rw [hc, UInt8.toNat_ofNat']; omega
  have hN0 : 0 ≤ (n : Int) := by omega
  have hN1 : (n : Int) ≤ 250 := by omega
  have cv : ∀ (W : World) (g : Nat), W.cell? ⟨g, 0, none⟩ = some (.int .u8 (c.toNat : Int)) → (convert 44 9 (.slice (some ⟨g, 0, none⟩) 1 1)).run Tryd.prog W = .ok (.string ⟨#[c]⟩) W := fun W g hg =>
    run_convert_bytes_back W 44 9 5 ⟨g, 0, none⟩ 1 [c] Tryd.underlying44 Tryd.underlying5 Tryd.underlying9 (by
      intro j hj
      have : j = 0 := by simpa using hj
      subst this
      simpa [Addr.add] using hg)
  have cw : (convert 44 9 (.slice (some ⟨w.heap.size, 0, none⟩) 1 1)).run Tryd.prog (w.alloc (.cells #[.int .u8 (c.toNat : Int)] 5)) = .ok (.string ⟨#[c]⟩) (w.alloc (.cells #[.int .u8 (c.toNat : Int)] 5)) :=
    cv _ _ ((Held.new w 5 #[.int .u8 (c.toNat : Int)]).cell 0)
  by_cases h : n < 10
  · have hd := dec_lt h
    rw [← hc] at hd
    have HD := Lib.hid hd
    have hlt : decide (10 ≤ (n : Int)) = false := by simp; omega
    clear hd hc h ih hn
    generalize (n : Int) = N at *
    go_enter Tryd.func34, Tryd.ntmps34
    go_wp2_with fail
    go_ret
    rw [HD.out]
    exact ⟨rfl, (Below.refl _ _).alloc (Nat.le_refl _) _⟩
  · have hd := dec_ge h
    rw [← hc] at hd
    have hl := dec_len (n / 10)
    have CD : ∀ W, Hid (Calls Tryd.prog 34 #[.int .i64 ((n : Int) / 10)] W fun e w' => e = .returned (.string ⟨(Lib.decDigits (n / 10)).toArray⟩) ∧ Below W.heap.size W w') := fun W => by
      have := ih (n / 10) (by omega) W (by omega)
      rw [show (n : Int) / 10 = ((n / 10 : Nat) : Int) by omega]
      exact Lib.hid this
    generalize Lib.decDigits (n / 10) = s at *
    have HD := Lib.hid hd
    have hlt : decide (10 ≤ (n : Int)) = true := by simp; omega
    have hs : s.length + 1 ≤ 9223372036854775807 := by omega
    clear hd hc h ih hn hl
    generalize (n : Int) = N at *
    go_enter Tryd.func34, Tryd.ntmps34
    go_wp2_with (go_at_call 34; (with_reducible refine (CD _).out.mono ?_); rintro e v ⟨rfl, hb⟩; have hw := Below.step ((Below.refl _ _).alloc (Nat.le_refl _) _) hb)
    go_ret
    rw [HD.out]
    refine ⟨ret_str ?_, hw⟩
    apply ByteArray.ext
    simp

theorem rdig_in (n : Int) (h0 : 0 ≤ n) (h1 : n < 251) (w : World) : Calls Tryd.prog 34 #[.int .i64 n] w fun e w' => e = .returned (.string ⟨(digN n.toNat).toArray⟩) ∧ Below w.heap.size w w' := by
  obtain ⟨m, rfl⟩ := Int.eq_ofNat_of_zero_le h0
  rw [Int.toNat_natCast, ← dec_dig m (by omega)]
  exact rdig_any m w (by omega)

set_option maxHeartbeats 1000000 in
set_option maxRecDepth 100000 in
theorem rtext_any (a b : Int) (w : World) : Calls Tryd.prog 24 #[.agg #[.int .i64 a, .int .i64 b]] w fun e w' => e = .returned (.string ⟨(gText (a, b)).toArray⟩) ∧ Below w.heap.size w w' := by
  have C := fun n W => Lib.hid (rrest_any n W)
  have ra := rs_bd a
  have rb := rs_bd b
  have C1 := fun W => Lib.hid (rdig_in (rs a) ra.1 ra.2 W)
  have C2 := fun W => Lib.hid (rdig_in (rs b) rb.1 rb.2 W)
  have hg : gText (a, b) = digN (rs a).toNat ++ 43 :: (digN (rs b).toNat ++ [105]) := rfl
  have l1 := digN_len (rs a).toNat
  have l2 := digN_len (rs b).toNat
  generalize digN (rs a).toNat = s at *
  generalize digN (rs b).toNat = t at *
  have HG := Lib.hid hg
  clear hg ra rb
  go_enter Tryd.func24, Tryd.ntmps24
  go_wp2_with fail
  have hx := Held.new w 23 #[.int .i64 a, .int .i64 b]
  have hw : Below w.heap.size w (w.alloc (.cells #[.int .i64 a, .int .i64 b] 23)) := (Below.refl _ _).alloc (Nat.le_refl _) _
  generalize w.alloc _ = W0 at hx hw ⊢
  obtain ⟨c0, c1, _, _⟩ := hx.two
  have g0 := fun d os => cell_regrown c0 d os
  have g1 := fun d os => cell_regrown c1 d os
  clear c0 c1
  refine wp_region_quiet_below (by kernel_rfl) (by kernel_rfl) ?_
  repeat (first
    | go_big_quiet_step ((first
        | (go_at_call 30; (with_reducible exact Calls.regrown_same (C _ _).out))
        | (go_at_call 34; (with_reducible exact Calls.regrown_of (C1 _).out))
        | (go_at_call 34; (with_reducible exact Calls.regrown_of (C2 _).out))))
    | quiet_step ((first
        | (go_at_call 30; (with_reducible exact Calls.regrown_same (C _ _).out))
        | (go_at_call 34; (with_reducible exact Calls.regrown_of (C1 _).out))
        | (go_at_call 34; (with_reducible exact Calls.regrown_of (C2 _).out)))))
  refine wpQuiet_nil ?_
  intro v2 hv
  have hb := below_of_regrown hv
  clear hv g0 g1
  go_wp2_with fail
  go_ret
  refine ⟨ret_str ?_, Below.step hw hb⟩
  rw [HG.out]
  apply ByteArray.ext
  simp
end Go.Proofs.YthnnmgjehpapiaaDoor
