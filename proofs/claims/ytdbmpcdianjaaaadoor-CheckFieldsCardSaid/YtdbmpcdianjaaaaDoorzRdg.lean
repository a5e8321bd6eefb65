/- Layer 4: the document's Digits, of numbers below 100000. -/
import Derived.Test.YtdbmpcdianjaaaaDoorRows
import Derived.Test.YtdbmpcdianjaaaaDoorzGc
import Derived.Test.YtdbmpcdianjaaaaDoorzGb
import Derived.Laws.IdiomStrings
namespace Go.Proofs.YtdbmpcdianjaaaaDoor
set_option linter.unusedVariables false
set_option linter.unusedSimpArgs false
open Go.RowKit Go.ChangeShapes Go.WideShapes Go.ChangeAt Go.Sort

theorem decd_len (n : Nat) : (Lib.decDigits n).length ≤ n + 1 := by
  induction n using Nat.strongRecOn with
  | _ n ih =>
    by_cases h : n < 10
    · rw [decd_lt h]; simp
    · rw [decd_ge h, List.length_append]
      have := ih (n / 10) (by omega)
      simp; omega

set_option maxHeartbeats 1000000 in
set_option maxRecDepth 100000 in
theorem rdg_nat (n : Nat) : ∀ (w : World), n < 100000 → Calls Tryd.prog 58 #[.int .i64 n] w fun e w' => e = .returned (.string ⟨(Lib.decDigits n).toArray⟩) ∧ Below w.heap.size w w' := by
  induction n using Nat.strongRecOn with
  | _ n ih =>
  intro w hn
  obtain ⟨c, hc⟩ : ∃ c, c = UInt8.ofNat (48 + n % 10) := ⟨_, rfl⟩
  have hv : (48 + (n : Int) % 10) % 256 = c.toNat := by rw [hc, UInt8.toNat_ofNat']; omega
  have hv2 : 48 + (n : Int) % 10 = c.toNat := by rw [hc, UInt8.toNat_ofNat']; omega
  have hN0 : 0 ≤ (n : Int) := by omega
  have hN1 : (n : Int) ≤ 99999 := by omega
  have cv : ∀ (W : World) (g : Nat), W.cell? ⟨g, 0, none⟩ = some (.int .u8 (c.toNat : Int)) → (convert 89 9 (.slice (some ⟨g, 0, none⟩) 1 1)).run Tryd.prog W = .ok (.string ⟨#[c]⟩) W := fun W g hg =>
    run_convert_bytes_back W 89 9 5 ⟨g, 0, none⟩ 1 [c] Tryd.underlying89 Tryd.underlying5 Tryd.underlying9 (by
      intro j hj
      have : j = 0 := by simpa using hj
      subst this
      simpa [Addr.add] using hg)
  have cw : (convert 89 9 (.slice (some ⟨w.heap.size, 0, none⟩) 1 1)).run Tryd.prog (w.alloc (.cells #[.int .u8 (c.toNat : Int)] 5)) = .ok (.string ⟨#[c]⟩) (w.alloc (.cells #[.int .u8 (c.toNat : Int)] 5)) :=
    cv _ _ ((Held.new w 5 #[.int .u8 (c.toNat : Int)]).cell 0)
  by_cases h : n < 10
  · have hd := decd_lt h
    rw [← hc] at hd
    have HD := Lib.hid hd
    have hlt : decide (10 ≤ (n : Int)) = false := by simp; omega
    clear hd hc h ih hn
    generalize (n : Int) = N at *
    go_enter Tryd.func58, Tryd.ntmps58
    go_wp2_with fail
    go_ret
    rw [HD.out]
    exact ⟨rfl, (Below.refl _ _).alloc (Nat.le_refl _) _⟩
  · have hd := decd_ge h
    rw [← hc] at hd
    have hl := decd_len (n / 10)
    have CD : ∀ W, Hid (Calls Tryd.prog 58 #[.int .i64 ((n : Int) / 10)] W fun e w' => e = .returned (.string ⟨(Lib.decDigits (n / 10)).toArray⟩) ∧ Below W.heap.size W w') := fun W => by
      have := ih (n / 10) (by omega) W (by omega)
      rw [show (n : Int) / 10 = ((n / 10 : Nat) : Int) by omega]
      exact Lib.hid this
    generalize Lib.decDigits (n / 10) = s at *
    have HD := Lib.hid hd
    have hlt : decide (10 ≤ (n : Int)) = true := by simp; omega
    have hs : s.length + 1 ≤ 9223372036854775807 := by omega
    clear hd hc h ih hn hl
    generalize (n : Int) = N at *
    go_enter Tryd.func58, Tryd.ntmps58
    go_wp2_with (go_at_call 58; (with_reducible refine (CD _).out.mono ?_); rintro e v ⟨rfl, hb⟩; have hw := Below.step ((Below.refl _ _).alloc (Nat.le_refl _) _) hb)
    go_ret
    rw [HD.out]
    refine ⟨ret_str ?_, hw⟩
    apply ByteArray.ext
    simp

theorem rdg_in {n : Int} (h0 : 0 ≤ n) (h1 : n < 100000) : Ct Tryd.prog 58 #[.int .i64 n] (.string ⟨(dgI n).toArray⟩) := fun w => by
  obtain ⟨m, rfl⟩ := Int.eq_ofNat_of_zero_le h0
  unfold dgI
  rw [Int.toNat_natCast]
  exact rdg_nat m w (by omega)
end Go.Proofs.YtdbmpcdianjaaaaDoor

