/- Layer 3: the document's own answers: layer 1's Put, PutText, PutFixed; bad, tagged. -/
import Derived.Test.YteikmkbaokfgeaaSm
import Derived.Test.YteikmkbaokfgeaaWx
import Derived.Test.YteikmkbaokfgeaaCconv
import Derived.RegionTactic
import Derived.Deep.RegionHeld3
import Derived.Deep.RegionWith
namespace Go.Proofs.Yteikmkbaokfgeaa
set_option linter.unusedVariables false
set_option linter.unusedSimpArgs false
open Go.RowKit Go.ChangeShapes Go.WideShapes Go.ChangeAt Cm

theorem byte_of (n : Nat) : (n : Int) % 256 = ((UInt8.ofNat n).toNat : Int) := by
  rw [UInt8.toNat_ofNat']; simp
theorem ret_str {a b : ByteArray} (h : a = b) : Ending.returned (.string a) = .returned (.string b) := by rw [h]
theorem bytes_app (a b : List UInt8) : (⟨a.toArray⟩ : ByteArray) ++ ⟨b.toArray⟩ = ⟨(a ++ b).toArray⟩ := by rw [bytes_append]

set_option maxHeartbeats 1000000 in
set_option maxRecDepth 100000 in
theorem rput_in : ∀ (f n : Nat) (w : World), n < 128 ^ f → f ≤ 7 → 0 < f → n ≤ 281474976710655 →
    Calls Try.prog 44 #[.int .i64 n] w fun e w' => e = .returned (.string ⟨(putG f n).toArray⟩) ∧ Below w.heap.size w w'
  | 0, _, _, _, _, h, _ => absurd h (by omega)
  | f + 1, n, w, hn, hf, _, hm => by
    have hz1 : decide ((n : Int) < 0) = false := by simp
    have hz2 : decide (281474976710656 ≤ (n : Int)) = false := by simp; omega
    by_cases h : n < 128
    · have hp : putG (f + 1) n = [UInt8.ofNat n] := by rw [putG, if_pos h]
      have hc : (n : Int) = ((UInt8.ofNat n).toNat : Int) := by rw [UInt8.toNat_ofNat', Nat.mod_eq_of_lt (by omega)]
      generalize UInt8.ofNat n = c at *
      have HP := Lib.hid hp; clear hp
      have hlt : (n : Int) < 128 := by omega
      have hcv : (n : Int) % 256 = c.toNat := by omega
      have HC := Lib.hid hc; clear hc
      clear hn h hm
      generalize (n : Int) = N at *
      go_enter Try.func44, Try.ntmps44
      go_wp2_with (refine wpList_conv_byte rfl 38 9 5 _ rfl Try.underlying38 Try.underlying5 Try.underlying9 _ _ _ rfl _ rfl rfl c (by simp [*]) ?_)
      go_ret
      rw [HP.out]
      exact ⟨rfl, (Below.refl _ _).alloc (Nat.le_refl _) _⟩
    · have hp : putG (f + 1) n = UInt8.ofNat (n % 128 + 128) :: putG f (n / 128) := by rw [putG, if_neg h]
      have f0 : 0 < f := by
        rcases Nat.eq_zero_or_pos f with e | e
        · subst e; simp at hn; omega
        · exact e
      have ih := fun w => Lib.hid (rput_in f (n / 128) w (by rw [Nat.pow_succ] at hn; omega) (by omega) f0 (by omega))
      have HP := Lib.hid hp; clear hp
      obtain ⟨c, hc⟩ : ∃ c, c = UInt8.ofNat (n % 128 + 128) := ⟨_, rfl⟩
      have hcv : (128 + (n : Int) % 128) % 256 = c.toNat := by rw [hc, UInt8.toNat_ofNat']; omega
      have HC := Lib.hid hc; clear hc
      have hnn : (n : Int) / 128 = ((n / 128 : Nat) : Int) := by omega
      have hlt : ¬ (n : Int) < 128 := by omega
      generalize n / 128 = m at *
      have HN : (n : Int) ≤ 281474976710655 := by omega
      have HN0 : 0 ≤ (n : Int) := by omega
      clear hn h hm
      generalize (n : Int) = N at *
      have hlt2 : decide (N < 128) = false := by simp; omega
      have y1 : N.tmod 128 = N % 128 := Int.tmod_eq_emod_of_nonneg HN0
      have y2 : IntKind.i64.wrap (128 + N % 128) = 128 + N % 128 := IntWalk.i64_in _ (by omega)
      have y3 : IntKind.u8.wrap (128 + N % 128) = c.toNat := by simp only [IntKind.wrap, IntKind.bits, IntKind.signed]; simp; omega
      have y4 : N.tdiv 128 = m := by rw [Int.tdiv_eq_ediv_of_nonneg HN0, hnn]
      have hgs : 1 + (putG f m).length ≤ 9223372036854775807 := by have := putG_len f m; omega
      have y5 : IntKind.i64.wrap (m : Int) = m := IntWalk.i64_in _ (by omega)
      go_enter Try.func44, Try.ntmps44
      go_wp2_with fail
      have hcv1 : ∀ (W : World), (convert 38 9 (.slice (some ⟨W.heap.size, 0, none⟩) 1 1)).run Try.prog (W.alloc (.cells #[.int .u8 (c.toNat : Int)] 5)).drew = .ok (.string ⟨#[c]⟩) (W.alloc (.cells #[.int .u8 (c.toNat : Int)] 5)).drew := fun W =>
        conv_back _ 38 9 5 ⟨W.heap.size, 0, none⟩ 1 1 [c] rfl Try.underlying38 Try.underlying5 Try.underlying9 (by
          intro j hj
          have : j = 0 := by simpa using hj
          subst this
          simp [Addr.add, go_sem])
      have hcv2 : ∀ (W : World) (g : Nat), W.cell? ⟨g, 0, none⟩ = some (.int .u8 (c.toNat : Int)) → (convert 38 9 (.slice (some ⟨g, 0, none⟩) 1 1)).run Try.prog W = .ok (.string ⟨#[c]⟩) W := fun W g hg =>
        conv_back _ 38 9 5 ⟨g, 0, none⟩ 1 1 [c] rfl Try.underlying38 Try.underlying5 Try.underlying9 (by
          intro j hj
          have : j = 0 := by simpa using hj
          subst this
          simpa [Addr.add] using hg)
      go_region_with (go_at_call 44; (with_reducible refine (ih _).out.mono ?_); rintro e w1 ⟨rfl, hb1⟩; (first | have hbw := below_laid_d hb1 | have hbw := below_drewn hb1); try (have k0 := cell_at (one_laid_d (by simp) hb1) 0; simp at k0))
      all_goals
        go_wp2
        go_ret
        rw [HP.out, ← HC.out]
        refine ⟨ret_str ?_, ?_⟩
        · simp [bytes_app]
        · first
          | exact hbw
          | exact hbw.alloc hbw.size _
          | exact (hbw.alloc hbw.size _).drew

/-- The document's Put, of every length that a text may have. -/
theorem rput_len (n : Nat) (w : World) (h : n ≤ 1048576) : Calls Try.prog 44 #[.int .i64 n] w fun e w' => e = .returned (.string ⟨(putF n).toArray⟩) ∧ Below w.heap.size w w' := by
  rw [putF, if_neg (by omega)]
  exact rput_in 7 n w (by omega) (by omega) (by omega) (by omega)

set_option maxHeartbeats 400000 in
theorem rputText_any (t : ByteArray) (w : World) (ht : t.size ≤ 1048576) :
    Calls Try.prog 33 #[.string t] w fun e w' => e = .returned (.string ⟨(putTextF t.data.toList).toArray⟩) ∧ Below w.heap.size w w' := by
  have hl : t.data.toList.length = t.size := rfl
  have hz : ¬ (1048576 : Int) < t.size := by omega
  have hf : putTextF t.data.toList = putF t.size ++ t.data.toList := by rw [putTextF, if_neg (by rw [hl]; omega), hl]
  have HF := Lib.hid hf; clear hf hl
  have hgs : (putF t.size).length + t.size ≤ 9223372036854775807 := by have := putF_len t.size; omega
  have C := fun W => Lib.hid (rput_len t.size W ht)
  go_enter Try.func33, Try.ntmps33
  go_wp2_with (go_at_call 44; refine (C _).out.mono ?_; rintro e w' ⟨rfl, hb⟩)
  go_ret
  rw [HF.out]
  exact ⟨ret_str (bytes_append _ _), hb⟩

set_option maxHeartbeats 1000000 in
set_option maxRecDepth 100000 in
theorem rputFixed_any (n : Nat) (w : World) (h1 : n ≤ 4294967295) : Calls Try.prog 34 #[.int .i64 n] w fun e w' => e = .returned (.string ⟨(fixG n).toArray⟩) ∧ Below w.heap.size w w' := by
  have hz1 : decide ((n : Int) < 0) = false := by simp
  have hz2 : decide (4294967296 ≤ (n : Int)) = false := by simp; omega
  obtain ⟨b0, h0⟩ : ∃ b, b = UInt8.ofNat (n % 256) := ⟨_, rfl⟩
  obtain ⟨b1, h1'⟩ : ∃ b, b = UInt8.ofNat (n / 256 % 256) := ⟨_, rfl⟩
  obtain ⟨b2, h2⟩ : ∃ b, b = UInt8.ofNat (n / 65536 % 256) := ⟨_, rfl⟩
  obtain ⟨b3, h3⟩ : ∃ b, b = UInt8.ofNat (n / 16777216) := ⟨_, rfl⟩
  have hf : fixG n = [b0, b1, b2, b3] := by rw [h0, h1', h2, h3]; rfl
  have c0 : (n : Int) % 256 = b0.toNat := by rw [h0, UInt8.toNat_ofNat']; omega
  have c1 : (n : Int) / 256 % 256 = b1.toNat := by rw [h1', UInt8.toNat_ofNat']; omega
  have c2 : (n : Int) / 65536 % 256 = b2.toNat := by rw [h2, UInt8.toNat_ofNat']; omega
  have c3 : (n : Int) / 16777216 = b3.toNat := by rw [h3, UInt8.toNat_ofNat']; omega
  have l0 := b0.toNat_lt; have l1 := b1.toNat_lt; have l2 := b2.toNat_lt; have l3 := b3.toNat_lt
  clear h0 h1' h2 h3
  have HF := Lib.hid hf; clear hf
  have hN0 : 0 ≤ (n : Int) := by omega
  have hN1 : (n : Int) ≤ 4294967295 := by omega
  have d0 : (n : Int) % 256 % 256 = b0.toNat := by omega
  have d1 : (n : Int) / 256 % 256 % 256 = b1.toNat := by omega
  have d2 : (n : Int) / 65536 % 256 % 256 = b2.toNat := by omega
  have d3 : (n : Int) / 16777216 % 256 = b3.toNat := by omega
  clear h1
  generalize (n : Int) = N at *
  go_enter Try.func34, Try.ntmps34
  go_wp2
  rw [conv_back _ 38 9 5 ⟨w.heap.size, 0, none⟩ 4 4 [b0, b1, b2, b3] rfl Try.underlying38 Try.underlying5 Try.underlying9 ?_]
  · go_wp2
    go_ret
    rw [HF.out]
    exact ⟨rfl, (Below.refl _ _).alloc (Nat.le_refl _) _⟩
  · intro j hj
    simp at hj
    rcases (by omega : j = 0 ∨ j = 1 ∨ j = 2 ∨ j = 3) with rfl | rfl | rfl | rfl <;> simp [Addr.add, go_sem, *]

set_option maxHeartbeats 400000 in
theorem tagged_any (n : Nat) (t : ByteArray) (w : World) (hn : n < 256) (ht : t.size ≤ 1048576) :
    Calls Try.prog 30 #[.int .i64 n, .string t] w fun e w' => e = .returned (.string ⟨(UInt8.ofNat n :: t.data.toList).toArray⟩) ∧ Below w.heap.size w w' := by
  have hc : (n : Int) % 256 = (UInt8.ofNat n).toNat := by rw [UInt8.toNat_ofNat']; omega
  have hc2 : (n : Int) = (UInt8.ofNat n).toNat := by rw [UInt8.toNat_ofNat']; omega
  generalize UInt8.ofNat n = c at *
  have hgs : 1 + t.size ≤ 9223372036854775807 := by omega
  have hn0 : 0 ≤ (n : Int) := by omega
  have hn1 : (n : Int) < 256 := by omega
  have HC := Lib.hid hc2; clear hc2
  clear hn
  generalize (n : Int) = N at *
  go_enter Try.func30, Try.ntmps30
  go_wp2_with (refine wpList_conv_byte rfl 38 9 5 _ rfl Try.underlying38 Try.underlying5 Try.underlying9 _ _ _ rfl _ rfl rfl c (by simp [*]; try exact HC.out) ?_)
  go_ret
  refine ⟨ret_str ?_, (Below.refl _ _).alloc (Nat.le_refl _) _⟩
  apply ByteArray.ext; simp

set_option maxHeartbeats 400000 in
theorem bad_any (a e : Int) (w : World) :
    Calls Try.prog 26 #[.int .i64 a, .int .i64 e] w fun en w' => en = .returned (.tuple #[.int .i64 0, .string ⟨#[]⟩, .int .i64 a, .int .i64 e]) ∧ w = w' := by
  go_enter Try.func26, Try.ntmps26
  go_wp2
  refine bodyPost_ret (v := .tuple #[.int .i64 0, .string ⟨#[]⟩, .int .i64 a, .int .i64 e]) (by simp [results, Try.results26, go_sem, *]) rfl ⟨rfl, rfl⟩
end Go.Proofs.Yteikmkbaokfgeaa
