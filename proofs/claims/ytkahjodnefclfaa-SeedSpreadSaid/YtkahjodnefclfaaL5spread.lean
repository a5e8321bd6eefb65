/- Layer 5: SeedSpread: of the first children of a task all seeds are unlike, and so are those of the first draws' numbers. -/
import Derived.Test.YtkahjodnefclfaaL5apart
import Derived.Test.YtkahjodnefclfaaOwn
import Derived.OpenShut
import Derived.BigQuiet
import Derived.Lib.QuietBelow
import Derived.Test.YtkahjodnefclfaaQt
namespace Go.Proofs.Ytkahjodnefclfaa.seedSpread
set_option linter.unusedVariables false
set_option linter.unusedSimpArgs false
open Go.ChangeShapes Go.WideShapes Go.ChangeAt Go.RowKit Gm Sdm Go.Sort

open seedApart (mixZ_nat use_nat isZ_bd neI neI')
/-- The seeds of the first children, and what the first numbers are mixed into, in turn. -/
def sp (s : Int) : Nat → List Value
  | 0 => []
  | k + 1 => sp s k ++ [.int .i64 (useZ s 1 k), .int .i64 (mixZ s k)]
theorem sp_len (s : Int) : ∀ k, (sp s k).length = 2 * k
  | 0 => rfl
  | k + 1 => by rw [sp, List.length_append, sp_len s k]; simp; omega
theorem sp_at (s : Int) : ∀ k j (h : j < k), (sp s k)[2 * j]? = some (.int .i64 (useZ s 1 j)) ∧ (sp s k)[2 * j + 1]? = some (.int .i64 (mixZ s j))
  | k + 1, j, h => by
    rw [sp]
    by_cases hj : j = k
    · subst hj
      rw [List.getElem?_append_right (by rw [sp_len]; omega), List.getElem?_append_right (by rw [sp_len]; omega), sp_len]
      simp
    · rw [List.getElem?_append_left (by rw [sp_len]; omega), List.getElem?_append_left (by rw [sp_len]; omega)]
      exact sp_at s k j (by omega)
theorem OwnV.cell {w : World} {B : Nat} {v : Value} {s : Int} {k : Nat} (h : OwnV w B 3 v (sp s k)) :
    ∃ A c, v = .slice A (2 * k) c ∧ (0 < k → ∃ g, A = some ⟨g, 0, none⟩ ∧ ∀ j, j < k → w.cell? ⟨g, 2 * j, none⟩ = some (.int .i64 (useZ s 1 j)) ∧ w.cell? ⟨g, 2 * j + 1, none⟩ = some (.int .i64 (mixZ s j))) := by
  obtain ⟨A, c, e, hc⟩ := h.form
  simp only [sp_len] at e hc
  refine ⟨A, c, e, fun h0 => ?_⟩
  obtain ⟨g, rfl, _, _, hc⟩ := hc (by omega)
  refine ⟨g, rfl, fun j hj => ?_⟩
  obtain ⟨e1, e2⟩ := sp_at s k j hj
  have l := sp_len s k
  rw [List.getElem?_eq_getElem (by omega)] at e1 e2
  rw [hc _ (by omega), hc _ (by omega), Option.some.inj e1, Option.some.inj e2]
  exact ⟨rfl, rfl⟩
theorem infoI : (Try.prog.info? 3).map (fun i => (i.zero, i.size, i.bytes)) = some (some (.int .i64 0), 1, 8) := by kernel_rfl
set_option maxHeartbeats 1000000 in
set_option maxRecDepth 100000 in
theorem good (s : Int) (n : Nat) (hs : isZ s = true) (hn : n ≤ 60) : Ct Try.prog 7 #[.int .i64 s, .int .i64 n] (.bool true) := fun w => by
  have FX := fixed_true
  have I0 := cs_is hs
  have hn1 : (n : Int) ≤ 60 := by omega
  obtain ⟨s, rfl, hs'⟩ := isZ_of hs
  clear hs
  go_enter Try.func7, Try.ntmps7
  go_wp2_with (first
    | (go_at_call 8; (with_reducible refine (FX.go _).mono ?_); rintro e v ⟨rfl, hb⟩; have hw := hb; clear hb)
    | (go_at_call 15; (with_reducible refine (I0.go _).mono ?_); rintro e v ⟨rfl, rfl⟩))
  have hv := OwnV.made v 3
  have hB : Below v.heap.size v (v.alloc (.cells #[] 3)) := (Below.refl _ _).alloc (Nat.le_refl _) _
  have hW : Below w.heap.size w (v.alloc (.cells #[] 3)) := Below.step hw hB
  clear hB
  have hBs := hw.size
  go_loopw [5, 6] (fun l i wr => ∃ k : Nat, k ≤ n ∧ i = .int .i64 k ∧ OwnV wr v.heap.size 3 l (sp s k) ∧ Below w.heap.size w wr ∧ v.heap.size ≤ wr.heap.size) (fun _ i _ => n - (intOf i).toNat)
  case atStart => exact ⟨0, by omega, rfl, hv, hW, by simp⟩
  case round =>
    obtain ⟨k, hk, rfl, hl, hb, hz⟩ := hrel
    by_cases hlt : k < n
    · have hlt2 : (k : Int) < n := by omega
      have C1 := child_any s k
      have C2 := mix_any s k
      obtain ⟨A, c, rfl, hc⟩ := OwnV.cell hl
      obtain ⟨K, hK⟩ : ∃ K, K = 2 * k := ⟨_, rfl⟩
      rw [← hK] at hl ⊢
      have HK := Lib.hid hK
      have hK1 : K ≤ 2 * k := by omega
      have hK2 : 2 * k ≤ K := by omega
      clear hK
      have HC := Lib.hid hc
      clear hc
      have HL := Lib.hid hl
      clear hl
      go_wp2_with (first
        | (go_at_call 11; (with_reducible refine (C1.go _).mono ?_); rintro e v ⟨rfl, rfl⟩)
        | (go_at_call 9; (with_reducible refine (C2.go _).mono ?_); rintro e v ⟨rfl, rfl⟩))
      go_loop [9] (fun i => ∃ m : Nat, m ≤ K ∧ m % 2 = 0 ∧ i = .int .i64 m) (fun i => K - (intOf i).toNat)
      case atStart => exact ⟨0, by omega, rfl, rfl⟩
      case round =>
        obtain ⟨m, hm, hm2, rfl⟩ := hrel
        by_cases hlt3 : m < K
        · have hlt4 : (m : Int) < K := by omega
          obtain ⟨g, rfl, hc⟩ := HC.out (by omega)
          obtain ⟨c0, c1⟩ := hc (m / 2) (by omega)
          have e0 : 2 * (m / 2) = m := by omega
          rw [e0] at c0 c1
          have n0 : (useZ s 1 (m / 2 : Nat) == useZ s 1 k) = false := by
            rw [use_nat hs' (by omega), use_nat hs' (by omega)]
            exact neI fun e => by have := child_inj_num (by omega) (by omega) e; omega
          have n1 : (mixZ s (m / 2 : Nat) == mixZ s k) = false := by
            rw [mixZ_nat hs' (by omega), mixZ_nat hs' (by omega)]
            exact neI fun e => by have := mix_inj_num hs' (by omega) (by omega) e; omega
          generalize ((m / 2 : Nat) : Int) = j at *
          generalize useZ s 1 j = x0 at *
          generalize mixZ s j = x1 at *
          clear hc e0
          have hKm : K ≤ 140737488351232 := by omega
          go_wp2_with fail
          go_round
          case rel => exact ⟨m + 2, by omega, by omega, by go_num⟩
          case measure => simp [intOf]; omega
        · have hlt4 : (m : Int) = K := by omega
          obtain rfl : m = K := by omega
          clear hlt4
          obtain ⟨news, hnews⟩ : ∃ news : Array Value, news = #[.int .i64 (useZ s 1 k), .int .i64 (mixZ s k)] := ⟨_, rfl⟩
          have HN := Lib.hid hnews
          clear hnews
          have hlen : (sp s k).length = 2 * k := sp_len s k
          go_wp2_with (at_builtin; refine wpList_append_vals rfl _ _ 31 rfl 3 (.int .i64 0) 8 Try.underlying31 infoI rfl v.heap.size wr _ (sp s k) #[.int .i64 (useZ s 1 k), .int .i64 (mixZ s k)] 2 rfl rfl rfl (by have := HL.out; rw [HK.out] at this ⊢; exact this) rfl (by intro u hu; simp at hu; rcases hu with rfl | rfl <;> rfl) (by rw [hlen]; unfold maxLen; omega) (by rw [hlen]; omega) hz ?_; intro v' w2 hv2 hb2)
          go_roundw
          case rel => exact ⟨k + 1, by omega, by go_num, hv2, hb.trans (hb2.mono (by omega)), by have := hb2.size; omega⟩
          case measure => simp [intOf]; omega
    · clear hl
      go_wp2_with fail
      go_ret
      exact ⟨rfl, hb⟩
set_option maxHeartbeats 1000000 in
set_option maxRecDepth 100000 in
theorem other (s n : Int) (h : isZ s = false ∨ (isZ s = true ∧ n < 0) ∨ (isZ s = true ∧ 0 ≤ n ∧ 60 < n)) : Ct Try.prog 7 #[.int .i64 s, .int .i64 n] (.bool true) := fun w => by
  have FX := fixed_true
  rcases h with h0 | ⟨h0, h1⟩ | ⟨h0, h1, h2⟩
  all_goals
    have I0 := cs_is h0
    clear h0
    go_enter Try.func7, Try.ntmps7
    go_wp2_with (first
      | (go_at_call 8; (with_reducible refine (FX.go _).mono ?_); rintro e v ⟨rfl, hb⟩; first | (replace hw := Below.step hw hb; clear hb) | (have hw := hb; clear hb))
      | (go_at_call 15; (with_reducible refine (I0.go _).mono ?_); rintro e v ⟨rfl, rfl⟩))
    go_ret
    exact ⟨rfl, hw⟩
theorem entry {H : Type} {enc : TypeId × Value → H} (W : World) (base : Nat) (v0 v1 : Value) (d0 d1 : DataW H) (p0 p1 : List MemPlace)
    (k0 : Value.okWide Try.prog W .any base 3 v0)
    (k1 : Value.okWide Try.prog W .any base 3 v1)
    (h0 : DataW.Trod enc Try.prog W 0 (fun _ => true) true 3 v0 d0 p0)
    (h1 : DataW.Trod enc Try.prog W 0 (fun _ => true) true 3 v1 d1 p1) :
    Calls Try.prog 7 #[v0, v1] W fun e w' => e = .returned (.bool true) ∧ Below W.heap.size W w' := by
  obtain ⟨a0, rfl, rfl, rfl, w0⟩ := open_int Try.underlying3 k0 h0
  obtain ⟨a1, rfl, rfl, rfl, w1⟩ := open_int Try.underlying3 k1 h1
  by_cases h0 : isZ a0 = true
  · by_cases h1 : 0 ≤ a1 ∧ a1 ≤ 60
    · obtain ⟨n, rfl⟩ := Int.eq_ofNat_of_zero_le h1.1
      exact good a0 n h0 (by omega) W
    · exact other a0 a1 (.inr (by rcases Int.lt_or_le a1 0 with h | h; exact .inl ⟨h0, h⟩; exact .inr ⟨h0, h, by omega⟩)) W
  · exact other a0 a1 (.inl (by simpa using h0)) W
end Go.Proofs.Ytkahjodnefclfaa.seedSpread
