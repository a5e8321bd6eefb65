/- Layer 6: OpText: an operation's name is letters alone, at most five, and none is another one's beginning, but those that are the same. For all numbers. -/
import Derived.Test.YthjgfkaodkgmfaaDoorL6fix
import Derived.OpenShut
import Derived.BigQuiet
import Derived.Lib.QuietBelow
namespace Go.Proofs.YthjgfkaodkgmfaaDoor.opText
set_option linter.unusedVariables false
set_option linter.unusedSimpArgs false
open Go.ChangeShapes Go.WideShapes Go.ChangeAt Go.RowKit Go.Sort

theorem size_ok : ∀ k, k < 17 → 2 ≤ (orow k).nm.size ∧ (orow k).nm.size ≤ 5 ∧ (orow k).nm.data.toList.all (fun c => decide (97 ≤ c.toNat) && decide (c.toNat ≤ 122)) = true := by decide +kernel
theorem apart : ∀ k, k < 17 → ∀ j, j < 17 → k ≠ j → (orow k).nm.size ≤ (orow j).nm.size → ((orow j).nm.extract 0 (orow k).nm.size).data.toList ≠ (orow k).nm.data.toList := by decide +kernel
theorem letter {k : Nat} (hk : k < 17) (i : Nat) (hi : i < (orow k).nm.size) : 97 ≤ ((orow k).nm[i]'hi).toNat ∧ ((orow k).nm[i]'hi).toNat ≤ 122 := by
  have h := List.all_eq_true.1 (size_ok k hk).2.2 ((orow k).nm[i]'hi) (by
    have : i < (orow k).nm.data.toList.length := by simpa using hi
    exact List.mem_iff_getElem.2 ⟨i, this, by simp; rfl⟩)
  simpa using h
set_option maxHeartbeats 1000000 in
set_option maxRecDepth 100000 in
theorem out (a b : Int) (h : okZ a = false ∨ (okZ a = true ∧ okZ b = false)) : Co Tryd.prog 7 #[.int .i64 a, .int .i64 b] (.bool true) := fun w hT => by
  have hw : Below w.heap.size w w := Below.refl _ _
  rcases h with ha | ⟨ha, hb⟩
  · rcases okZ_no ha with h | h
    all_goals
      go_enter Tryd.func7, Tryd.ntmps7
      go_wp2_with (first
        | (go_at_call 8; (with_reducible refine (fixed_true.go _ hT).mono ?_); rintro e v ⟨rfl, hb⟩; replace hT := hT.below hb; replace hw := Below.step hw hb; clear hb))
      go_ret
      exact ⟨rfl, hw⟩
  · simp only [okZ, Bool.and_eq_true, decide_eq_true_eq] at ha
    obtain ⟨h1, h2⟩ := ha
    rcases okZ_no hb with h | h
    all_goals
      go_enter Tryd.func7, Tryd.ntmps7
      go_wp2_with (first
        | (go_at_call 8; (with_reducible refine (fixed_true.go _ hT).mono ?_); rintro e v ⟨rfl, hb⟩; replace hT := hT.below hb; replace hw := Below.step hw hb; clear hb))
      go_ret
      exact ⟨rfl, hw⟩

set_option maxHeartbeats 2000000 in
set_option maxRecDepth 100000 in
theorem good (k j : Nat) (hk : k < 17) (hj : j < 17) : Co Tryd.prog 7 #[.int .i64 k, .int .i64 j] (.bool true) := fun w hT => by
  have hw : Below w.heap.size w w := Below.refl _ _
  have CA := co_name (n := (k : Int)) rfl
  have CB := co_name (n := (j : Int)) rfl
  rw [rz_in hk] at CA
  rw [rz_in hj] at CB
  obtain ⟨z1, z2, _⟩ := size_ok k hk
  obtain ⟨y1, y2, _⟩ := size_ok j hj
  have hl := fun i hi => letter hk i hi
  have hap := apart k hk j hj
  by_cases hkj : k = j
  · subst hkj
    clear hap CB
    generalize (orow k).nm = s at *
    have HL := Lib.hid hl
    clear hl
    go_enter Tryd.func7, Tryd.ntmps7
    go_wp2_with (first
      | (go_at_call 8; (with_reducible refine (fixed_true.go _ hT).mono ?_); rintro e v ⟨rfl, hb⟩; replace hT := hT.below hb; replace hw := Below.step hw hb; clear hb)
      | (go_at_call 12; (with_reducible refine (CA.go _ hT).mono ?_); rintro e v ⟨rfl, hb⟩; replace hT := hT.below hb; replace hw := Below.step hw hb; clear hb))
    go_loop [7] (fun i => ∃ m : Nat, m ≤ s.size ∧ i = .int .i64 m) (fun i => s.size - (intOf i).toNat)
    case atStart => exact ⟨0, by omega, rfl⟩
    case round =>
      obtain ⟨m, hm, rfl⟩ := hrel
      by_cases hlt : m < s.size
      · have hl := HL.out m hlt
        have hl1 := hl.1
        have hl2 := hl.2
        clear hl
        go_wp2_with fail
        go_round
        case rel => exact ⟨m + 1, by omega, by go_num⟩
        case measure => simp [intOf]; omega
      · obtain rfl : m = s.size := by omega
        go_wp2_with fail
        go_ret
        exact ⟨rfl, hw⟩
  · have hne : ((k : Int) == (j : Int)) = false := by simpa using (fun h => hkj (by omega) : ¬ (k : Int) = j)
    by_cases hs : (orow j).nm.size < (orow k).nm.size
    · clear hap
      generalize (orow k).nm = s at *
      generalize (orow j).nm = t at *
      have HL := Lib.hid hl
      clear hl hkj
      go_enter Tryd.func7, Tryd.ntmps7
      go_wp2_with (first
        | (go_at_call 8; (with_reducible refine (fixed_true.go _ hT).mono ?_); rintro e v ⟨rfl, hb⟩; replace hT := hT.below hb; replace hw := Below.step hw hb; clear hb)
        | (go_at_call 12; (with_reducible refine (CA.go _ hT).mono ?_); rintro e v ⟨rfl, hb⟩; replace hT := hT.below hb; replace hw := Below.step hw hb; clear hb)
        | (go_at_call 12; (with_reducible refine (CB.go _ hT).mono ?_); rintro e v ⟨rfl, hb⟩; replace hT := hT.below hb; replace hw := Below.step hw hb; clear hb))
      go_loop [7] (fun i => ∃ m : Nat, m ≤ s.size ∧ i = .int .i64 m) (fun i => s.size - (intOf i).toNat)
      case atStart => exact ⟨0, by omega, rfl⟩
      case round =>
        obtain ⟨m, hm, rfl⟩ := hrel
        by_cases hlt : m < s.size
        · have hl := HL.out m hlt
          have hl1 := hl.1
          have hl2 := hl.2
          clear hl
          go_wp2_with fail
          go_round
          case rel => exact ⟨m + 1, by omega, by go_num⟩
          case measure => simp [intOf]; omega
        · obtain rfl : m = s.size := by omega
          go_wp2_with fail
          go_ret
          exact ⟨rfl, hw⟩
    · have hx := hap hkj (by omega)
      clear hap
      generalize (orow k).nm = s at *
      generalize (orow j).nm = t at *
      have hle : s.size ≤ t.size := by omega
      have hx2 : ((t.extract 0 s.size).toList == s.toList) = false := by
        rw [ByteArray.toList_eq, ByteArray.toList_eq]
        exact beq_eq_false_iff_ne.2 hx
      have HL := Lib.hid hl
      clear hl hkj hx hs
      go_enter Tryd.func7, Tryd.ntmps7
      go_wp2_with (first
        | (go_at_call 8; (with_reducible refine (fixed_true.go _ hT).mono ?_); rintro e v ⟨rfl, hb⟩; replace hT := hT.below hb; replace hw := Below.step hw hb; clear hb)
        | (go_at_call 12; (with_reducible refine (CA.go _ hT).mono ?_); rintro e v ⟨rfl, hb⟩; replace hT := hT.below hb; replace hw := Below.step hw hb; clear hb)
        | (go_at_call 12; (with_reducible refine (CB.go _ hT).mono ?_); rintro e v ⟨rfl, hb⟩; replace hT := hT.below hb; replace hw := Below.step hw hb; clear hb))
      go_loop [7] (fun i => ∃ m : Nat, m ≤ s.size ∧ i = .int .i64 m) (fun i => s.size - (intOf i).toNat)
      case atStart => exact ⟨0, by omega, rfl⟩
      case round =>
        obtain ⟨m, hm, rfl⟩ := hrel
        by_cases hlt : m < s.size
        · have hl := HL.out m hlt
          have hl1 := hl.1
          have hl2 := hl.2
          clear hl
          go_wp2_with fail
          go_round
          case rel => exact ⟨m + 1, by omega, by go_num⟩
          case measure => simp [intOf]; omega
        · obtain rfl : m = s.size := by omega
          go_wp2_with fail
          go_ret
          exact ⟨rfl, hw⟩

theorem walk (a b : Int) : Co Tryd.prog 7 #[.int .i64 a, .int .i64 b] (.bool true) := by
  rcases okZ_cases a with ⟨k, hk, rfl⟩ | ha
  · rcases okZ_cases b with ⟨j, hj, rfl⟩ | hb
    · exact good k j hk hj
    · exact out _ _ (.inr ⟨by simp [okZ]; omega, hb⟩)
  · exact out _ _ (.inl ha)
theorem entry {H : Type} {enc : TypeId × Value → H} (W : World) (base : Nat) (v0 v1 : Value) (d0 d1 : DataW H) (p0 p1 : List MemPlace)
    (k0 : Value.okWide Tryd.prog W .any base 3 v0)
    (k1 : Value.okWide Tryd.prog W .any base 3 v1)
    (h0 : DataW.Trod enc Tryd.prog W 0 (fun _ => true) true 3 v0 d0 p0)
    (h1 : DataW.Trod enc Tryd.prog W 0 (fun _ => true) true 3 v1 d1 p1)
    (hT : Otab W) :
    Calls Tryd.prog 7 #[v0, v1] W fun e w' => e = .returned (.bool true) ∧ Below W.heap.size W w' := by
  obtain ⟨a0, rfl, rfl, rfl, w0⟩ := open_int Tryd.underlying3 k0 h0
  obtain ⟨a1, rfl, rfl, rfl, w1⟩ := open_int Tryd.underlying3 k1 h1
  exact walk a0 a1 W hT
end Go.Proofs.YthjgfkaodkgmfaaDoor.opText
