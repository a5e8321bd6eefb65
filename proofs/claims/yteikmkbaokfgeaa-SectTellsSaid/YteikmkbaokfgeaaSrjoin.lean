/- Layer 3: the document's own answers: the bytes of whatever section, and of sections. -/
import Derived.Test.YteikmkbaokfgeaaSrsec
import Derived.Test.YteikmkbaokfgeaaSjoin
import Derived.BigQuiet
import Derived.Lib.QuietBelow
namespace Go.Proofs.Yteikmkbaokfgeaa
set_option linter.unusedVariables false
set_option linter.unusedSimpArgs false
open Go.RowKit Go.ChangeShapes Go.WideShapes Go.ChangeAt Cm

theorem rsput_any (tag : Int) (t : ByteArray) (w : World) (ht : t.size ≤ maxLen) :
    Calls Try.prog 16 #[.int .i64 tag, .string t] w fun e w' => e = .returned (.string ⟨(putS tag t.data.toList).toArray⟩) ∧ Below w.heap.size w w' := by
  have hl : t.data.toList.length = t.size := rfl
  by_cases h : tag < 0 ∨ 255 < tag ∨ 1048576 < (t.size : Int)
  · refine (rsput_none tag t w ht h).mono fun e w' ⟨he, hw⟩ => ⟨?_, below_of_eq hw _⟩
    rw [he, putS, if_pos (by rw [hl]; exact h)]
  · obtain ⟨n, rfl⟩ := Int.eq_ofNat_of_zero_le (by omega : 0 ≤ tag)
    refine (rsput_in n t w (by omega) (by omega)).mono fun e w' ⟨he, hw⟩ => ⟨?_, hw⟩
    rw [he, putS, if_neg (by rw [hl]; exact h), tagB, Int.toNat_natCast]

/-- What is joined so far. -/
def JoinR (w : World) (ss : List (Int × ByteArray)) (s i : Value) (wr : World) : Prop :=
  ∃ k : Nat, k ≤ ss.length ∧ i = .int .i64 k ∧ s = .string ⟨(joinS (rawS (ss.take k))).toArray⟩ ∧ Below w.heap.size w wr

set_option maxHeartbeats 1000000 in
set_option maxRecDepth 100000 in
theorem rsjoin_any {A : Option Addr} {ss : List (Int × ByteArray)} (c : Nat) (w : World) (h : Secs w w.heap.size A ss) (hz : Sized ss) (hn : ss.length ≤ 10000) :
    Calls Try.prog 19 #[.slice A ss.length c] w fun e w' => e = .returned (.string ⟨(joinS (rawS ss)).toArray⟩) ∧ Below w.heap.size w w' := by
  have HS := Lib.hid h; clear h
  have HZ := Lib.hid hz; clear hz
  go_enter Try.func19, Try.ntmps19
  go_wp2
  go_loopw [3, 4] (fun s i wr => JoinR w ss s i wr) (fun _ i _ => ss.length - (intOf i).toNat)
  case atStart => exact ⟨0, by omega, rfl, rfl, Below.refl _ _⟩
  case round =>
    obtain ⟨k, hk, rfl, rfl, hb⟩ := hrel
    by_cases hlt : k < ss.length
    · obtain ⟨b, off, rfl, hbl, hc⟩ := HS.out (by omega)
      obtain ⟨c0, c1⟩ := hc k hlt
      clear hc
      have c0 := (hb.cell (p := ⟨b, off + k * 2, none⟩) hbl).trans c0
      have c1 := (hb.cell (p := ⟨b, off + k * 2 + 1, none⟩) hbl).trans c1
      have g0 := fun d os => cell_regrown c0 d os
      have g1 := fun d os => cell_regrown c1 d os
      have hy := HZ.out _ (List.getElem_mem hlt)
      have hs := raw_snoc ss k hlt
      have hlen := joinS_len (rawS (ss.take k))
      have hlr : (rawS (ss.take k)).length = k := by simp [rawS]; omega
      rw [hlr] at hlen
      have hk1 : (k : Int) < ss.length := by omega
      generalize ss[k] = y at *
      have hput := putS_len y.1 y.2.data.toList
      have CP := fun W => Lib.hid (rsput_any y.1 y.2 W hy)
      have HF := Lib.hid hs; clear hs hlr
      generalize putS y.1 y.2.data.toList = q at *
      generalize joinS (rawS (ss.take k)) = acc at *
      have hgs : acc.length + q.length ≤ 9223372036854775807 := by omega
      go_wp2_with fail
      refine wp_region_quiet_below (by kernel_rfl) (by kernel_rfl) ?_
      repeat (first
        | go_big_quiet_step ((go_at_call 16; (with_reducible exact Calls.regrown_of (CP _).out)))
        | quiet_step ((go_at_call 16; (with_reducible exact Calls.regrown_of (CP _).out))))
      refine wpQuiet_nil ?_
      intro W hW
      have hWb := below_of_regrown hW
      clear hW
      go_wp2_with fail
      go_roundw
      case rel => exact ⟨k + 1, by omega, by go_num, by rw [HF.out]; exact congrArg Value.string (bytes_app _ _), Below.step hb hWb⟩
      case measure => simp [intOf]; omega
    · obtain rfl : k = ss.length := by omega
      rw [List.take_length]
      go_wp2_with fail
      go_ret
      exact ⟨rfl, hb⟩
end Go.Proofs.Yteikmkbaokfgeaa
