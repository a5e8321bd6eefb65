/- Layer 3: sections joined: the code's Join. -/
import Derived.Test.YteikmkbaokfgeaaSput
import Derived.Test.YteikmkbaokfgeaaSbld
import Derived.Test.YteikmkbaokfgeaaSsec
namespace Go.Proofs.Yteikmkbaokfgeaa
set_option linter.unusedVariables false
set_option linter.unusedSimpArgs false
open Go.RowKit Go.ChangeShapes Go.WideShapes Go.ChangeAt Cm

def rawS (ss : List (Int × ByteArray)) : List (Int × List UInt8) := ss.map fun x => (x.1, x.2.data.toList)
theorem putS_len (t : Int) (p : List UInt8) : (putS t p).length ≤ 1048600 := by
  unfold putS
  split
  · simp
  · rename_i h
    rw [List.length_cons, bodyS_len, putTextF_eq (by omega), List.length_append]
    have := putG_len 7 p.length
    omega
theorem joinS_len : ∀ l : List (Int × List UInt8), (joinS l).length ≤ 1048600 * l.length
  | [] => by simp [joinS]
  | x :: l => by
    have := joinS_len l
    have := putS_len x.1 x.2
    rw [joinS_cons, List.length_append, List.length_cons]
    omega
theorem raw_snoc (ss : List (Int × ByteArray)) (k : Nat) (h : k < ss.length) : joinS (rawS (ss.take (k + 1))) = joinS (rawS (ss.take k)) ++ putS ss[k].1 ss[k].2.data.toList := by
  rw [List.take_succ_eq_append_getElem h]
  unfold rawS
  rw [List.map_append, joinS_app]
  congr 1
  simp [joinS]

set_option maxHeartbeats 1000000 in
set_option maxRecDepth 100000 in
theorem sjoin_any {A : Option Addr} {ss : List (Int × ByteArray)} (c : Nat) (w : World) (h : Secs w w.heap.size A ss) (hz : Sized ss) (hn : ss.length ≤ 10000) :
    Calls Try.prog 18 #[.slice A ss.length c] w fun e w' => e = .returned (.string ⟨(joinS (rawS ss)).toArray⟩) ∧ Below w.heap.size w w' := by
  have HA := Lib.hid h; clear h
  have HZ := Lib.hid hz; clear hz
  go_enter Try.func18, Try.ntmps18
  go_wp2
  have hB0 := Bd.fresh w
  have hb0 : Below w.heap.size w (w.alloc (.cells #[.pointer none, .slice none 0 0] 56)) := (Below.refl _ _).alloc (Nat.le_refl _) _
  go_loopw [8] (fun i wr => ∃ k : Nat, k ≤ ss.length ∧ i = .int .i64 k ∧ Bd wr w.heap.size w.heap.size (joinS (rawS (ss.take k))) ∧ Below w.heap.size w wr) (fun i _ => ss.length - (intOf i).toNat)
  case atStart => exact ⟨0, by omega, rfl, hB0, hb0⟩
  case round =>
    obtain ⟨k, hk, rfl, hB, hb⟩ := hrel
    clear hB0 hb0
    by_cases hlt : k < ss.length
    · obtain ⟨b, off, rfl, hbl, hc⟩ := HA.out (by omega)
      obtain ⟨c0, c1⟩ := hc k hlt
      clear hc
      have c0 := (hb.cell (p := ⟨b, off + k * 2, none⟩) hbl).trans c0
      have c1 := (hb.cell (p := ⟨b, off + k * 2 + 1, none⟩) hbl).trans c1
      have hx := HZ.out _ (List.getElem_mem hlt)
      have hs := raw_snoc ss k hlt
      have hlen := joinS_len (rawS (ss.take k))
      have hlr : (rawS (ss.take k)).length = k := by simp [rawS]; omega
      rw [hlr] at hlen
      have hk1 : (k : Int) < ss.length := by omega
      generalize ss[k] = x at *
      have hput := putS_len x.1 x.2.data.toList
      have CP := fun W => Lib.hid (sput_any x.1 x.2 W hx)
      have HS := Lib.hid hs; clear hs hlr
      generalize putS x.1 x.2.data.toList = q at *
      generalize joinS (rawS (ss.take k)) = acc at *
      have hqs : (⟨q.toArray⟩ : ByteArray).size = q.length := by show q.toArray.size = _; simp
      have hB2 := hB.alloc (.cells #[.int .i64 x.1, .string x.2] 32)
      have hb2 : Below w.heap.size w (wr.alloc (.cells #[.int .i64 x.1, .string x.2] 32)) := hb.alloc hb.size _
      go_wp2_with (first
        | (go_at_call 15; (with_reducible refine (CP _).out.mono ?_); rintro e w1 ⟨rfl, hb3⟩; have hB4 := Bd.below hB2 hb3; have hb4 := Below.step hb2 hb3)
        | (go_at_call 35; refine (writeString_any _ hB4 (by rw [hqs]; omega) hb4.size).mono ?_; rintro e w2 ⟨rfl, hB5, hb5⟩))
      go_roundw
      case rel => exact ⟨k + 1, by omega, by go_num, by rw [HS.out]; exact hB5, hb4.trans hb5⟩
      case measure => simp [intOf]; omega
    · obtain rfl : k = ss.length := by omega
      rw [List.take_length] at hB
      go_wp2_with (go_at_call 36; refine (string_any hB hb.size).mono ?_; rintro e w2 ⟨rfl, hb5⟩)
      go_ret
      exact ⟨rfl, hb.trans hb5⟩
end Go.Proofs.Yteikmkbaokfgeaa
