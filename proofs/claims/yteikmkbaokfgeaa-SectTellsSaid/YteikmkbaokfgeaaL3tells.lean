/- Layer 3: SectTells: the bytes of any section, and of any sections, and the sections that any bytes are, or why they are none, and where, are as the document says. For every text, every number and every list of sections. -/
import Derived.Test.YteikmkbaokfgeaaSfix
import Derived.Test.YteikmkbaokfgeaaSm2
import Derived.Test.YteikmkbaokfgeaaSopen
import Derived.Test.YteikmkbaokfgeaaSrjoin
import Derived.Test.YteikmkbaokfgeaaSrall
import Derived.ChangeMaps5
namespace Go.Proofs.Yteikmkbaokfgeaa.sectTells
set_option linter.unusedVariables false
set_option linter.unusedSimpArgs false
open Go.ChangeShapes Go.WideShapes Go.ChangeAt Go.RowKit Cm

theorem ret_true {b : Bool} (h : b = true) : Ending.returned (.bool b) = .returned (.bool true) := by rw [h]
theorem rsall_lit (s : ByteArray) (l : List (Int × List UInt8)) (n : Nat) (m : Int) (k : Nat) (e : Int) (w : World) (hs : s.size ≤ 1000000) (h : allS s.data.toList = (l, k, e)) (hn : l.length = n) (hk : (k : Int) = m) :
    Calls Try.prog 14 #[.string s] w fun en w' => ∃ A c, en = .returned (.tuple #[.slice A n c, .int .i64 m, .int .i64 e]) ∧ Secs w' w'.heap.size A (packS l) ∧ Below w.heap.size w w' := by
  have := rsall_any s w hs; rw [h] at this; subst hn hk; exact this

/-- The loop over the sections. -/
structure TellR (w : World) (n : Nat) (A1 A2 : Option Addr) (l : List (Int × List UInt8)) (i : Value) (wr : World) : Prop where
  ex : ∃ k : Nat, k ≤ n ∧ i = .int .i64 k ∧ Secs wr wr.heap.size A1 (packS l) ∧ Secs wr wr.heap.size A2 (packS l) ∧ Below w.heap.size w wr

set_option maxHeartbeats 2000000 in
set_option maxRecDepth 100000 in
theorem good (s : ByteArray) (at_ : Int) (A : Option Addr) (c : Nat) (ss : List (Int × ByteArray)) (w : World) (hS : Secs w w.heap.size A ss) (hz : Sized ss) (hn : smallB ss = true) (hs : s.size ≤ 400) :
    Calls Try.prog 3 #[.string s, .int .i64 at_, .slice A ss.length c] w fun e w' => e = .returned (.bool true) ∧ Below w.heap.size w w' := by
  have hb : Below w.heap.size w w := Below.refl _ _
  have hl10 : ss.length ≤ 10 := by unfold smallB at hn; simp at hn; exact hn.1
  have CL := fun W (h : Secs W w.heap.size A ss) => Lib.hid (small_any c W h hz)
  rw [hn] at CL
  have HZ := Lib.hid hz
  have HS := Lib.hid hS
  obtain ⟨l1, k1, e1, h1⟩ : ∃ l k e, allS s.data.toList = (l, k, e) := ⟨_, _, _, rfl⟩
  have C1 := fun W => Lib.hid (sall_lit s l1 l1.length k1 k1 e1 W (by omega) h1 rfl rfl)
  have C2 := fun W => Lib.hid (rsall_lit s l1 l1.length k1 k1 e1 W (by omega) h1 rfl rfl)
  have z1 : l1.length ≤ 400 := by have := all_count s.data.toList; rw [h1] at this; simp only at this; have hl : s.data.toList.length = s.size := rfl; omega
  obtain ⟨a, p, q, d, h2⟩ : ∃ a p q d, getS s.data.toList at_ = (a, p, q, d) := ⟨_, _, _, _, rfl⟩
  have C3 := fun W => Lib.hid (sget_lit s at_ a p q d W (by unfold maxLen; omega) h2)
  have C4 := fun W => Lib.hid (rsget_lit s at_ a p q d W (by omega) h2)
  have CJ := fun W (h : Secs W W.heap.size A ss) => Lib.hid (sjoin_any c W h hz (by omega))
  have CR := fun W (h : Secs W W.heap.size A ss) => Lib.hid (rsjoin_any c W h hz (by omega))
  generalize joinS (rawS ss) = J at *
  have n1 : decide ((400 : Int) < s.size) = false := by simp; omega
  clear hz hn hS h1 h2
  go_enter Try.func3, Try.ntmps3
  go_wp2_with (first
    | (go_at_call 9; (with_reducible refine (CL _ (HS.out.below hb (Nat.le_refl _))).out.mono ?_); rintro e v2 ⟨rfl, rfl⟩)
    | (go_at_call 11; (with_reducible refine (C3 _).out.mono ?_); rintro e v3 ⟨rfl, hb3⟩; replace hb := Below.step hb hb3; clear hb3)
    | (go_at_call 12; (with_reducible refine (C4 _).out.mono ?_); rintro e v4 ⟨rfl, hb4⟩; replace hb := Below.step hb hb4; clear hb4)
    | (go_at_call 13; with_reducible refine (C1 _).out.mono ?_; rintro e v5 ⟨A1, c1, rfl, hS1, hb5⟩; replace hb := Below.step hb hb5; clear hb5)
    | (go_at_call 14; with_reducible refine (C2 _).out.mono ?_; rintro e v6 ⟨A2, c2, rfl, hS2, hb6⟩; replace hb := Below.step hb hb6; replace hS1 := (hS1.below hb6 (Nat.le_refl _)).more hb6.size; clear hb6))
  go_loopw [21] (fun i wr => TellR w ss.length A1 A2 l1 i wr) (fun i _ => ss.length - (intOf i).toNat)
  case atStart => exact ⟨0, by omega, rfl, hS1, hS2, hb⟩
  case round =>
    obtain ⟨k, hk, rfl, hT1, hT2, hb⟩ := hrel.ex
    clear hS1 hS2 hrel
    by_cases hlt : k < ss.length
    · obtain ⟨b, off, rfl, hbl, hc⟩ := HS.out (by omega)
      obtain ⟨c0, c1⟩ := hc k hlt
      clear hc
      have c0 := (hb.cell (p := ⟨b, off + k * 2, none⟩) hbl).trans c0
      have c1 := (hb.cell (p := ⟨b, off + k * 2 + 1, none⟩) hbl).trans c1
      have g0 := fun d os => cell_regrown c0 d os
      have g1 := fun d os => cell_regrown c1 d os
      have hy := HZ.out _ (List.getElem_mem hlt)
      have hk1 : (k : Int) < ss.length := by omega
      generalize ss[k] = y at *
      have CP := fun W => Lib.hid (sput_any y.1 y.2 W hy)
      have CQ := fun W => Lib.hid (rsput_any y.1 y.2 W hy)
      generalize putS y.1 y.2.data.toList = u at *
      go_wp2_with fail
      refine wp_region_quiet_below (by kernel_rfl) (by kernel_rfl) ?_
      repeat (first
        | go_big_quiet_step ((first | (go_at_call 15; (with_reducible exact Calls.regrown_of (CP _).out)) | (go_at_call 16; (with_reducible exact Calls.regrown_of (CQ _).out))))
        | quiet_step ((first | (go_at_call 15; (with_reducible exact Calls.regrown_of (CP _).out)) | (go_at_call 16; (with_reducible exact Calls.regrown_of (CQ _).out)))))
      refine wpQuiet_nil ?_
      intro W hW
      have hWb := below_of_regrown hW
      clear hW
      go_wp2_with fail
      go_roundw
      case rel => exact ⟨k + 1, by omega, by go_num, (hT1.below hWb (Nat.le_refl _)).more hWb.size, (hT2.below hWb (Nat.le_refl _)).more hWb.size, Below.step hb hWb⟩
      case measure => simp [intOf]; omega
    · obtain rfl : k = ss.length := by omega
      clear hlt
      go_wp2_with (first
        | (go_at_call 10; refine (fixed_true _).mono ?_; rintro e v7 ⟨rfl, hb7⟩; replace hb := Below.step hb hb7; replace hT1 := (hT1.below hb7 (Nat.le_refl _)).more hb7.size; replace hT2 := (hT2.below hb7 (Nat.le_refl _)).more hb7.size; clear hb7)
        | (go_at_call 17; (with_reducible refine (same_lit l1.length l1.length c1 c2 true _ hT1 hT2 (packS_len l1) (packS_len l1) (by omega) (by omega) (decide_eq_true rfl)).mono ?_); rintro e v8 ⟨rfl, hb8⟩; replace hb := Below.step hb hb8; clear hb8)
        | (go_at_call 18; (with_reducible refine (CJ _ ((HS.out.below hb (Nat.le_refl _)).more hb.size)).out.mono ?_); rintro e v9 ⟨rfl, hb9⟩; replace hb := Below.step hb hb9; clear hb9)
        | (go_at_call 19; (with_reducible refine (CR _ ((HS.out.below hb (Nat.le_refl _)).more hb.size)).out.mono ?_); rintro e v10 ⟨rfl, hb10⟩; replace hb := Below.step hb hb10; clear hb10))
      go_ret
      refine ⟨ret_true ?_, hb⟩
      simp

set_option maxHeartbeats 1000000 in
set_option maxRecDepth 100000 in
/-- Outside the bounds the fixed calls alone are asked. -/
theorem other (s : ByteArray) (at_ : Int) (A : Option Addr) (c : Nat) (ss : List (Int × ByteArray)) (w : World) (hS : Secs w w.heap.size A ss) (hz : Sized ss) (hs : s.size ≤ maxLen) (h : 400 < s.size ∨ smallB ss = false) :
    Calls Try.prog 3 #[.string s, .int .i64 at_, .slice A ss.length c] w fun e w' => e = .returned (.bool true) ∧ Below w.heap.size w w' := by
  have hb : Below w.heap.size w w := Below.refl _ _
  have CL := fun W (h : Secs W w.heap.size A ss) => Lib.hid (small_any c W h hz)
  have HS := Lib.hid hS
  have hc : (400 : Int) < s.size ∨ (s.size ≤ 400 ∧ smallB ss = false) := by
    by_cases h4 : 400 < s.size
    · exact .inl (by omega)
    · exact .inr ⟨by omega, by cases h with | inl h => exact absurd h h4 | inr h => exact h⟩
  unfold maxLen at hs
  clear hz hS h
  rcases hc with h | ⟨h, h'⟩
  · go_enter Try.func3, Try.ntmps3
    go_wp2_with (go_at_call 10; refine (fixed_true _).mono ?_; rintro e v1 ⟨rfl, hb1⟩; replace hb := Below.step hb hb1; clear hb1)
    go_ret
    exact ⟨rfl, hb⟩
  · rw [h'] at CL
    have n1 : decide ((400 : Int) < s.size) = false := by simp; omega
    go_enter Try.func3, Try.ntmps3
    go_wp2_with (first
      | (go_at_call 10; refine (fixed_true _).mono ?_; rintro e v1 ⟨rfl, hb1⟩; replace hb := Below.step hb hb1; clear hb1)
      | (go_at_call 9; (with_reducible refine (CL _ (HS.out.below hb (Nat.le_refl _))).out.mono ?_); rintro e v2 ⟨rfl, rfl⟩))
    go_ret
    exact ⟨rfl, hb⟩

theorem entry {H : Type} {enc : TypeId × Value → H} (W : World) (base : Nat) (v0 v1 v2 : Value) (d0 d1 d2 : DataW H) (p0 p1 p2 : List MemPlace)
    (k0 : Value.okWide Try.prog W .any base 9 v0) (k1 : Value.okWide Try.prog W .any base 3 v1) (k2 : Value.okWide Try.prog W .any base 22 v2)
    (h0 : DataW.Trod enc Try.prog W 0 (fun _ => true) true 9 v0 d0 p0) (h1 : DataW.Trod enc Try.prog W 0 (fun _ => true) true 3 v1 d1 p1) (h2 : DataW.Trod enc Try.prog W 0 (fun _ => true) true 22 v2 d2 p2) :
    Calls Try.prog 3 #[v0, v1, v2] W fun e w' => e = .returned (.bool true) ∧ Below W.heap.size W w' := by
  obtain ⟨s, rfl, _, _, hs⟩ := Go.ChangeMaps.open_string Try.underlying9 k0 h0
  obtain ⟨a, rfl, _, _, _⟩ := open_int Try.underlying3 k1 h1
  obtain ⟨A, c, ss, rfl, hS, hz, _, _⟩ := open_secs k2 h2
  by_cases h : 400 < s.size ∨ smallB ss = false
  · exact other s a A c ss W hS hz hs h
  · exact good s a A c ss W hS hz (by cases hb : smallB ss with | true => rfl | false => exact absurd (.inr hb) h) (by omega)
end Go.Proofs.Yteikmkbaokfgeaa.sectTells
