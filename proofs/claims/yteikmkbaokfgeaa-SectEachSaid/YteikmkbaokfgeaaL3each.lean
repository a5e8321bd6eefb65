/- Layer 3: SectEach: sections are joined as each is put; a section's bytes are six and its payload more, or as many more as its length takes; another tag is another section. For every list of sections and every section. -/
import Derived.Test.YteikmkbaokfgeaaSfix
import Derived.Test.YteikmkbaokfgeaaSm2
import Derived.Test.YteikmkbaokfgeaaSopen
import Derived.BigQuiet
import Derived.Lib.QuietBelow
import Derived.Laws.BitsAllLaws
namespace Go.Proofs.Yteikmkbaokfgeaa.sectEach
set_option linter.unusedVariables false
set_option linter.unusedSimpArgs false
open Go.ChangeShapes Go.WideShapes Go.ChangeAt Go.RowKit Cm Go.Sort

theorem putG_one {n : Nat} (h : n < 128) : (putG 7 n).length = 1 := by rw [putG, if_pos h]; rfl
theorem putG_two {n : Nat} (h : 128 ≤ n) (h2 : n < 16384) : (putG 7 n).length = 2 := by
  rw [putG, if_neg (by omega), putG, if_pos (by omega)]; rfl
theorem size_of {t : Int} {p : List UInt8} (h0 : 0 ≤ t) (h1 : t ≤ 255) (hp : p.length ≤ 300) : (putS t p).length = p.length + 6 + (if 127 < p.length then 1 else 0) := by
  rw [putS_length h0 h1 (by omega), putTextF_eq (by omega), List.length_append]
  split
  · rw [putG_two (by omega) (by omega)]; omega
  · rw [putG_one (by omega)]; omega
theorem and255 (x : Int) (h0 : 0 ≤ x) (h1 : x < 9223372036854775808) : bits .and .i64 x 255 = x % 256 :=
  bits_mask .i64 63 (by decide) (fun n h0 h1 => by
    simp only [IntKind.wrap, IntKind.bits, IntKind.signed]
    simp at h1 ⊢
    omega) 8 (by decide) x h0 h1
theorem other_tag {t u : Int} {p : List UInt8} (h0 : 0 ≤ t) (h1 : t ≤ 255) (hu : u = (t + 1) % 256) (hp : p.length ≤ 300) : putS t p ≠ putS u p := by
  rw [putS_eq h0 h1 (by omega), putS_eq (by omega) (by omega) (by omega)]
  intro h
  injection h with h _
  have e1 := tagB_val h0 h1
  have e2 := tagB_val (t := u) (by omega) (by omega)
  rw [h] at e1
  omega

theorem ret_true {b : Bool} (h : b = true) : Ending.returned (.bool b) = .returned (.bool true) := by rw [h]
/-- What is joined so far. -/
def EachR (w : World) (ss : List (Int × ByteArray)) (g : Nat) (x : Int × ByteArray) (s i : Value) (wr : World) : Prop :=
  ∃ k : Nat, k ≤ ss.length ∧ i = .int .i64 k ∧ s = .string ⟨(joinS (rawS (ss.take k))).toArray⟩ ∧ Held wr g 32 #[.int .i64 x.1, .string x.2] ∧ Below w.heap.size w wr

set_option maxHeartbeats 1000000 in
set_option maxRecDepth 100000 in
theorem good (A : Option Addr) (c : Nat) (ss : List (Int × ByteArray)) (x : Int × ByteArray) (w : World) (hS : Secs w w.heap.size A ss) (hz : Sized ss) (hn : smallB ss = true) (hx : x.2.size ≤ 300) :
    Calls Try.prog 8 #[.slice A ss.length c, .agg #[.int .i64 x.1, .string x.2]] w fun e w' => e = .returned (.bool true) ∧ Below w.heap.size w w' := by
  have hb : Below w.heap.size w w := Below.refl _ _
  have hxm : x.2.size ≤ maxLen := by unfold maxLen; omega
  have hl10 : ss.length ≤ 10 := by
    unfold smallB at hn; simp at hn; exact hn.1
  have CS := fun W => Lib.hid (small_one x W hxm)
  rw [show decide (x.2.size ≤ 300) = true by simpa using hx] at CS
  have CL := fun W (h : Secs W w.heap.size A ss) => Lib.hid (small_any c W h hz)
  rw [hn] at CL
  have HZ := Lib.hid hz
  have HS := Lib.hid hS
  clear hz hn
  go_enter Try.func8, Try.ntmps8
  go_wp2_with (first
    | (go_at_call 10; refine (fixed_true _).mono ?_; rintro e v1 ⟨rfl, hb1⟩; have hh := (Held.new w 32 #[.int .i64 x.1, .string x.2]).below hb1; have c0 := hh.cell 0; have c1 := hh.cell 1; have hlt := hh.lt; simp at c0 c1; replace hb := below_laid hb1; clear hb1)
    | (go_at_call 9; (with_reducible refine (CL _ (HS.out.below hb (Nat.le_refl _))).out.mono ?_); rintro e v2 ⟨rfl, rfl⟩)
    | (go_at_call 9; (with_reducible refine (CS _).out.mono ?_); rintro e v2 ⟨rfl, rfl⟩))
  have hb2 : Below w.heap.size w (v1.alloc (.cells #[.int .i64 x.1, .string x.2] 32)) := hb.alloc hb.size _
  have hh2 := hh.alloc (.cells #[.int .i64 x.1, .string x.2] 32)
  generalize v1.alloc (.cells #[.int .i64 x.1, .string x.2] 32) = v2 at *
  clear c0 c1 hlt hh hb
  go_loopw [5, 6] (fun s i wr => EachR w ss w.heap.size x s i wr) (fun _ i _ => ss.length - (intOf i).toNat)
  case atStart => exact ⟨0, by omega, rfl, rfl, hh2, hb2⟩
  case round =>
    obtain ⟨k, hk, rfl, rfl, hh, hb⟩ := hrel
    clear hh2 hb2
    by_cases hlt : k < ss.length
    · obtain ⟨b, off, rfl, hbl, hc⟩ := HS.out (by omega)
      obtain ⟨c0, c1⟩ := hc k hlt
      clear hc
      have c0 := (hb.cell (p := ⟨b, off + k * 2, none⟩) hbl).trans c0
      have c1 := (hb.cell (p := ⟨b, off + k * 2 + 1, none⟩) hbl).trans c1
      have g0 := fun d os => cell_regrown c0 d os
      have g1 := fun d os => cell_regrown c1 d os
      have hy := HZ.out _ (List.getElem_mem hlt)
      have hs := raw_snoc ss k hlt
      have hlen := joinS_len (rawS (ss.take k))
      have hlr : (rawS (ss.take k)).length = k := by simp [rawS]; omega
      rw [hlr] at hlen
      have hk1 : (k : Int) < ss.length := by omega
      generalize ss[k] = y at *
      have hput := putS_len y.1 y.2.data.toList
      have CP := fun W => Lib.hid (sput_any y.1 y.2 W hy)
      have HF := Lib.hid hs; clear hs hlr
      generalize putS y.1 y.2.data.toList = q at *
      generalize joinS (rawS (ss.take k)) = acc at *
      have hqs : (⟨q.toArray⟩ : ByteArray).size = q.length := by show q.toArray.size = _; simp
      have hgs : acc.length + q.length ≤ 9223372036854775807 := by omega
      go_wp2_with fail
      refine wp_region_quiet_below (by kernel_rfl) (by kernel_rfl) ?_
      repeat (first
        | go_big_quiet_step ((go_at_call 15; (with_reducible exact Calls.regrown_of (CP _).out)))
        | quiet_step ((go_at_call 15; (with_reducible exact Calls.regrown_of (CP _).out))))
      refine wpQuiet_nil ?_
      intro W hW
      have hWb := below_of_regrown hW
      clear hW
      go_wp2_with fail
      go_roundw
      case rel => exact ⟨k + 1, by omega, by go_num, by rw [HF.out]; exact congrArg Value.string (bytes_app _ _), hh.below hWb, Below.step hb hWb⟩
      case measure => simp [intOf]; omega
    · obtain rfl : k = ss.length := by omega
      rw [List.take_length]
      have CJ := fun W (h : Secs W W.heap.size A ss) => Lib.hid (sjoin_any c W h HZ.out (by omega))
      have hlen := joinS_len (rawS ss)
      have c0 := hh.cell 0
      have c1 := hh.cell 1
      have hlt2 := hh.lt
      simp at c0 c1
      have hxl : x.2.data.toList.length = x.2.size := rfl
      generalize joinS (rawS ss) = J at *
      have CP := fun W => Lib.hid (sput_any x.1 x.2 W hxm)
      obtain ⟨u, hu⟩ : ∃ u, u = bits .and .i64 (wrap64 (x.1 + 1)) 255 := ⟨_, rfl⟩
      have CQ := fun W => Lib.hid (sput_any u x.2 W hxm)
      by_cases hv : 0 ≤ x.1 ∧ x.1 ≤ 255
      · obtain ⟨v0, v1'⟩ := hv
        have hin : IntKind.i64.wrap (x.1 + 1) = x.1 + 1 := IntWalk.i64_in _ (by omega)
        have hin2 : wrap64 (x.1 + 1) = x.1 + 1 := by simp [wrap64]; omega
        rw [hin2] at hu
        clear hin2
        have hue : u = (x.1 + 1) % 256 := by rw [hu, and255 _ (by omega) (by omega)]
        have hp := size_of (p := x.2.data.toList) v0 v1' (by omega)
        have hq := size_of (t := u) (p := x.2.data.toList) (by omega) (by omega) (by omega)
        have hpq := other_tag (p := x.2.data.toList) v0 v1' hue (by omega)
        rw [hxl] at hp hq
        generalize putS x.1 x.2.data.toList = P at *
        generalize putS u x.2.data.toList = Q at *
        have hps : (⟨P.toArray⟩ : ByteArray).size = P.length := by show P.toArray.size = _; simp
        have hqs : (⟨Q.toArray⟩ : ByteArray).size = Q.length := by show Q.toArray.size = _; simp
        clear hS CS CL
        replace hu := hu.symm
        clear hue
        have hne : ¬ P = [] := by rintro rfl; simp at hp; omega
        by_cases h7 : 127 < x.2.size
        · rw [if_pos h7] at hp hq
          have h7' : (127 : Int) < x.2.size := by omega
          go_wp2_with (first
            | (go_at_call 15; (with_reducible refine (CP _).out.mono ?_); rintro e w3 ⟨rfl, hb3⟩; have hh3 := hh.below hb3; have hb3w := Below.step hb hb3; have c0 := hh3.cell 0; have c1 := hh3.cell 1; have hlt3 := hh3.lt; simp at c0 c1)
            | (go_at_call 15; (with_reducible refine (CQ _).out.mono ?_); rintro e w4 ⟨rfl, hb4⟩; replace hb3w := Below.step hb3w hb4)
            | (go_at_call 18; (with_reducible refine (CJ _ ((HS.out.below hb3w (Nat.le_refl _)).more hb3w.size)).out.mono ?_); rintro e w5 ⟨rfl, hb5⟩))
          go_ret
          refine ⟨ret_true ?_, Below.step hb3w hb5⟩
          simp [hne, hpq]
        · rw [if_neg h7] at hp hq
          have h7' : ¬ (127 : Int) < x.2.size := by omega
          go_wp2_with (first
            | (go_at_call 15; (with_reducible refine (CP _).out.mono ?_); rintro e w3 ⟨rfl, hb3⟩; have hh3 := hh.below hb3; have hb3w := Below.step hb hb3; have c0 := hh3.cell 0; have c1 := hh3.cell 1; have hlt3 := hh3.lt; simp at c0 c1)
            | (go_at_call 15; (with_reducible refine (CQ _).out.mono ?_); rintro e w4 ⟨rfl, hb4⟩; replace hb3w := Below.step hb3w hb4)
            | (go_at_call 18; (with_reducible refine (CJ _ ((HS.out.below hb3w (Nat.le_refl _)).more hb3w.size)).out.mono ?_); rintro e w5 ⟨rfl, hb5⟩))
          go_ret
          refine ⟨ret_true ?_, Below.step hb3w hb5⟩
          simp [hne, hpq]
      · have hP : putS x.1 x.2.data.toList = [] := by rw [putS, if_pos (by omega)]
        rw [hP] at CP
        replace hu := hu.symm
        generalize putS u x.2.data.toList = Q at *
        clear hS CS CL hP
        have hv2 : x.1 < 0 ∨ (0 ≤ x.1 ∧ 255 < x.1) := by omega
        clear hv
        by_cases h7 : 127 < x.2.size
        · have h7' : (127 : Int) < x.2.size := by omega
          rcases hv2 with h | ⟨h, h'⟩
          all_goals
            go_wp2_with (first
              | (go_at_call 15; (with_reducible refine (CP _).out.mono ?_); rintro e w3 ⟨rfl, hb3⟩; have hh3 := hh.below hb3; have hb3w := Below.step hb hb3; have c0 := hh3.cell 0; have c1 := hh3.cell 1; have hlt3 := hh3.lt; simp at c0 c1)
              | (go_at_call 15; (with_reducible refine (CQ _).out.mono ?_); rintro e w4 ⟨rfl, hb4⟩; replace hb3w := Below.step hb3w hb4)
              | (go_at_call 18; (with_reducible refine (CJ _ ((HS.out.below hb3w (Nat.le_refl _)).more hb3w.size)).out.mono ?_); rintro e w5 ⟨rfl, hb5⟩))
            go_ret
            refine ⟨ret_true ?_, Below.step hb3w hb5⟩
            simp
        · have h7' : ¬ (127 : Int) < x.2.size := by omega
          rcases hv2 with h | ⟨h, h'⟩
          all_goals
            go_wp2_with (first
              | (go_at_call 15; (with_reducible refine (CP _).out.mono ?_); rintro e w3 ⟨rfl, hb3⟩; have hh3 := hh.below hb3; have hb3w := Below.step hb hb3; have c0 := hh3.cell 0; have c1 := hh3.cell 1; have hlt3 := hh3.lt; simp at c0 c1)
              | (go_at_call 15; (with_reducible refine (CQ _).out.mono ?_); rintro e w4 ⟨rfl, hb4⟩; replace hb3w := Below.step hb3w hb4)
              | (go_at_call 18; (with_reducible refine (CJ _ ((HS.out.below hb3w (Nat.le_refl _)).more hb3w.size)).out.mono ?_); rintro e w5 ⟨rfl, hb5⟩))
            go_ret
            refine ⟨ret_true ?_, Below.step hb3w hb5⟩
            simp

set_option maxHeartbeats 1000000 in
set_option maxRecDepth 100000 in
/-- Outside the bounds the fixed calls alone are asked. -/
theorem other (A : Option Addr) (c : Nat) (ss : List (Int × ByteArray)) (x : Int × ByteArray) (w : World) (hS : Secs w w.heap.size A ss) (hz : Sized ss) (hxm : x.2.size ≤ maxLen) (h : smallB ss = false ∨ 300 < x.2.size) :
    Calls Try.prog 8 #[.slice A ss.length c, .agg #[.int .i64 x.1, .string x.2]] w fun e w' => e = .returned (.bool true) ∧ Below w.heap.size w w' := by
  have hb : Below w.heap.size w w := Below.refl _ _
  have CS := fun W => Lib.hid (small_one x W hxm)
  have CL := fun W (h : Secs W w.heap.size A ss) => Lib.hid (small_any c W h hz)
  have HS := Lib.hid hS
  have hc : smallB ss = false ∨ (smallB ss = true ∧ decide (x.2.size ≤ 300) = false) := by
    cases hs : smallB ss with
    | false => exact .inl rfl
    | true => rw [hs] at h; refine .inr ⟨rfl, ?_⟩; simp at h ⊢; omega
  clear hz hS h
  rcases hc with h | ⟨h, h'⟩
  · rw [h] at CL
    go_enter Try.func8, Try.ntmps8
    go_wp2_with (first
      | (go_at_call 10; (with_reducible refine (fixed_true (w.alloc (.cells #[.int .i64 x.1, .string x.2] 32))).mono ?_); rintro e v1 ⟨rfl, hb1⟩; have hh := (Held.new w 32 #[.int .i64 x.1, .string x.2]).below hb1; have c0 := hh.cell 0; have c1 := hh.cell 1; have hlt := hh.lt; simp at c0 c1; replace hb := below_laid hb1; clear hb1)
      | (go_at_call 9; (with_reducible refine (CL _ (HS.out.below hb (Nat.le_refl _))).out.mono ?_); rintro e v2 ⟨rfl, rfl⟩)
      | (go_at_call 10; refine (fixed_true _).mono ?_; rintro e v3 ⟨rfl, hb3⟩; replace hb := Below.step hb hb3; clear hb3))
    go_ret
    exact ⟨rfl, hb⟩
  · rw [h] at CL
    rw [h'] at CS
    go_enter Try.func8, Try.ntmps8
    go_wp2_with (first
      | (go_at_call 10; (with_reducible refine (fixed_true (w.alloc (.cells #[.int .i64 x.1, .string x.2] 32))).mono ?_); rintro e v1 ⟨rfl, hb1⟩; have hh := (Held.new w 32 #[.int .i64 x.1, .string x.2]).below hb1; have c0 := hh.cell 0; have c1 := hh.cell 1; have hlt := hh.lt; simp at c0 c1; replace hb := below_laid hb1; clear hb1)
      | (go_at_call 9; (with_reducible refine (CL _ (HS.out.below hb (Nat.le_refl _))).out.mono ?_); rintro e v2 ⟨rfl, rfl⟩)
      | (go_at_call 9; (with_reducible refine (CS _).out.mono ?_); rintro e v2 ⟨rfl, rfl⟩)
      | (go_at_call 10; refine (fixed_true _).mono ?_; rintro e v3 ⟨rfl, hb3⟩; replace hb := Below.step hb (below_laid hb3); clear hb3))
    go_ret
    exact ⟨rfl, hb⟩

theorem entry {H : Type} {enc : TypeId × Value → H} (W : World) (base : Nat) (v0 v1 : Value) (d0 d1 : DataW H) (p0 p1 : List MemPlace)
    (k0 : Value.okWide Try.prog W .any base 22 v0) (k1 : Value.okWide Try.prog W .any base 32 v1)
    (h0 : DataW.Trod enc Try.prog W 0 (fun _ => true) true 22 v0 d0 p0) (h1 : DataW.Trod enc Try.prog W 0 (fun _ => true) true 32 v1 d1 p1) :
    Calls Try.prog 8 #[v0, v1] W fun e w' => e = .returned (.bool true) ∧ Below W.heap.size W w' := by
  obtain ⟨A, c, ss, rfl, hS, hz, _, _⟩ := open_secs k0 h0
  obtain ⟨t, s, rfl, _, hs⟩ := open_sec k1 h1
  by_cases h : smallB ss = false ∨ 300 < s.size
  · exact other A c ss (t, s) W hS hz hs h
  · exact good A c ss (t, s) W hS hz (by cases hb : smallB ss with | true => rfl | false => exact absurd (.inl hb) h) (by show s.size ≤ 300; omega)
end Go.Proofs.Yteikmkbaokfgeaa.sectEach
