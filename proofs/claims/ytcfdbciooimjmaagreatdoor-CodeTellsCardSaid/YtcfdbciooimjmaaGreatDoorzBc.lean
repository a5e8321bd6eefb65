/- Layer 7's code: the closure that writes numbers. -/
import Derived.Test.YtcfdbciooimjmaaGreatDoorzBw
import Derived.Test.YtcfdbciooimjmaaGreatDoorzGg
import Derived.Test.YtcfdbciooimjmaaGreatDoorzGa
import Derived.Test.YtcfdbciooimjmaaGreatDoorzGb
import Derived.Test.YtcfdbciooimjmaaGreatDoorzPr3
import Derived.Test.YtcfdbciooimjmaaGreatDoorzGc
import Derived.BigQuiet
namespace Go.Proofs.YtcfdbciooimjmaaGreatDoor
set_option linter.unusedVariables false
set_option linter.unusedSimpArgs false
open Go.RowKit Go.ChangeShapes Go.WideShapes Go.ChangeAt Go.Sort

set_option maxHeartbeats 1000000 in
set_option maxRecDepth 100000 in
theorem into_any (b g : Nat) (w : World) :
    Calls Tryz.prog 38 #[.pointer (some ⟨b, 0, none⟩), fnv g] w fun e w' =>
      e = .returned (.func (.func 69) #[] #[.pointer (some ⟨w.heap.size, 0, none⟩), .pointer (some ⟨w.heap.size + 1, 0, none⟩)]) ∧
      w' = (w.alloc (.cells #[.pointer (some ⟨b, 0, none⟩)] 65)).alloc (.cells #[fnv g] 71) := by
  go_enter Tryz.func38, Tryz.ntmps38
  go_wp2_with fail
  go_ret
  exact ⟨rfl, rfl⟩

/-- What into makes: two blocks, and a closure over both. -/
theorem into_any2 (b g : Nat) (w : World) :
    Calls Tryz.prog 38 #[.pointer (some ⟨b, 0, none⟩), fnv g] w fun e w' => ∃ k0 k1,
      e = .returned (.func (.func 69) #[] #[.pointer (some ⟨k0, 0, none⟩), .pointer (some ⟨k1, 0, none⟩)]) ∧
      Held w' k0 65 #[.pointer (some ⟨b, 0, none⟩)] ∧ Held w' k1 71 #[fnv g] ∧ Below w.heap.size w w' :=
  (into_any b g w).mono fun e w' ⟨he, hw⟩ => by
    subst hw
    exact ⟨_, _, he, (Held.new _ _ _).alloc _, Held.new1 _ _ _ _, below2 _ _ _⟩

theorem itoa_dgI {n : Int} (h0 : 0 ≤ n) : Lib.itoa n = dgI n := by unfold Lib.itoa; rw [if_neg (by omega)]; rfl
theorem citoa_in {n : Int} (h0 : 0 ≤ n) (h1 : n ≤ 9223372036854775807) (W : World) (hT : TT W) : Calls Tryz.prog 40 #[.int .i64 n] W fun e w' => e = .returned (.string ⟨(dgI n).toArray⟩) ∧ Below W.heap.size W w' := by
  refine (Tryz.strconv_Itoa n (by omega) h1 W hT.pow).mono fun e w' ⟨he, k, os, hw⟩ => ⟨?_, ?_⟩
  · rw [he, itoa_dgI h0]
  · rw [hw]; exact below_regrown W (W.drawn + k) os

/-- A number as Text writes it. -/
def blankN (n : Int) : List UInt8 := 32 :: dgI n
set_option maxHeartbeats 1000000 in
set_option maxRecDepth 100000 in
theorem cblank_in {n : Int} (h0 : 0 ≤ n) (h1 : n < 1000) (w : World) (hT : TT w) : Calls Tryz.prog 39 #[.int .i64 n] w fun e w' => e = .returned (.string ⟨(blankN n).toArray⟩) ∧ Below w.heap.size w w' := by
  have C := Lib.hid (citoa_in h0 (by omega) w hT)
  have hl := dgI_len h0 h1
  have hb : blankN n = 32 :: dgI n := rfl
  generalize dgI n = l at *
  have HB := Lib.hid hb
  clear hb h0 h1
  go_enter Tryz.func39, Tryz.ntmps39
  go_wp2_with (go_at_call 40; (with_reducible refine C.out.mono ?_); rintro e v ⟨rfl, hb⟩)
  go_ret
  refine ⟨ret_str ?_, hb⟩
  rw [HB.out]
  apply ByteArray.ext
  simp
theorem cput_in {n : Int} (h0 : 0 ≤ n) (h1 : n ≤ 281474976710655) (w : World) : Calls Tryz.prog 48 #[.int .i64 n] w fun e w' => e = .returned (.string ⟨(putF n).toArray⟩) ∧ Below w.heap.size w w' := by
  obtain ⟨m, rfl⟩ := Int.eq_ofNat_of_zero_le h0
  rw [putF_in h0 h1]
  exact put_any m w (by omega)

/-- A slice of ints, in a block of ints. -/
def IntsAt (w : World) (A : Option Addr) (ns : List Int) : Prop := 0 < ns.length → ∃ s cs, A = some ⟨s, 0, none⟩ ∧ Held w s 3 cs ∧ ∀ j (h : j < ns.length), cs[j]? = some (.int .i64 ns[j])
theorem IntsAt.keep {w w' : World} {A : Option Addr} {ns : List Int} (h : IntsAt w A ns) (k : KeepT w w') : IntsAt w' A ns := fun h0 => by
  obtain ⟨s, cs, e, hh, hc⟩ := h h0
  exact ⟨s, cs, e, k.held hh (by decide) (by decide), hc⟩

set_option maxHeartbeats 2000000 in
set_option maxRecDepth 100000 in
/-- The closure writes numbers, each as 'one' tells it. -/
theorem spill_any {g : Nat} {G : Int → List UInt8} {ns : List Int} (w0 : World) (hT0 : TT w0)
    (hone : ∀ n ∈ ns, ∀ W, TT W → Calls Tryz.prog g #[.int .i64 n] W fun e w' => e = .returned (.string ⟨(G n).toArray⟩) ∧ Below W.heap.size W w')
    (hlen : ∀ n ∈ ns, (G n).length ≤ 16) (hns : ns.length ≤ 10) (hg : ∀ args w, (callFunc g args).run Tryz.prog w = .ok (.enter g args) w)
    {b : Nat} {acc : List UInt8} (hacc : acc.length ≤ 1000000) {A : Option Addr} {c k0 k1 : Nat} (w : World) (hw : Below w0.heap.size w0 w) (hB : Bd w w0.heap.size b acc)
    (h0 : Held w k0 65 #[.pointer (some ⟨b, 0, none⟩)]) (h1 : Held w k1 71 #[fnv g]) (hA : IntsAt w A ns) :
    Calls Tryz.prog 69 #[.slice A ns.length c, .pointer (some ⟨k0, 0, none⟩), .pointer (some ⟨k1, 0, none⟩)] w fun e w' => e = .returned (.tuple #[]) ∧ Bd w' w0.heap.size b (acc ++ ns.flatMap G) ∧ KeepT w w' ∧ Below w0.heap.size w0 w' := by
  have HO := Lib.hid hone
  have HL := Lib.hid hlen
  have HA := Lib.hid hA
  have H0 := Lib.hid h0
  have H1 := Lib.hid h1
  have hflat : ∀ j, j ≤ ns.length → ((ns.take j).flatMap G).length ≤ 16 * j := by
    intro j
    induction j with
    | zero => simp
    | succ j ih =>
      intro hj
      rw [List.take_succ_eq_append_getElem (by omega), List.flatMap_append, List.length_append]
      have := ih (by omega)
      have := hlen _ (List.getElem_mem (l := ns) (n := j) (by omega))
      rw [show [ns[j]].flatMap G = G ns[j] by simp]
      omega
  have HFL := Lib.hid hflat
  clear hone hlen hA h0 h1 hflat
  go_enter Tryz.func69, Tryz.ntmps69
  go_wp2
  go_loopw [8] (fun i W => ∃ j : Nat, j ≤ ns.length ∧ i = .int .i64 j ∧ Bd W w0.heap.size b (acc ++ (ns.take j).flatMap G) ∧ KeepT w W ∧ Below w0.heap.size w0 W) (fun i _ => ns.length - (intOf i).toNat)
  case atStart => exact ⟨0, by omega, rfl, by simpa using hB, KeepT.refl _, hw⟩
  case round =>
    obtain ⟨j, hj, rfl, hBj, hk, hwj⟩ := hrel
    clear hB hw
    by_cases hlt : j < ns.length
    · obtain ⟨s, cs, rfl, hs, hc⟩ := (HA.out.keep hk) (by omega)
      have hcj := (hs.cell j).trans (hc j hlt)
      have hsl := hs.lt
      clear hc
      have k0l := (hk.held H0.out (by decide) (by decide)).lt
      have k1l := (hk.held H1.out (by decide) (by decide)).lt
      have k0c := (hk.held H0.out (by decide) (by decide)).cell 0
      have k1c := (hk.held H1.out (by decide) (by decide)).cell 0
      simp at k0c k1c
      have hst : (ns.take (j + 1)).flatMap G = (ns.take j).flatMap G ++ G ns[j] := by
        rw [List.take_succ_eq_append_getElem hlt, List.flatMap_append]
        simp
      have hfl := HFL.out j (by omega)
      have hone := HO.out _ (List.getElem_mem hlt)
      have hln := HL.out _ (List.getElem_mem hlt)
      generalize ns[j] = n at *
      have HST := Lib.hid hst
      have hT := hT0.below hwj
      have C := fun W h => Lib.hid (hone W h)
      clear hst hone hs
      generalize hGn : G n = q at *
      generalize (ns.take j).flatMap G = acc2 at *
      have hqs : (⟨q.toArray⟩ : ByteArray).size = q.length := by show q.toArray.size = _; simp
      have HBj := Lib.hid hBj
      have hwjz := hwj.size
      clear hBj
      go_upto_region 3 with (fail)
      have hal : acc.length + acc2.length + q.length ≤ 140737488355328 := by omega
      go_region_with (first
        | (go_at_fn g; (with_reducible refine (C _ (hT.below (Below.refl _ _).drew)).out.mono ?_); rintro e w1 ⟨rfl, hb1⟩; replace hb1 := below_drewn hb1; have k0d := (hb1.cell (p := ⟨k0, 0, none⟩) k0l).trans k0c; have hz1 := hb1.size)
        | (go_at_call 41; refine (writeStringK _ (HBj.out.below hb1) (by rw [hqs, List.length_append]; exact hal) (Nat.le_trans hwjz hz1)).mono ?_; rintro e w2 ⟨rfl, hB2, hb2, hk2⟩; clear k0d))
      all_goals
        have hwn := (hwj.trans (hb1.mono hwjz)).trans hb2
        have hkn := (hk.trans (KeepT.of_below hb1)).trans hk2
        clear hb1 hb2 hk2 hz1
        go_wp2_with fail
        go_roundw
        case rel => exact ⟨j + 1, by omega, by go_num, by rw [HST.out, ← List.append_assoc]; exact hB2, hkn, hwn⟩
        case measure => simp [intOf]; omega
    · obtain rfl : j = ns.length := by omega
      rw [List.take_length] at hBj
      go_wp2_with fail
      go_end0
      exact ⟨rfl, hBj, hk, hwj⟩

theorem writeNL {B b : Nat} {l : List UInt8} {w : World} (h : Bd w B b l) (hlen : l.length + 1 ≤ 140737488355328) (hBw : B ≤ w.heap.size) :
    Calls Tryz.prog 42 #[.pointer (some ⟨b, 0, none⟩), .int .u8 10] w fun e w' => e = .returned .nilIface ∧ Bd w' B b (l ++ [10]) ∧ Below B w w' ∧ KeepT w w' :=
  writeByteK (10 : UInt8) h hlen hBw
theorem strb_size (q : List UInt8) : (⟨q.toArray⟩ : ByteArray).size = q.length := by show q.toArray.size = _; simp
end Go.Proofs.YtcfdbciooimjmaaGreatDoor

