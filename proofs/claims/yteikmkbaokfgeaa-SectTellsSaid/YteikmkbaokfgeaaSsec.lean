/- Layer 3: lists of sections in memory; the document's Small and Same. -/
import Derived.Test.YteikmkbaokfgeaaRows
import Derived.Test.YteikmkbaokfgeaaSm
import Derived.WalkKit
import Derived.ProofKit
import Derived.OpenShut
import Derived.Lib.Hide
import Derived.WalkMore
import Derived.Handy
import Derived.BigQuiet
import Derived.Deep.QuietTactic
import Derived.RegionTactic
namespace Go.Proofs.Yteikmkbaokfgeaa
set_option linter.unusedVariables false
set_option linter.unusedSimpArgs false
open Go.RowKit Go.ChangeShapes Go.WideShapes Go.ChangeAt

/-- The slice at A holds the sections ss, below block B. -/
def Secs (w : World) (B : Nat) (A : Option Addr) (ss : List (Int × ByteArray)) : Prop :=
  0 < ss.length → ∃ b off, A = some ⟨b, off, none⟩ ∧ b < B ∧ ∀ j (h : j < ss.length), w.cell? ⟨b, off + j * 2, none⟩ = some (.int .i64 ss[j].1) ∧ w.cell? ⟨b, off + j * 2 + 1, none⟩ = some (.string ss[j].2)
theorem Secs.below {w w' : World} {B : Nat} {A : Option Addr} {ss : List (Int × ByteArray)} (h : Secs w B A ss) {C : Nat} (hb : Below C w w') (hC : B ≤ C) : Secs w' B A ss := fun h0 => by
  obtain ⟨b, off, e, hlt, hc⟩ := h h0
  refine ⟨b, off, e, hlt, fun j hj => ⟨?_, ?_⟩⟩
  · exact (hb.cell (p := ⟨b, off + j * 2, none⟩) (by show b < C; omega)).trans (hc j hj).1
  · exact (hb.cell (p := ⟨b, off + j * 2 + 1, none⟩) (by show b < C; omega)).trans (hc j hj).2
theorem Secs.nil (w : World) (B : Nat) (A : Option Addr) : Secs w B A [] := fun h => absurd h (by simp)
theorem Secs.more {w : World} {B C : Nat} {A : Option Addr} {ss : List (Int × ByteArray)} (h : Secs w B A ss) (hC : B ≤ C) : Secs w C A ss := fun h0 => by
  obtain ⟨b, off, e, hlt, hc⟩ := h h0
  exact ⟨b, off, e, by omega, hc⟩

def smallB (ss : List (Int × ByteArray)) : Bool := decide (ss.length ≤ 10) && ss.all fun x => decide (x.2.size ≤ 300)
/-- What a walk may know of each section's text. -/
def Sized (ss : List (Int × ByteArray)) : Prop := ∀ x ∈ ss, x.2.size ≤ maxLen

set_option maxHeartbeats 1000000 in
set_option maxRecDepth 100000 in
theorem small_any {B : Nat} {A : Option Addr} {ss : List (Int × ByteArray)} (c : Nat) (w : World) (h : Secs w B A ss) (hz : Sized ss) :
    Calls Try.prog 9 #[.slice A ss.length c] w fun e w' => e = .returned (.bool (smallB ss)) ∧ w = w' := by
  have HA := Lib.hid h; clear h
  have HZ := Lib.hid hz; clear hz
  by_cases hl : ss.length ≤ 10
  · have hl2 : (ss.length : Int) ≤ 10 := by omega
    have hfin : smallB ss = ss.all fun x => decide (x.2.size ≤ 300) := by simp [smallB, hl]
    have HF := Lib.hid hfin; clear hfin
    go_enter Try.func9, Try.ntmps9
    go_wp2
    go_loop [3] (fun i => ∃ k : Nat, k ≤ ss.length ∧ i = .int .i64 k ∧ ∀ x ∈ ss.take k, x.2.size ≤ 300) (fun i => ss.length - (intOf i).toNat)
    case atStart => exact ⟨0, by omega, rfl, by simp⟩
    case round =>
      obtain ⟨k, hk, rfl, h300⟩ := hrel
      have H3 := Lib.hid h300; clear h300
      by_cases hlt : k < ss.length
      · obtain ⟨b, off, rfl, hbl, hc⟩ := HA.out (by omega)
        obtain ⟨c0, c1⟩ := hc k hlt
        clear hc
        have hx := HZ.out _ (List.getElem_mem hlt)
        have HM := Lib.hid (List.getElem_mem hlt)
        have HT : Hid (ss.take (k + 1) = ss.take k ++ [ss[k]]) := Lib.hid (List.take_succ_eq_append_getElem hlt)
        generalize hs : ss[k] = x at *
        clear hs
        unfold maxLen at hx
        by_cases h3 : x.2.size ≤ 300
        · go_wp2
          go_round
          case rel =>
            refine ⟨k + 1, by omega, by go_num, ?_⟩
            rw [HT.out]
            intro y hy
            rcases List.mem_append.1 hy with h | h
            · exact H3.out y h
            · simp at h; subst h; exact h3
          case measure => simp [intOf]; omega
        · have h3' : (300 : Int) < x.2.size := by omega
          have hbad : smallB ss = false := by
            rw [HF.out, List.all_eq_false]
            exact ⟨x, HM.out, by simpa using h3⟩
          have HB := Lib.hid hbad; clear hbad
          go_wp2
          go_ret
          rw [HB.out]
          exact ⟨rfl, rfl⟩
      · obtain rfl : k = ss.length := by omega
        have hgood : smallB ss = true := by
          rw [HF.out, List.all_eq_true]
          intro x hx
          rw [List.take_length] at H3
          simpa using H3.out x hx
        have HB := Lib.hid hgood; clear hgood
        go_wp2
        go_ret
        rw [HB.out]
        exact ⟨rfl, rfl⟩
  · have hl2 : ¬ (ss.length : Int) ≤ 10 := by omega
    have hfin : smallB ss = false := by simp [smallB, hl]
    have HF := Lib.hid hfin; clear hfin
    go_enter Try.func9, Try.ntmps9
    go_wp2
    go_loop [3] (fun i => i = .int .i64 0) (fun _ => 0)
    case atStart => rfl
    case round =>
      subst hrel
      go_wp2
      go_ret
      rw [HF.out]
      refine ⟨?_, rfl⟩
      simp
      omega

theorem bytes_inj {a b : ByteArray} (h : a.toList = b.toList) : a = b := by
  rw [ByteArray.toList_eq, ByteArray.toList_eq] at h
  exact ByteArray.ext (Array.toList_inj.1 h)

set_option maxHeartbeats 1000000 in
set_option maxRecDepth 100000 in
theorem same_any {B C : Nat} {A D : Option Addr} {ss tt : List (Int × ByteArray)} (c d : Nat) (w : World) (h : Secs w B A ss) (g : Secs w C D tt) (hn : ss.length < 9223372036854775807) (hm : tt.length < 9223372036854775807) :
    Calls Try.prog 17 #[.slice A ss.length c, .slice D tt.length d] w fun e w' => e = .returned (.bool (decide (ss = tt))) ∧ ∃ n, w' = w.drewN n := by
  have HA := Lib.hid h; clear h
  have HD := Lib.hid g; clear g
  by_cases hl : ss.length = tt.length
  · have hlb : ((ss.length : Int) != tt.length) = false := by simp; omega
    have Hl := Lib.hid hl; clear hl
    go_enter Try.func17, Try.ntmps17
    go_wp2
    go_loopw [5] (fun i wr => ∃ k n : Nat, k ≤ ss.length ∧ i = .int .i64 k ∧ ss.take k = tt.take k ∧ wr = w.drewN n) (fun i _ => ss.length - (intOf i).toNat)
    case atStart => exact ⟨0, 0, by omega, rfl, rfl, rfl⟩
    case round =>
      obtain ⟨k, n, hk, rfl, ht, rfl⟩ := hrel
      have H3 := Lib.hid ht; clear ht
      by_cases hlt : k < ss.length
      · have hlt2 : k < tt.length := by have := Hl.out; omega
        obtain ⟨b, off, rfl, hbl, hc⟩ := HA.out (by omega)
        obtain ⟨b', off', rfl, hbl', hc'⟩ := HD.out (by omega)
        obtain ⟨c0, c1⟩ := hc k hlt
        obtain ⟨d0, d1⟩ := hc' k hlt2
        clear hc hc'
        have hk1 : (k : Int) < ss.length := by omega
        have hk2 : (k : Int) < tt.length := by omega
        have TA : Hid (ss.take (k + 1) = ss.take k ++ [ss[k]]) := Lib.hid (List.take_succ_eq_append_getElem hlt)
        have TB : Hid (tt.take (k + 1) = tt.take k ++ [tt[k]]) := Lib.hid (List.take_succ_eq_append_getElem hlt2)
        have GA : Hid (ss[k]? = some ss[k]) := Lib.hid (List.getElem?_eq_getElem hlt)
        have GB : Hid (tt[k]? = some tt[k]) := Lib.hid (List.getElem?_eq_getElem hlt2)
        generalize ss[k] = x at *
        generalize tt[k] = y at *
        by_cases e1 : x.1 = y.1
        · by_cases e2 : x.2.toList = y.2.toList
          · go_wp2
            go_region
            go_wp2
            go_roundw
            case rel =>
              refine ⟨k + 1, n + 1, by omega, by go_num, ?_, rfl⟩
              have e3 : x = y := Prod.ext e1 (bytes_inj e2)
              rw [TA.out, TB.out, H3.out, e3]
            case measure => simp [intOf]; omega
          · have hne : Hid (ss ≠ tt) := by
              rintro rfl
              have := GA.out.symm.trans GB.out
              simp only [Option.some.injEq] at this
              rw [this] at e2
              exact e2 rfl
            go_wp2
            go_region
            go_wp2
            go_ret
            refine ⟨?_, n + 1, rfl⟩
            simpa using hne.out
        · have hne : Hid (ss ≠ tt) := by
            rintro rfl
            have := GA.out.symm.trans GB.out
            simp only [Option.some.injEq] at this
            rw [this] at e1
            exact e1 rfl
          go_wp2
          go_region
          go_wp2
          go_ret
          refine ⟨?_, n + 1, rfl⟩
          simpa using hne.out
      · obtain rfl : k = ss.length := by omega
        have heq : ss = tt := by
          have h3 := H3.out
          rw [List.take_length, Hl.out, List.take_length] at h3
          exact h3
        have HE := Lib.hid heq; clear heq
        go_wp2
        go_ret
        refine ⟨?_, n, rfl⟩
        simpa using HE.out
  · have hlb : ((ss.length : Int) != tt.length) = true := by simp; omega
    have hne : ss ≠ tt := fun e => hl (by rw [e])
    have HN := Lib.hid hne; clear hne hl
    go_enter Try.func17, Try.ntmps17
    go_wp2
    go_ret
    refine ⟨?_, 0, rfl⟩
    simpa using HN.out

theorem same_lit {B C : Nat} {A D : Option Addr} {ss tt : List (Int × ByteArray)} (n m c d : Nat) (r : Bool) (w : World) (h : Secs w B A ss) (g : Secs w C D tt) (hn : ss.length = n) (hm : tt.length = m) (h1 : n < 9223372036854775807) (h2 : m < 9223372036854775807) (hr : decide (ss = tt) = r) :
    Calls Try.prog 17 #[.slice A n c, .slice D m d] w fun e w' => e = .returned (.bool r) ∧ Below w.heap.size w w' := by
  subst hn hm hr
  exact (same_any c d w h g h1 h2).mono fun e w' ⟨he, k, hk⟩ => ⟨he, by rw [hk]; exact below_drewN (Below.refl _ _) k⟩
end Go.Proofs.Yteikmkbaokfgeaa
