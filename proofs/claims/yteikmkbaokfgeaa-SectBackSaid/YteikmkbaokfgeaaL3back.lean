/- Layer 3: SectBack: sections that were put, one behind the other, are read as they were; what bytes are sections are those of these sections alone. For every text and every list of sections. -/
import Derived.Test.YteikmkbaokfgeaaSfix
import Derived.Test.YteikmkbaokfgeaaSm2
import Derived.Test.YteikmkbaokfgeaaSopen
import Derived.ChangeMaps5
namespace Go.Proofs.Yteikmkbaokfgeaa.sectBack
set_option linter.unusedVariables false
set_option linter.unusedSimpArgs false
open Go.ChangeShapes Go.WideShapes Go.ChangeAt Go.RowKit Cm

theorem str_of (s : ByteArray) : (⟨s.data.toList.toArray⟩ : ByteArray) = s := by apply ByteArray.ext; simp
theorem ret_true {b : Bool} (h : b = true) : Ending.returned (.bool b) = .returned (.bool true) := by rw [h]

theorem put_small (t : Int) (p : List UInt8) (hp : p.length ≤ 300) : (putS t p).length ≤ 320 := by
  by_cases h : 0 ≤ t ∧ t ≤ 255
  · rw [putS_length h.1 h.2 (by omega), putTextF_eq (by omega), List.length_append]
    have := putG_len 7 p.length
    omega
  · rw [putS, if_pos (by omega)]; simp
theorem join_small : ∀ (ss : List (Int × ByteArray)), (∀ x ∈ ss, x.2.size ≤ 300) → (joinS (rawS ss)).length ≤ 320 * ss.length
  | [], _ => by simp [rawS, joinS]
  | x :: ss, h => by
    have ih := join_small ss (fun y hy => h y (by simp [hy]))
    have hx := put_small x.1 x.2.data.toList (h x (by simp))
    have e : rawS (x :: ss) = (x.1, x.2.data.toList) :: rawS ss := rfl
    rw [e, joinS_cons, List.length_append, List.length_cons]
    simp only
    omega

/-- No tag so far is out of bounds. -/
def BackR (w : World) (ss : List (Int × ByteArray)) (i : Value) (wr : World) : Prop :=
  ∃ k : Nat, k ≤ ss.length ∧ i = .int .i64 k ∧ (∀ x ∈ ss.take k, 0 ≤ x.1 ∧ x.1 ≤ 255) ∧ Below w.heap.size w wr

set_option maxHeartbeats 1000000 in
set_option maxRecDepth 100000 in
/-- From the loop on. -/
theorem good (s : ByteArray) (A : Option Addr) (c : Nat) (ss : List (Int × ByteArray)) (w : World) (hS : Secs w w.heap.size A ss) (hz : Sized ss) (hn : smallB ss = true) (hs : s.size ≤ 400) :
    Calls Try.prog 4 #[.string s, .slice A ss.length c] w fun e w' => e = .returned (.bool true) ∧ Below w.heap.size w w' := by
  have hb : Below w.heap.size w w := Below.refl _ _
  have hl : s.data.toList.length = s.size := rfl
  have hl10 : ss.length ≤ 10 := by unfold smallB at hn; simp at hn; exact hn.1
  have h300 : ∀ x ∈ ss, x.2.size ≤ 300 := by
    unfold smallB at hn; simp at hn
    intro x hx
    exact hn.2 x.1 x.2 hx
  have CL := fun W (h : Secs W w.heap.size A ss) => Lib.hid (small_any c W h hz)
  rw [hn] at CL
  have HZ := Lib.hid hz
  have HS := Lib.hid hS
  have H3 := Lib.hid h300
  obtain ⟨l1, k1, e1, h1⟩ : ∃ l k e, allS s.data.toList = (l, k, e) := ⟨_, _, _, rfl⟩
  have C1 := fun W => Lib.hid (sall_lit s l1 l1.length k1 k1 e1 W (by omega) h1 rfl rfl)
  have z1 : l1.length ≤ 400 := by have := all_count s.data.toList; rw [h1] at this; simp only at this; omega
  have n1 : decide ((400 : Int) < s.size) = false := by simp; omega
  have hsz := all_sizes s.data.toList
  rw [h1] at hsz
  simp only at hsz
  clear hz hn hS h300
  by_cases he : e1 = 0
  · subst he
    obtain ⟨q1, q2, q3⟩ := allS_eq (s := s.data.toList) (by rw [h1])
    rw [h1] at q1 q2 q3
    simp only at q1 q2 q3
    have hk : (k1 : Int) = s.size := by omega
    rw [hk] at C1
    have CJ := fun A c W (h : Secs W W.heap.size A (packS l1)) => Lib.hid (sjoin_lit (l := l1) l1.length c s.data W h rfl (fun x hx => by have := hsz x hx; unfold maxLen; omega) (by omega) (by rw [← q1]))
    clear h1 q1 q2 q3 hk hsz
    go_enter Try.func4, Try.ntmps4
    go_wp2_with (first
      | (go_at_call 10; refine (fixed_true _).mono ?_; rintro e v1 ⟨rfl, hb1⟩; replace hb := Below.step hb hb1; clear hb1)
      | (go_at_call 9; (with_reducible refine (CL _ (HS.out.below hb (Nat.le_refl _))).out.mono ?_); rintro e v2 ⟨rfl, rfl⟩)
      | (go_at_call 13; with_reducible refine (C1 _).out.mono ?_; rintro e v3 ⟨A1, c1, rfl, hS1, hb3⟩; replace hb := Below.step hb hb3; clear hb3)
      | (go_at_call 18; (with_reducible refine (CJ _ _ _ hS1).out.mono ?_); rintro e v4 ⟨rfl, hb4⟩; replace hb := Below.step hb hb4; clear hb4))
    go_loopw [8] (fun i wr => BackR w ss i wr) (fun i _ => ss.length - (intOf i).toNat)
    case atStart => exact ⟨0, by omega, rfl, by simp, hb⟩
    case round =>
      obtain ⟨k, hk, rfl, htag, hb⟩ := hrel
      have HT := Lib.hid htag; clear htag
      by_cases hlt : k < ss.length
      · obtain ⟨b, off, rfl, hbl, hc⟩ := HS.out (by omega)
        obtain ⟨c0, c1⟩ := hc k hlt
        clear hc
        have c0 := (hb.cell (p := ⟨b, off + k * 2, none⟩) hbl).trans c0
        have HK : Hid (ss.take (k + 1) = ss.take k ++ [ss[k]]) := Lib.hid (List.take_succ_eq_append_getElem hlt)
        have hk1 : (k : Int) < ss.length := by omega
        generalize ss[k] = x at *
        clear c1
        by_cases hv : 0 ≤ x.1 ∧ x.1 ≤ 255
        · obtain ⟨v0, v1'⟩ := hv
          go_wp2_with fail
          go_roundw
          case rel =>
            refine ⟨k + 1, by omega, by go_num, ?_, hb⟩
            rw [HK.out]
            intro y hy
            rcases List.mem_append.1 hy with h | h
            · exact HT.out y h
            · simp at h; subst h; exact ⟨v0, v1'⟩
          case measure => simp [intOf]; omega
        · have hv2 : x.1 < 0 ∨ (0 ≤ x.1 ∧ 255 < x.1) := by omega
          clear hv
          rcases hv2 with h | ⟨h, h'⟩
          all_goals
            go_wp2_with fail
            go_ret
            exact ⟨rfl, hb⟩
      · obtain rfl : k = ss.length := by omega
        rw [List.take_length] at HT
        have hok : okS (rawS ss) := by
          intro y hy
          obtain ⟨x, hx, rfl⟩ := List.mem_map.1 hy
          have h1 := HT.out x hx
          have h2 := H3.out x hx
          exact ⟨h1.1, h1.2, by show x.2.data.toList.length ≤ _; have : x.2.data.toList.length = x.2.size := rfl; omega⟩
        have hall := allS_join hok
        have hrl : (rawS ss).length = ss.length := by simp [rawS]
        have hjl := joinS_len (rawS ss)
        rw [hrl] at hjl
        have hj4 : (joinS (rawS ss)).length ≤ 1000000 := by
          have := join_small ss H3.out
          omega
        have CK := fun W (h : Secs W W.heap.size A ss) => Lib.hid (sjoin_any c W h HZ.out (by omega))
        generalize hJ : joinS (rawS ss) = J at *
        have C3 := fun W => Lib.hid (sall_lit ⟨J.toArray⟩ (rawS ss) ss.length J.length J.length 0 W (by show J.toArray.size ≤ _; rw [List.size_toArray]; omega) hall hrl rfl)
        rw [packS_raw] at C3
        have hJs : (⟨J.toArray⟩ : ByteArray).size = J.length := by show J.toArray.size = _; simp
        clear hall hok hJ hrl
        go_wp2_with (first
          | (go_at_call 18; (with_reducible refine (CK _ ((HS.out.below hb (Nat.le_refl _)).more hb.size)).out.mono ?_); rintro e v5 ⟨rfl, hb5⟩; replace hb := Below.step hb hb5; clear hb5)
          | (go_at_call 13; with_reducible refine (C3 _).out.mono ?_; rintro e v6 ⟨A6, c6, rfl, hS6, hb6⟩; replace hb := Below.step hb hb6; clear hb6)
          | (go_at_call 17; (with_reducible refine (same_lit ss.length ss.length c6 c true _ hS6 (HS.out.below hb (Nat.le_refl _)) rfl rfl (by omega) (by omega) (decide_eq_true rfl)).mono ?_); rintro e v7 ⟨rfl, hb7⟩; replace hb := Below.step hb hb7; clear hb7))
        go_ret
        refine ⟨ret_true ?_, hb⟩
        simp
  · have hnil : l1 = [] := by
      have := allS_bad (s := s.data.toList) (by rw [h1]; exact he)
      rw [h1] at this; exact this
    subst hnil
    have heb : (e1 == 0) = false := by simpa using he
    have heb2 : (e1 != 0) = true := by simpa using he
    clear h1 he hsz z1
    go_enter Try.func4, Try.ntmps4
    go_wp2_with (first
      | (go_at_call 10; refine (fixed_true _).mono ?_; rintro e v1 ⟨rfl, hb1⟩; replace hb := Below.step hb hb1; clear hb1)
      | (go_at_call 9; (with_reducible refine (CL _ (HS.out.below hb (Nat.le_refl _))).out.mono ?_); rintro e v2 ⟨rfl, rfl⟩)
      | (go_at_call 13; with_reducible refine (C1 _).out.mono ?_; rintro e v3 ⟨A1, c1, rfl, hS1, hb3⟩; replace hb := Below.step hb hb3; clear hb3))
    go_loopw [8] (fun i wr => BackR w ss i wr) (fun i _ => ss.length - (intOf i).toNat)
    case atStart => exact ⟨0, by omega, rfl, by simp, hb⟩
    case round =>
      obtain ⟨k, hk, rfl, htag, hb⟩ := hrel
      have HT := Lib.hid htag; clear htag
      by_cases hlt : k < ss.length
      · obtain ⟨b, off, rfl, hbl, hc⟩ := HS.out (by omega)
        obtain ⟨c0, c1⟩ := hc k hlt
        clear hc
        have c0 := (hb.cell (p := ⟨b, off + k * 2, none⟩) hbl).trans c0
        have HK : Hid (ss.take (k + 1) = ss.take k ++ [ss[k]]) := Lib.hid (List.take_succ_eq_append_getElem hlt)
        have hk1 : (k : Int) < ss.length := by omega
        generalize ss[k] = x at *
        clear c1
        by_cases hv : 0 ≤ x.1 ∧ x.1 ≤ 255
        · obtain ⟨v0, v1'⟩ := hv
          go_wp2_with fail
          go_roundw
          case rel =>
            refine ⟨k + 1, by omega, by go_num, ?_, hb⟩
            rw [HK.out]
            intro y hy
            rcases List.mem_append.1 hy with h | h
            · exact HT.out y h
            · simp at h; subst h; exact ⟨v0, v1'⟩
          case measure => simp [intOf]; omega
        · have hv2 : x.1 < 0 ∨ (0 ≤ x.1 ∧ 255 < x.1) := by omega
          clear hv
          rcases hv2 with h | ⟨h, h'⟩
          all_goals
            go_wp2_with fail
            go_ret
            exact ⟨rfl, hb⟩
      · obtain rfl : k = ss.length := by omega
        rw [List.take_length] at HT
        have hok : okS (rawS ss) := by
          intro y hy
          obtain ⟨x, hx, rfl⟩ := List.mem_map.1 hy
          have h1 := HT.out x hx
          have h2 := H3.out x hx
          exact ⟨h1.1, h1.2, by show x.2.data.toList.length ≤ _; have : x.2.data.toList.length = x.2.size := rfl; omega⟩
        have hall := allS_join hok
        have hrl : (rawS ss).length = ss.length := by simp [rawS]
        have hjl := joinS_len (rawS ss)
        rw [hrl] at hjl
        have hj4 : (joinS (rawS ss)).length ≤ 1000000 := by
          have := join_small ss H3.out
          omega
        have CK := fun W (h : Secs W W.heap.size A ss) => Lib.hid (sjoin_any c W h HZ.out (by omega))
        generalize hJ : joinS (rawS ss) = J at *
        have C3 := fun W => Lib.hid (sall_lit ⟨J.toArray⟩ (rawS ss) ss.length J.length J.length 0 W (by show J.toArray.size ≤ _; rw [List.size_toArray]; omega) hall hrl rfl)
        rw [packS_raw] at C3
        have hJs : (⟨J.toArray⟩ : ByteArray).size = J.length := by show J.toArray.size = _; simp
        clear hall hok hJ hrl
        go_wp2_with (first
          | (go_at_call 18; (with_reducible refine (CK _ ((HS.out.below hb (Nat.le_refl _)).more hb.size)).out.mono ?_); rintro e v5 ⟨rfl, hb5⟩; replace hb := Below.step hb hb5; clear hb5)
          | (go_at_call 13; with_reducible refine (C3 _).out.mono ?_; rintro e v6 ⟨A6, c6, rfl, hS6, hb6⟩; replace hb := Below.step hb hb6; clear hb6)
          | (go_at_call 17; (with_reducible refine (same_lit ss.length ss.length c6 c true _ hS6 (HS.out.below hb (Nat.le_refl _)) rfl rfl (by omega) (by omega) (decide_eq_true rfl)).mono ?_); rintro e v7 ⟨rfl, hb7⟩; replace hb := Below.step hb hb7; clear hb7))
        go_ret
        refine ⟨ret_true ?_, hb⟩
        simp

set_option maxHeartbeats 1000000 in
set_option maxRecDepth 100000 in
/-- Outside the bounds the fixed calls alone are asked. -/
theorem other (s : ByteArray) (A : Option Addr) (c : Nat) (ss : List (Int × ByteArray)) (w : World) (hS : Secs w w.heap.size A ss) (hz : Sized ss) (hs : s.size ≤ maxLen) (h : 400 < s.size ∨ smallB ss = false) :
    Calls Try.prog 4 #[.string s, .slice A ss.length c] w fun e w' => e = .returned (.bool true) ∧ Below w.heap.size w w' := by
  have hb : Below w.heap.size w w := Below.refl _ _
  have CL := fun W (h : Secs W w.heap.size A ss) => Lib.hid (small_any c W h hz)
  have HS := Lib.hid hS
  have hc : (400 : Int) < s.size ∨ (s.size ≤ 400 ∧ smallB ss = false) := by
    by_cases h4 : 400 < s.size
    · exact .inl (by omega)
    · exact .inr ⟨by omega, by cases h with | inl h => exact absurd h h4 | inr h => exact h⟩
  unfold maxLen at hs
  clear hz hS h
  rcases hc with h | ⟨h, h'⟩
  · go_enter Try.func4, Try.ntmps4
    go_wp2_with (go_at_call 10; refine (fixed_true _).mono ?_; rintro e v1 ⟨rfl, hb1⟩; replace hb := Below.step hb hb1; clear hb1)
    go_ret
    exact ⟨rfl, hb⟩
  · rw [h'] at CL
    have n1 : decide ((400 : Int) < s.size) = false := by simp; omega
    go_enter Try.func4, Try.ntmps4
    go_wp2_with (first
      | (go_at_call 10; refine (fixed_true _).mono ?_; rintro e v1 ⟨rfl, hb1⟩; replace hb := Below.step hb hb1; clear hb1)
      | (go_at_call 9; (with_reducible refine (CL _ (HS.out.below hb (Nat.le_refl _))).out.mono ?_); rintro e v2 ⟨rfl, rfl⟩))
    go_ret
    exact ⟨rfl, hb⟩

theorem entry {H : Type} {enc : TypeId × Value → H} (W : World) (base : Nat) (v0 v1 : Value) (d0 d1 : DataW H) (p0 p1 : List MemPlace)
    (k0 : Value.okWide Try.prog W .any base 9 v0) (k1 : Value.okWide Try.prog W .any base 22 v1)
    (h0 : DataW.Trod enc Try.prog W 0 (fun _ => true) true 9 v0 d0 p0) (h1 : DataW.Trod enc Try.prog W 0 (fun _ => true) true 22 v1 d1 p1) :
    Calls Try.prog 4 #[v0, v1] W fun e w' => e = .returned (.bool true) ∧ Below W.heap.size W w' := by
  obtain ⟨s, rfl, _, _, hs⟩ := Go.ChangeMaps.open_string Try.underlying9 k0 h0
  obtain ⟨A, c, ss, rfl, hS, hz, _, _⟩ := open_secs k1 h1
  by_cases h : 400 < s.size ∨ smallB ss = false
  · exact other s A c ss W hS hz hs h
  · exact good s A c ss W hS hz (by cases hb : smallB ss with | true => rfl | false => exact absurd (.inr hb) h) (by omega)
end Go.Proofs.Yteikmkbaokfgeaa.sectBack
