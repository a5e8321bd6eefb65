/- Layer 7: the document's Split. -/
import Derived.Test.YtoeinpiekfmbgaaGreatDoorzGb
import Derived.Test.YtoeinpiekfmbgaaGreatDoorzGc
import Derived.Test.YtoeinpiekfmbgaaGreatDoorRows
import Derived.Lib.Strings
import Derived.OpenShut
import Derived.Lib.Hide
import Derived.WalkMore
import Derived.Handy
import Derived.Laws.IdiomStrings
import Derived.Test.YtoeinpiekfmbgaaGreatDoorzGh
import Derived.Test.YtoeinpiekfmbgaaGreatDoorzHk
import Derived.BigQuiet
import Derived.Deep.QuietTactic
import Derived.RegionTactic
import Derived.Deep.DeepCutAuto
import Derived.Deep.CutBlock
import Derived.Deep.RegionHeld3
import Derived.Deep.RegionLaw
import Derived.Deep.AppendLies
import Derived.Test.YtoeinpiekfmbgaaGreatDoorzHj
import Derived.Test.YtoeinpiekfmbgaaGreatDoorzGf
namespace Go.Proofs.YtoeinpiekfmbgaaGreatDoor
set_option linter.unusedVariables false
set_option linter.unusedSimpArgs false
open Go.RowKit Go.ChangeShapes Go.WideShapes Go.ChangeAt Go.Sort

def strV (l : List UInt8) : Value := .string ⟨l.toArray⟩
theorem extract_take (s : ByteArray) (a b : Nat) : s.extract a b = ⟨((s.data.toList.drop a).take (b - a)).toArray⟩ := by
  apply ByteArray.ext
  apply Array.toList_inj.1
  have := Lib.extract_toList s a b
  rw [ByteArray.toList_eq] at this
  rw [this]
theorem infoStr : (Tryz.prog.info? 9).map (fun i => (i.zero, i.size, i.bytes)) = some (some (.string ⟨#[]⟩), 1, 16) := by kernel_rfl
theorem word_end (c : UInt8) (l : List UInt8) (f k : Nat) (hk : k < l.length) (hf : f ≤ k) (hc : l[k] = c) (hn : c ∉ (l.drop f).take (k - f)) : splitL c (l.drop f) = (l.drop f).take (k - f) :: splitL c (l.drop (k + 1)) := by
  have e : l.drop f = (l.drop f).take (k - f) ++ c :: l.drop (k + 1) := by
    conv => lhs; rw [← List.take_append_drop (k - f) (l.drop f)]
    congr 1
    rw [List.drop_drop, show f + (k - f) = k by omega, List.drop_eq_getElem_cons hk, hc]
  conv => lhs; rw [e]
  exact split_app c _ _ hn
theorem word_more (c : UInt8) (l : List UInt8) (f k : Nat) (hk : k < l.length) (hf : f ≤ k) (hc : l[k] ≠ c) (hn : c ∉ (l.drop f).take (k - f)) : c ∉ (l.drop f).take (k + 1 - f) := by
  rw [show k + 1 - f = (k - f) + 1 by omega, List.take_succ_eq_append_getElem (by simp; omega), List.mem_append]
  rintro (h | h)
  · exact hn h
  · simp only [List.getElem_drop, List.mem_singleton] at h
    rw [show l[f + (k - f)] = l[k] from getElem_congr_idx (by omega)] at h
    exact hc h.symm

set_option maxHeartbeats 4000000 in
set_option maxRecDepth 100000 in
theorem psplit_any (s : ByteArray) (c : UInt8) (w : World) (hs : s.size ≤ 1000000) :
    Calls Tryz.prog 33 #[.string s, .int .u8 (c.toNat : Int)] w fun e w' => ∃ v, e = .returned v ∧ OwnV w' w.heap.size 9 v ((splitL c s.data.toList).map strV) ∧ Below w.heap.size w w' := by
  have hl : s.data.toList.length = s.size := rfl
  have hs' : (s.size : Int) ≤ 1000000 := by omega
  have hv := OwnV.made w 9
  have hW : Below w.heap.size w (w.alloc (.cells #[] 9)) := (Below.refl _ _).alloc (Nat.le_refl _) _
  go_enter Tryz.func33, Tryz.ntmps33
  go_wp2_with fail
  go_loopw [5, 6, 7] (fun o f i wr => ∃ (k m : Nat) (ws : List (List UInt8)), i = .int .i64 k ∧ f = .int .i64 m ∧ OwnV wr w.heap.size 9 o (ws.map strV) ∧ Below w.heap.size w wr ∧ ws.length ≤ k ∧ w.heap.size ≤ wr.heap.size ∧
    ((k ≤ s.size ∧ m ≤ k ∧ splitL c s.data.toList = ws ++ splitL c (s.data.toList.drop m) ∧ c ∉ (s.data.toList.drop m).take (k - m)) ∨ (k = s.size + 1 ∧ ws = splitL c s.data.toList))) (fun _ _ i _ => s.size + 1 - (intOf i).toNat)
  case atStart => exact ⟨0, 0, [], rfl, rfl, hv, hW, by simp, hW.size, .inl ⟨by omega, by omega, by simp, by simp⟩⟩
  case round =>
    obtain ⟨k, m, ws, rfl, rfl, hown, hw, hlen, hwz, hor⟩ := hrel
    rcases hor with ⟨hk, hm, hspl, hnot⟩ | ⟨rfl, rfl⟩
    · obtain ⟨A, ca, rfl, _⟩ := hown.form
      have hmi : (m : Int) ≤ k := by omega
      rw [List.length_map] at *
      by_cases hlt : k < s.size
      · have h256 := s[k].toNat_lt
        have c256 := c.toNat_lt
        by_cases hc : s[k] = c
        · have hwe := word_end c s.data.toList m k (by rw [hl]; exact hlt) hm hc hnot
          have het := extract_take s m k
          generalize hword : (s.data.toList.drop m).take (k - m) = word at *
          have HSP := Lib.hid (hspl.trans (by rw [hwe] : ws ++ splitL c (s.data.toList.drop m) = ws ++ (word :: splitL c (s.data.toList.drop (k + 1)))))
          have hq : ((s[k].toNat : Int) == (c.toNat : Int)) = true := by rw [hc]; simp
          have HE := Lib.hid het
          clear hwe hspl hnot hword hc het hv hW
          have HO := Lib.hid hown
          clear hown
          go_wp2_with (at_builtin; refine wpList_append_vals rfl _ _ 83 rfl 9 (.string ⟨#[]⟩) 16 Tryz.underlying83 infoStr rfl w.heap.size wr _ (ws.map strV) #[.string (s.extract m k)] 1 rfl rfl rfl HO.out rfl (by intro u hu; simp at hu; subst hu; rfl) (by rw [List.length_map]; unfold maxLen; omega) (by rw [List.length_map]; omega) hwz ?_; intro v' w2 hv2 hb2)
          have e2 : ws.map strV ++ #[Value.string (s.extract m k)].toList = (ws ++ [word]).map strV := by rw [HE.out]; simp [strV]
          rw [e2] at hv2
          have HO2 := Lib.hid hv2
          have hw2 := hw.trans hb2
          have hz2 := hb2.size
          clear hv2 e2 hb2
          go_wp2_with fail
          go_roundw
          case rel => exact ⟨k + 1, k + 1, ws ++ [word], by go_num, by go_num, HO2.out, hw2, by rw [List.length_append, List.length_singleton]; omega, hw2.size, .inl ⟨by omega, by omega, by rw [HSP.out]; simp, by simp⟩⟩
          case measure => simp [intOf]; omega
        · have hwm := word_more c s.data.toList m k (by rw [hl]; exact hlt) hm hc hnot
          have hq : ((s[k].toNat : Int) == (c.toNat : Int)) = false := by
            have : s[k].toNat ≠ c.toNat := fun h => hc (UInt8.toNat_inj.1 h)
            simp
            omega
          have HO := Lib.hid hown
          have HSP := Lib.hid hspl
          have HWM := Lib.hid hwm
          clear hown hspl hnot hwm hv hW hc
          go_wp2_with fail
          go_roundw
          case rel => exact ⟨k + 1, m, ws, by go_num, rfl, HO.out, hw, by omega, hwz, .inl ⟨by omega, by omega, HSP.out, HWM.out⟩⟩
          case measure => simp [intOf]; omega
      · obtain rfl : k = s.size := by omega
        have hwe : splitL c (s.data.toList.drop m) = [(s.data.toList.drop m).take (s.size - m)] := by
          have e : (s.data.toList.drop m).take (s.size - m) = s.data.toList.drop m := List.take_of_length_le (by rw [List.length_drop, hl]; omega)
          rw [e] at hnot ⊢
          exact split_word c _ hnot
        have het := extract_take s m s.size
        generalize hword : (s.data.toList.drop m).take (s.size - m) = word at *
        have HSP := Lib.hid (hspl.trans (by rw [hwe] : ws ++ splitL c (s.data.toList.drop m) = ws ++ [word]))
        have HE := Lib.hid het
        have HO := Lib.hid hown
        clear hwe hspl hnot hword het hv hW hown
        go_wp2_with (at_builtin; refine wpList_append_vals rfl _ _ 83 rfl 9 (.string ⟨#[]⟩) 16 Tryz.underlying83 infoStr rfl w.heap.size wr _ (ws.map strV) #[.string (s.extract m s.size)] 1 rfl rfl rfl HO.out rfl (by intro u hu; simp at hu; subst hu; rfl) (by rw [List.length_map]; unfold maxLen; omega) (by rw [List.length_map]; omega) hwz ?_; intro v' w2 hv2 hb2)
        have e2 : ws.map strV ++ #[Value.string (s.extract m s.size)].toList = (ws ++ [word]).map strV := by rw [HE.out]; simp [strV]
        rw [e2] at hv2
        have HO2 := Lib.hid hv2
        have hw2 := hw.trans hb2
        clear hv2 e2 hb2
        go_wp2_with fail
        go_roundw
        case rel => exact ⟨s.size + 1, s.size + 1, ws ++ [word], by go_num, by go_num, HO2.out, hw2, by rw [List.length_append, List.length_singleton]; omega, hw2.size, .inr ⟨rfl, HSP.out.symm⟩⟩
        case measure => simp [intOf]; try omega
    · go_wp2_with fail
      go_ret
      exact ⟨_, rfl, hown, hw⟩
end Go.Proofs.YtoeinpiekfmbgaaGreatDoor

/- Layer 4: the document's Digits, of numbers below 100000. -/
namespace Go.Proofs.YtoeinpiekfmbgaaGreatDoor
set_option linter.unusedVariables false
set_option linter.unusedSimpArgs false
open Go.RowKit Go.ChangeShapes Go.WideShapes Go.ChangeAt Go.Sort

theorem decd_len (n : Nat) : (Lib.decDigits n).length ≤ n + 1 := by
  induction n using Nat.strongRecOn with
  | _ n ih =>
    by_cases h : n < 10
    · rw [decd_lt h]; simp
    · rw [decd_ge h, List.length_append]
      have := ih (n / 10) (by omega)
      simp; omega

set_option maxHeartbeats 1000000 in
set_option maxRecDepth 100000 in
theorem rdg_nat (n : Nat) : ∀ (w : World), n < 100000 → Calls Tryz.prog 84 #[.int .i64 n] w fun e w' => e = .returned (.string ⟨(Lib.decDigits n).toArray⟩) ∧ Below w.heap.size w w' := by
  induction n using Nat.strongRecOn with
  | _ n ih =>
  intro w hn
  obtain ⟨c, hc⟩ : ∃ c, c = UInt8.ofNat (48 + n % 10) := ⟨_, rfl⟩
  have hv : (48 + (n : Int) % 10) % 256 = c.toNat := by rw [hc, UInt8.toNat_ofNat']; omega
  have hv2 : 48 + (n : Int) % 10 = c.toNat := by rw [hc, UInt8.toNat_ofNat']; omega
  have hN0 : 0 ≤ (n : Int) := by omega
  have hN1 : (n : Int) ≤ 99999 := by omega
  have cv : ∀ (W : World) (g : Nat), W.cell? ⟨g, 0, none⟩ = some (.int .u8 (c.toNat : Int)) → (convert 145 9 (.slice (some ⟨g, 0, none⟩) 1 1)).run Tryz.prog W = .ok (.string ⟨#[c]⟩) W := fun W g hg =>
    run_convert_bytes_back W 145 9 5 ⟨g, 0, none⟩ 1 [c] Tryz.underlying145 Tryz.underlying5 Tryz.underlying9 (by
      intro j hj
      have : j = 0 := by simpa using hj
      subst this
      simpa [Addr.add] using hg)
  have cw : (convert 145 9 (.slice (some ⟨w.heap.size, 0, none⟩) 1 1)).run Tryz.prog (w.alloc (.cells #[.int .u8 (c.toNat : Int)] 5)) = .ok (.string ⟨#[c]⟩) (w.alloc (.cells #[.int .u8 (c.toNat : Int)] 5)) :=
    cv _ _ ((Held.new w 5 #[.int .u8 (c.toNat : Int)]).cell 0)
  by_cases h : n < 10
  · have hd := decd_lt h
    rw [← hc] at hd
    have HD := Lib.hid hd
    have hlt : decide (10 ≤ (n : Int)) = false := by simp; omega
    clear hd hc h ih hn
    generalize (n : Int) = N at *
    go_enter Tryz.func84, Tryz.ntmps84
    go_wp2_with fail
    go_ret
    rw [HD.out]
    exact ⟨rfl, (Below.refl _ _).alloc (Nat.le_refl _) _⟩
  · have hd := decd_ge h
    rw [← hc] at hd
    have hl := decd_len (n / 10)
    have CD : ∀ W, Hid (Calls Tryz.prog 84 #[.int .i64 ((n : Int) / 10)] W fun e w' => e = .returned (.string ⟨(Lib.decDigits (n / 10)).toArray⟩) ∧ Below W.heap.size W w') := fun W => by
      have := ih (n / 10) (by omega) W (by omega)
      rw [show (n : Int) / 10 = ((n / 10 : Nat) : Int) by omega]
      exact Lib.hid this
    generalize Lib.decDigits (n / 10) = s at *
    have HD := Lib.hid hd
    have hlt : decide (10 ≤ (n : Int)) = true := by simp; omega
    have hs : s.length + 1 ≤ 9223372036854775807 := by omega
    clear hd hc h ih hn hl
    generalize (n : Int) = N at *
    go_enter Tryz.func84, Tryz.ntmps84
    go_wp2_with (go_at_call 84; (with_reducible refine (CD _).out.mono ?_); rintro e v ⟨rfl, hb⟩; have hw := Below.step ((Below.refl _ _).alloc (Nat.le_refl _) _) hb)
    go_ret
    rw [HD.out]
    refine ⟨ret_str ?_, hw⟩
    apply ByteArray.ext
    simp

theorem rdg_in {n : Int} (h0 : 0 ≤ n) (h1 : n < 100000) : Ct Tryz.prog 84 #[.int .i64 n] (.string ⟨(dgI n).toArray⟩) := fun w => by
  obtain ⟨m, rfl⟩ := Int.eq_ofNat_of_zero_le h0
  unfold dgI
  rw [Int.toNat_natCast]
  exact rdg_nat m w (by omega)
end Go.Proofs.YtoeinpiekfmbgaaGreatDoor

/- Layer 7: the document's Number. -/
namespace Go.Proofs.YtoeinpiekfmbgaaGreatDoor
set_option linter.unusedVariables false
set_option linter.unusedSimpArgs false
open Go.RowKit Go.ChangeShapes Go.WideShapes Go.ChangeAt Go.Sort

theorem valD_snoc (l : List UInt8) (c : UInt8) : valD (l ++ [c]) = 10 * valD l + c.toNat - 48 := by simp [valD]
theorem valD_bd : ∀ l : List UInt8, (l.length ≤ 2 → -600 ≤ valD l ∧ valD l ≤ 2600) ∧ (l.length ≤ 3 → -6000 ≤ valD l ∧ valD l ≤ 26000)
  | [] => by simp [valD]
  | [a] => by have := a.toNat_lt; simp [valD]; omega
  | [a, b] => by have := a.toNat_lt; have := b.toNat_lt; simp [valD]; omega
  | [a, b, c] => by have := a.toNat_lt; have := b.toNat_lt; have := c.toNat_lt; simp [valD]; omega
  | a :: b :: c :: d :: l => by simp

set_option maxHeartbeats 2000000 in
set_option maxRecDepth 100000 in
theorem pnumber_any (s : ByteArray) : Ct Tryz.prog 59 #[.string s] (.int .i64 (numV s.data.toList)) := fun w => by
  have hl : s.data.toList.length = s.size := rfl
  by_cases h3 : s.size ≤ 3
  case neg =>
    have hv : numV s.data.toList = -1 := by unfold numV; rw [if_neg (by rw [hl]; omega)]
    have HV := Lib.hid hv
    have h4 : (3 : Int) < s.size := by omega
    clear hv hl
    go_enter Tryz.func59, Tryz.ntmps59
    go_wp2
    go_ret
    rw [HV.out]
    exact ⟨rfl, Below.refl _ _⟩
  have h3' : (s.size : Int) ≤ 3 := by omega
  go_enter Tryz.func59, Tryz.ntmps59
  go_wp2
  go_loop [3, 4] (fun n i => ∃ k : Nat, k ≤ s.size ∧ i = .int .i64 k ∧ n = .int .i64 (valD (s.data.toList.take k))) (fun _ i => s.size - (intOf i).toNat)
  case atStart => exact ⟨0, by omega, rfl, by simp [valD]⟩
  case round =>
    obtain ⟨k, hk, rfl, rfl⟩ := hrel
    by_cases hlt : k < s.size
    · have hb := (valD_bd (s.data.toList.take k)).1 (by simp; omega)
      have hb1 := hb.1
      have hb2 := hb.2
      have hst : valD (s.data.toList.take (k + 1)) = 10 * valD (s.data.toList.take k) + s[k].toNat - 48 := by
        rw [List.take_succ_eq_append_getElem (by rw [hl]; exact hlt), valD_snoc]
        rfl
      have HST := Lib.hid hst
      have h256 := s[k].toNat_lt
      clear hb hst
      generalize valD (s.data.toList.take k) = n at *
      go_wp2_with fail
      go_round
      case rel => exact ⟨k + 1, by omega, by go_num, by rw [HST.out]⟩
      case measure => simp [intOf]; omega
    · obtain rfl : k = s.size := by omega
      rw [List.take_of_length_le (by rw [hl]; omega)]
      have hb := (valD_bd s.data.toList).2 (by omega)
      have hn : numV s.data.toList = if 0 ≤ valD s.data.toList ∧ dgI (valD s.data.toList) = s.data.toList then valD s.data.toList else -1 := by
        unfold numV
        by_cases h : 0 ≤ valD s.data.toList ∧ dgI (valD s.data.toList) = s.data.toList
        · rw [if_pos h, if_pos ⟨by omega, h.1, h.2⟩]
        · rw [if_neg h, if_neg (fun h2 => h ⟨h2.2.1, h2.2.2⟩)]
      have hD := fun h0 => rdg_in (n := valD s.data.toList) h0 (by omega)
      have hb2 := hb.2
      clear hb
      generalize valD s.data.toList = n at *
      by_cases h0 : 0 ≤ n
      · have D := hD h0
        have hq := eqS_toList ⟨(dgI n).toArray⟩ s
        rw [ByteArray.toList_mk] at hq
        by_cases he : dgI n = s.data.toList
        · have hes : eqS ⟨(dgI n).toArray⟩ s = true := eqS_iff.2 (by simp [he])
          rw [if_pos ⟨h0, he⟩] at hn
          rw [hes] at hq
          have HN := Lib.hid hn
          clear hn hes he hD hl
          go_wp2_with (go_at_call 84; (with_reducible refine (D.go _).mono ?_); rintro e v ⟨rfl, hb⟩)
          go_ret
          rw [HN.out]
          exact ⟨rfl, hb⟩
        · have hes : eqS ⟨(dgI n).toArray⟩ s = false := by
            rw [← Bool.not_eq_true, eqS_iff]
            intro e
            exact he (by rw [← e])
          rw [if_neg (fun h => he h.2)] at hn
          rw [hes] at hq
          have HN := Lib.hid hn
          clear hn hes he hD hl
          go_wp2_with (go_at_call 84; (with_reducible refine (D.go _).mono ?_); rintro e v ⟨rfl, hb⟩)
          go_ret
          rw [HN.out]
          exact ⟨rfl, hb⟩
      · rw [if_neg (fun h => h0 h.1)] at hn
        have HN := Lib.hid hn
        clear hn hD hl
        go_wp2_with fail
        go_ret
        rw [HN.out]
        exact ⟨rfl, Below.refl _ _⟩
end Go.Proofs.YtoeinpiekfmbgaaGreatDoor

/- Layer 7: the document's Small, Head, May. -/
namespace Go.Proofs.YtoeinpiekfmbgaaGreatDoor
set_option linter.unusedVariables false
set_option linter.unusedSimpArgs false
open Go.RowKit Go.ChangeShapes Go.WideShapes Go.ChangeAt Go.Sort

/-- How many instructions there are, as the document's sum tells (it wraps where no memory holds so many). -/
def sumW (p : List Fun) : Int := p.foldl (fun n f => wrap64 (n + f.code.length)) 0
theorem sumW_snoc (p : List Fun) (k : Nat) (h : k < p.length) : sumW (p.take (k + 1)) = wrap64 (sumW (p.take k) + p[k].code.length) := by
  unfold sumW
  rw [List.take_succ_eq_append_getElem h, List.foldl_append]
  rfl
def smallP (p : List Fun) (most : Int) : Bool := decide (p.length ≤ 20) && decide (sumW p ≤ most)
set_option maxHeartbeats 1000000 in
set_option maxRecDepth 100000 in
theorem psmall_any {B : Nat} {A : Option Addr} {p : List Fun} (c : Nat) (most : Int) (w : World) (h : ProgAt w B A p) :
    Calls Tryz.prog 8 #[.slice A p.length c, .int .i64 most] w fun e w' => e = .returned (.bool (smallP p most)) ∧ w = w' := by
  have HA := Lib.hid h
  clear h
  by_cases hl : p.length ≤ 20
  · have hl2 : (p.length : Int) ≤ 20 := by omega
    have hfin : smallP p most = decide (sumW p ≤ most) := by simp [smallP, hl]
    have HF := Lib.hid hfin
    clear hfin
    go_enter Tryz.func8, Tryz.ntmps8
    go_wp2
    go_loop [5, 6] (fun n i => ∃ k : Nat, k ≤ p.length ∧ i = .int .i64 k ∧ n = .int .i64 (sumW (p.take k))) (fun _ i => p.length - (intOf i).toNat)
    case atStart => exact ⟨0, by omega, rfl, rfl⟩
    case round =>
      obtain ⟨k, hk, rfl, rfl⟩ := hrel
      by_cases hlt : k < p.length
      · obtain ⟨b, off, rfl, hbl, hc⟩ := HA.out (by omega)
        obtain ⟨_, _, _, A2, c2, c3, _⟩ := hc k hlt
        clear hc
        have ht := sumW_snoc p k hlt
        have HT := Lib.hid ht
        clear ht
        generalize sumW (p.take k) = m at *
        generalize p[k].code.length = l at *
        go_wp2
        go_round
        case rel => exact ⟨k + 1, by omega, by go_num, by rw [HT.out]⟩
        case measure => simp [intOf]; omega
      · obtain rfl : k = p.length := by omega
        rw [List.take_length] at *
        go_wp2_with fail
        all_goals
          go_ret
          rw [HF.out]
          refine ⟨ret_bool ?_, rfl⟩
          first | rfl | (rw [Bool.eq_iff_iff]; simp; done) | (rw [Bool.eq_iff_iff]; simp; omega)
  · have hl2 : ¬ (p.length : Int) ≤ 20 := by omega
    have hfin : smallP p most = false := by simp [smallP, hl]
    have HF := Lib.hid hfin
    clear hfin
    go_enter Tryz.func8, Tryz.ntmps8
    go_wp2
    go_loop [6] (fun i => i = .int .i64 0) (fun _ => 0)
    case atStart => rfl
    case round =>
      subst hrel
      go_wp2_with fail
      all_goals
        go_ret
        rw [HF.out]
        exact ⟨rfl, rfl⟩

set_option maxHeartbeats 1000000 in
theorem phead_any (a l s : Int) (v : Value) : Ct Tryz.prog 46 #[.agg #[.int .i64 a, .int .i64 l, .int .i64 s, v]] (.bool (headB a l s)) := fun w => by
  have hm := headB_iff a l s
  generalize headB a l s = m at *
  have HM := Lib.hid hm
  clear hm
  go_enter Tryz.func46, Tryz.ntmps46
  go_wp2_with fail
  all_goals
    go_ret
    refine ⟨ret_bool ?_, by go_grown⟩
    rw [Bool.eq_iff_iff, HM.out]
    simp
    try omega

set_option maxHeartbeats 2000000 in
set_option maxRecDepth 100000 in
theorem pmay_any {B : Nat} {A : Option Addr} {p : List Fun} (c : Nat) (w : World) (h : ProgAt w B A p) (hz : SizedP p) (hB : B ≤ w.heap.size) :
    Calls Tryz.prog 26 #[.slice A p.length c] w fun e w' => e = .returned (.bool (mayP p)) ∧ Below w.heap.size w w' := by
  have HA := Lib.hid h
  have HZ := Lib.hid hz.2
  have hzp := hz.1
  unfold maxLen at hzp
  clear h hz
  go_enter Tryz.func26, Tryz.ntmps26
  go_wp2
  go_loopw [3] (fun i W => ∃ k : Nat, k ≤ p.length ∧ i = .int .i64 k ∧ (∀ f ∈ p.take k, mayF f = true) ∧ Below w.heap.size w W) (fun i _ => p.length - (intOf i).toNat)
  case atStart => exact ⟨0, by omega, rfl, by simp, Below.refl _ _⟩
  case round =>
    obtain ⟨k, hk, rfl, hall, hw⟩ := hrel
    have HALL := Lib.hid hall
    clear hall
    by_cases hlt : k < p.length
    · obtain ⟨b, off, rfl, hbl, hc⟩ := (HA.out.below hw hB) (by omega)
      have hF := hc k hlt
      clear hc
      have hmem : p[k] ∈ p := List.getElem_mem hlt
      have hzf := HZ.out _ hmem
      unfold maxLen at hzf
      have htk : p.take (k + 1) = p.take k ++ [p[k]] := List.take_succ_eq_append_getElem hlt
      generalize p[k] = f at *
      have HTK := Lib.hid htk
      have HMEM := Lib.hid hmem
      clear htk hmem
      have HF := Lib.hid hF
      obtain ⟨_, _, _, A2, c2, c3, hcode⟩ := hF
      have HC := Lib.hid hcode
      clear hcode
      have hwz := hw.size
      obtain ⟨wo, rfl⟩ : ∃ wo, wo = wr := ⟨_, rfl⟩
      have hbo : b < wo.heap.size := by omega
      have hBo : B ≤ wo.heap.size := by omega
      go_wp2
      go_loopw [4] (fun i W => ∃ j : Nat, j ≤ f.code.length ∧ i = .int .i64 j ∧ (∀ x ∈ f.code.take j, mayZ x.1 x.2.1 x.2.2 = true) ∧ Below wo.heap.size wo W) (fun i _ => f.code.length - (intOf i).toNat)
      case atStart => exact ⟨0, by omega, rfl, by simp, Below.refl _ _⟩
      case round =>
        obtain ⟨j, hj, rfl, hjall, hwi⟩ := hrel
        have HJ := Lib.hid hjall
        clear hjall
        have hwiz := hwi.size
        have e3 : wr.cell? ⟨b, off + k * 4 + 3, none⟩ = some (.slice A2 f.code.length c2) := (hwi.cell hbo).trans c3
        by_cases hltj : j < f.code.length
        · obtain ⟨b2, off2, rfl, hbl2, hd⟩ := (HC.out.below hwi hBo) (by omega)
          obtain ⟨d0, d1, d2⟩ := hd j hltj
          clear hd
          have hjt : f.code.take (j + 1) = f.code.take j ++ [f.code[j]] := List.take_succ_eq_append_getElem hltj
          have hjm : f.code[j] ∈ f.code := List.getElem_mem hltj
          generalize f.code[j] = x at *
          obtain ⟨xo, xa, xb⟩ := x
          have HJT := Lib.hid hjt
          have HJM := Lib.hid hjm
          clear hjt hjm
          cases hx : mayZ xo xa xb
          · have RM := rmay_any xo xa xb
            rw [hx] at RM
            have hbad : mayP p = false := by
              rw [← Bool.not_eq_true, mayP_iff]
              intro h
              have := ((mayF_iff f).1 (h.2.2 f HMEM.out)).2.2.2 _ HJM.out
              simp only at this
              rw [hx] at this
              cases this
            have HB := Lib.hid hbad
            clear hbad hx
            go_wp2_with (go_at_call 45; (with_reducible refine (RM.go _).mono ?_); rintro e v ⟨rfl, hb⟩; replace hwi := Below.step hwi hb; clear hb)
            go_ret
            rw [HB.out]
            exact ⟨rfl, Below.step hw hwi⟩
          · have RM := rmay_any xo xa xb
            rw [hx] at RM
            have HX := Lib.hid hx
            clear hx
            go_wp2_with (go_at_call 45; (with_reducible refine (RM.go _).mono ?_); rintro e v ⟨rfl, hb⟩; replace hwi := Below.step hwi hb; clear hb)
            go_roundw
            case rel =>
              refine ⟨j + 1, by omega, by go_num, ?_, hwi⟩
              rw [HJT.out]
              intro y hy
              rcases List.mem_append.1 hy with h | h
              · exact HJ.out y h
              · simp only [List.mem_singleton] at h
                subst h
                exact HX.out
            case measure => simp [intOf]; omega
        · obtain rfl : j = f.code.length := by omega
          have hall := HJ.out
          rw [List.take_length] at hall
          have hmf : mayF f = (headB f.ar f.lo f.sl && (decide (1 ≤ f.code.length) && decide (f.code.length ≤ 200))) := by
            rw [Bool.eq_iff_iff, mayF_iff]
            constructor
            · rintro ⟨h1, h2, h3, _⟩
              simp [h1, h2, h3]
            · intro h
              simp at h
              exact ⟨h.1, h.2.1, h.2.2, hall⟩
          clear hall
          have HMF := Lib.hid hmf
          clear hmf
          have PH := phead_any f.ar f.lo f.sl (.slice A2 f.code.length c2)
          have e0 : wr.cell? ⟨b, off + k * 4, none⟩ = some (.int .i64 f.ar) := (hwi.cell hbo).trans HF.out.1
          have e1 : wr.cell? ⟨b, off + k * 4 + 1, none⟩ = some (.int .i64 f.lo) := (hwi.cell hbo).trans HF.out.2.1
          have e2 : wr.cell? ⟨b, off + k * 4 + 2, none⟩ = some (.int .i64 f.sl) := (hwi.cell hbo).trans HF.out.2.2.1
          have hbr : b < wr.heap.size := by omega
          generalize headB f.ar f.lo f.sl = hd at *
          have fin : mayF f = false → mayP p = false := fun h => by
            rw [← Bool.not_eq_true, mayP_iff]
            intro h2
            rw [h2.2.2 f HMEM.out] at h
            cases h
          have FIN := Lib.hid fin
          clear fin hltj
          cases hd
          · have hb := FIN.out (by rw [HMF.out]; rfl)
            have HB := Lib.hid hb
            clear hb
            go_wp2_with (go_at_call 46; (with_reducible refine (PH.go _).mono ?_); rintro e v ⟨rfl, hb⟩; replace hwi := Below.step hwi hb; clear hb)
            go_ret
            rw [HB.out]
            exact ⟨rfl, Below.step hw hwi⟩
          · rcases (show f.code.length < 1 ∨ 200 < f.code.length ∨ (1 ≤ f.code.length ∧ f.code.length ≤ 200) by omega) with hl | hl | ⟨hl1, hl2⟩
            · have hb := FIN.out (by rw [HMF.out]; simp; omega)
              have HB := Lib.hid hb
              have hl' : (f.code.length : Int) < 1 := by omega
              clear hb
              go_wp2_with (go_at_call 46; (with_reducible refine (PH.go _).mono ?_); rintro e v ⟨rfl, hb⟩; replace e3 := (hb.cell hbr).trans e3; replace hwi := Below.step hwi hb; clear hb)
              go_ret
              rw [HB.out]
              exact ⟨rfl, Below.step hw hwi⟩
            · have hb := FIN.out (by rw [HMF.out]; simp; omega)
              have HB := Lib.hid hb
              have hl' : (200 : Int) < f.code.length := by omega
              clear hb
              go_wp2_with (go_at_call 46; (with_reducible refine (PH.go _).mono ?_); rintro e v ⟨rfl, hb⟩; replace e3 := (hb.cell hbr).trans e3; replace hwi := Below.step hwi hb; clear hb)
              go_ret
              rw [HB.out]
              exact ⟨rfl, Below.step hw hwi⟩
            · have hg : mayF f = true := by rw [HMF.out]; simp; omega
              have HG := Lib.hid hg
              have hl1' : (1 : Int) ≤ f.code.length := by omega
              have hl2' : (f.code.length : Int) ≤ 200 := by omega
              clear hg
              go_wp2_with (go_at_call 46; (with_reducible refine (PH.go _).mono ?_); rintro e v ⟨rfl, hb⟩; replace e3 := (hb.cell hbr).trans e3; replace hwi := Below.step hwi hb; clear hb)
              go_roundw
              case rel =>
                refine ⟨k + 1, by omega, by go_num, ?_, Below.step hw hwi⟩
                rw [HTK.out]
                intro y hy
                rcases List.mem_append.1 hy with h | h
                · exact HALL.out y h
                · simp only [List.mem_singleton] at h
                  subst h
                  exact HG.out
              case measure => simp [intOf]; omega
    · obtain rfl : k = p.length := by omega
      have hm : mayP p = (decide (1 ≤ p.length) && decide (p.length ≤ 16)) := by
        have := HALL.out
        rw [List.take_length] at this
        rw [Bool.eq_iff_iff, mayP_iff]
        constructor
        · rintro ⟨h1, h2, _⟩
          simp [h1, h2]
        · intro h
          simp at h
          exact ⟨h.1, h.2, this⟩
      have HM := Lib.hid hm
      clear hm
      go_wp2_with fail
      all_goals
        go_ret
        rw [HM.out]
        refine ⟨ret_bool ?_, hw⟩
        rw [Bool.eq_iff_iff]
        simp
        try omega
end Go.Proofs.YtoeinpiekfmbgaaGreatDoor

/- Layer 7: the document's lay: a line's words and numbers. -/
namespace Go.Proofs.YtoeinpiekfmbgaaGreatDoor
set_option linter.unusedVariables false
set_option linter.unusedSimpArgs false
open Go.RowKit Go.ChangeShapes Go.WideShapes Go.ChangeAt Go.Sort

theorem addQ_bad {p : List Fun} {l w0 : List UInt8} {rest : List (List UInt8)} (h : splitL 32 l = w0 :: rest) (hb : ¬ (rest.length ≤ 3 ∧ ∀ w ∈ rest, 0 ≤ numV w)) : addQ p l = none := by
  unfold addQ lineOf
  rw [h]
  simp only
  rw [show numsW rest = none by unfold numsW; rw [if_neg hb]]
  rfl
theorem addQ_nums {p : List Fun} {l w0 : List UInt8} {rest : List (List UInt8)} (h : splitL 32 l = w0 :: rest) (hb : rest.length ≤ 3 ∧ ∀ w ∈ rest, 0 ≤ numV w) : addQ p l = (lineC (w0, rest.map numV)).bind (layL p) := by
  unfold addQ lineOf lineC
  rw [h]
  simp only
  rw [show numsW rest = some (rest.map numV) by unfold numsW; rw [if_pos hb]]
/-- The numbers as they lie. -/
def nArr (ns : List Int) : Array Value := #[.int .i64 (ns.getD 0 0), .int .i64 (ns.getD 1 0), .int .i64 (ns.getD 2 0)]
theorem nArr_get (ns : List Int) {m : Nat} (h : m < 3) : (nArr ns)[m]? = some (.int .i64 (ns.getD m 0)) := by
  match m, h with
  | 0, _ => rfl
  | 1, _ => rfl
  | 2, _ => rfl
theorem nArr_snoc (ns : List Int) (n : Int) (h : ns.length < 3) : (nArr ns).setIfInBounds ns.length (.int .i64 n) = nArr (ns ++ [n]) := by
  match ns, h with
  | [], _ => rfl
  | [a], _ => rfl
  | [a, b], _ => rfl
/-- What a line more makes of a program of the call's own. -/
def LayR (B : Nat) (w : World) (p : List Fun) (l : List UInt8) (e : Ending) (w' : World) : Prop :=
  ∃ v' b L', e = .returned (.tuple #[v', .bool b]) ∧ Below B w w' ∧ OwnL w' B v' L' ∧ (∀ q, addQ p l = some q → b = true ∧ L'.map (·.1) = q) ∧ (addQ p l = none → b = false)
theorem LayR.no {B : Nat} {w w' : World} {v : Value} {L : List (Fun × Value)} {p : List Fun} {l : List UInt8} (h : OwnL w B v L) (hB : B ≤ w.heap.size) (hb : Below w.heap.size w w') (hq : addQ p l = none) : LayR B w p l (.returned (.tuple #[v, .bool false])) w' :=
  ⟨v, false, L, rfl, hb.mono hB, h.below hb, fun q h => (by rw [hq] at h; cases h), fun _ => rfl⟩

theorem psplit_cells {l w0 : List UInt8} {rest : List (List UInt8)} (c : UInt8) (h : splitL c l = w0 :: rest) (hl : l.length ≤ 1000000) (w : World) :
    Calls Tryz.prog 33 #[.string ⟨l.toArray⟩, .int .u8 (c.toNat : Int)] w fun e w' => ∃ g cs, e = .returned (.slice (some ⟨g, 0, none⟩) (rest.length + 1) cs) ∧ w.heap.size ≤ g ∧ g < w'.heap.size ∧
      (∀ j (hj : j < (w0 :: rest).length), w'.cell? ⟨g, j, none⟩ = some (.string ⟨((w0 :: rest)[j]).toArray⟩)) ∧ Below w.heap.size w w' := by
  have S := psplit_any ⟨l.toArray⟩ c w (by rw [strb_size]; exact hl)
  rw [show (⟨l.toArray⟩ : ByteArray).data.toList = l by simp, h] at S
  refine S.mono fun e w' ⟨v, he, hv, hb⟩ => ?_
  subst he
  obtain ⟨A, cs, rfl, hcs⟩ := hv.form
  obtain ⟨g, rfl, hg1, hg2, hcell⟩ := hcs (by simp)
  refine ⟨g, cs, by rw [List.length_map]; rfl, hg1, hg2, fun j hj => ?_, hb⟩
  rw [hcell j (by rw [List.length_map]; exact hj), List.getElem_map]
  rfl

/-- What is kept on the way: the numbers, the first word. -/
theorem keepL {W0 W : World} {N g : Nat} {t : TypeId} {a b c x : Value} (hN : Held W0 N t #[a, b, c]) (hg : W0.cell? ⟨g, 0, none⟩ = some x) (hb : Below W0.heap.size W0 W) :
    Below W0.heap.size W0 W ∧ W.cell? ⟨N, 0, none⟩ = some a ∧ W.cell? ⟨N, 1, none⟩ = some b ∧ W.cell? ⟨N, 2, none⟩ = some c ∧ W.cell? ⟨g, 0, none⟩ = some x :=
  ⟨hb, (hN.below hb).cell 0, (hN.below hb).cell 1, (hN.below hb).cell 2, (hb.cell (p := ⟨g, 0, none⟩) (block_lt_of_cell hg)).trans hg⟩
/-- Behind 'x := ..': where the instruction lies, and what it holds. -/
def MidI (W0 : World) (o a b : Int) (v : Value) (wx : World) : Prop :=
  ∃ k : Nat, v = .pointer (some ⟨k, 0, none⟩) ∧ wx.cell? ⟨k, 0, none⟩ = some (.int .i64 o) ∧ wx.cell? ⟨k, 1, none⟩ = some (.int .i64 a) ∧ wx.cell? ⟨k, 2, none⟩ = some (.int .i64 b) ∧ Below W0.heap.size W0 wx

/-- The last function has a code more: how it is stored whole. -/
theorem own_lay {B gp capp : Nat} {L0 : List (Fun × Value)} {f : Fun} {cf cv' : Value} {x : Ins} {u w2 : World} (h : OwnL u B (.slice (some ⟨gp, 0, none⟩) (L0.length + 1) capp) (L0 ++ [(f, cf)])) (hB : B ≤ u.heap.size)
    (ho : OwnC w2 B cv' (f.code ++ [x])) (hg : u.grownBy w2 cf.ownBlock) (hl : ∀ b, cv'.ownBlock = some b → cf.ownBlock = some b ∨ u.heap.size ≤ b) :
    (w2.cell? ⟨gp, L0.length * 4, none⟩ = some (.int .i64 f.ar) ∧ w2.cell? ⟨gp, L0.length * 4 + 1, none⟩ = some (.int .i64 f.lo) ∧ w2.cell? ⟨gp, L0.length * 4 + 2, none⟩ = some (.int .i64 f.sl) ∧ w2.cell? ⟨gp, L0.length * 4 + 3, none⟩ = some cf ∧ (∀ i, w2.frozen? ⟨gp, i, none⟩ = false) ∧ gp < u.heap.size) ∧
      OwnL ((((w2.setCell ⟨gp, L0.length * 4, none⟩ (.int .i64 f.ar)).setCell ⟨gp, L0.length * 4 + 1, none⟩ (.int .i64 f.lo)).setCell ⟨gp, L0.length * 4 + 2, none⟩ (.int .i64 f.sl)).setCell ⟨gp, L0.length * 4 + 3, none⟩ cv') B (.slice (some ⟨gp, 0, none⟩) (L0.length + 1) capp) (L0 ++ [(⟨f.ar, f.lo, f.sl, f.code ++ [x]⟩, cv')]) ∧
      Below B u ((((w2.setCell ⟨gp, L0.length * 4, none⟩ (.int .i64 f.ar)).setCell ⟨gp, L0.length * 4 + 1, none⟩ (.int .i64 f.lo)).setCell ⟨gp, L0.length * 4 + 2, none⟩ (.int .i64 f.sl)).setCell ⟨gp, L0.length * 4 + 3, none⟩ cv') := by
  obtain ⟨hCo, hcf, hdis⟩ := h.2.init
  have hrow := h.1
  rw [List.length_append, List.length_singleton] at hrow
  obtain ⟨gp', capp', e, hgB, hgl, k0, k1, k2, k3, kf⟩ := h.last
  simp only [Value.slice.injEq, Option.some.injEq, Addr.mk.injEq, and_true, true_and] at e
  obtain ⟨rfl, rfl⟩ := e
  have hne : cf.ownBlock ≠ some gp := fun e => own_ne hcf hrow gp e rfl
  have hrow2 := hrow.kept hg (.inr (fun e => hne e.symm))
  have hc2 : Codes w2 B L0 := hCo.grown hg fun y hy b hb e => hdis y hy b hb e
  have hd2 : ∀ y ∈ L0, ∀ b, y.2.ownBlock = some b → cv'.ownBlock ≠ some b := fun y hy b hb e => by
    rcases hl b e with h1 | h1
    · exact hdis y hy b hb h1
    · have := ((hCo.1 y hy).lt b hb).2
      omega
  have hm := OwnL.set (f' := ⟨f.ar, f.lo, f.sl, f.code ++ [x]⟩) hrow2 hc2 ho hd2
  have hfar : some gp ≠ cf.ownBlock := fun e => hne e.symm
  refine ⟨⟨hg.cell k0 hfar, hg.cell k1 hfar, hg.cell k2 hfar, hg.cell k3 hfar, fun i => ?_, hgl⟩, hm, ?_⟩
  · have := kf i
    rw [World.frozen?_of_block (a := ⟨gp, i, none⟩) (hg.block gp hgl hfar)]
    exact this
  · exact (((((Below.refl B u).grown hg hB (fun b hb => (hcf.lt b hb).1)).setCell (by show B ≤ gp; omega) _).setCell (by show B ≤ gp; omega) _).setCell (by show B ≤ gp; omega) _).setCell (by show B ≤ gp; omega) _
/-- Slices that are the same. -/
theorem slice_inj {A A' : Option Addr} {n n' c c' : Nat} (h : Value.slice A n c = .slice A' n' c') : A = A' ∧ n = n' ∧ c = c' := by
  cases h
  exact ⟨rfl, rfl, rfl⟩

set_option maxHeartbeats 8000000 in
set_option maxRecDepth 100000 in
theorem play_any {B : Nat} {v : Value} {L : List (Fun × Value)} {l : List UInt8} (hl : l.length ≤ 1000000) (w : World) (h : OwnL w B v L) (hB : B ≤ w.heap.size) (hn : L.length ≤ 16) (hc : ∀ x ∈ L, x.1.code.length ≤ 200) :
    Calls Tryz.prog 34 #[v, .string ⟨l.toArray⟩] w fun e w' => LayR B w (L.map (·.1)) l e w' := by
  obtain ⟨Av, cv, rfl, _⟩ := h.prog
  have HO := Lib.hid h
  have HC := Lib.hid hc
  cases hs : splitL 32 l with
  | nil => exact absurd hs (splitL_ne 32 l)
  | cons w0 rest =>
    have hlen : (w0 :: rest).length ≤ 1000001 := by
      rw [← hs]
      have h1 := joinC_len 32 (splitL 32 l)
      rw [join_split] at h1
      omega
    have S := Lib.hid (psplit_cells 32 hs hl w)
    rw [show ((32 : UInt8).toNat : Int) = 32 from rfl] at S
    have HB := Lib.hid (fun h => addQ_bad (p := L.map (·.1)) hs h)
    have HG := Lib.hid (fun h => addQ_nums (p := L.map (·.1)) hs h)
    generalize hnL : L.length = nL at *
    have HNL0 := Lib.hid hnL
    clear h hc hs hnL
    go_enter Tryz.func34, Tryz.ntmps34
    go_wp2_with (go_at_call 33; (with_reducible refine S.out.mono ?_); rintro e u ⟨g, cs, rfl, hg1, hg2, hcell, hbu⟩)
    have HCE := Lib.hid hcell
    clear hcell
    go_loopw [8] (fun iv wr => ∃ (m : Nat) (ns : List Int), iv = .int .i64 ((m : Int) + 1) ∧ m ≤ rest.length ∧ ns.length = m ∧ ns = (rest.take m).map numV ∧ m ≤ 3 ∧ (∀ n ∈ ns, 0 ≤ n) ∧ Below u.heap.size u wr ∧ Held wr u.heap.size 3 (nArr ns)) (fun iv _ => rest.length + 1 - (intOf iv).toNat)
    case atStart => exact ⟨0, [], rfl, by omega, rfl, rfl, by omega, by simp, (Below.refl _ _).alloc (Nat.le_refl _) _, Held.new u 3 (nArr [])⟩
    case round =>
      obtain ⟨m, ns, rfl, hm, hnl, hns, hm3, hpos, hbr, hH⟩ := hrel
      have hgr : g < u.heap.size := hg2
      by_cases hlt : m < rest.length
      · have c0 : wr.cell? ⟨g, m + 1, none⟩ = some (.string ⟨(rest[m]).toArray⟩) := (hbr.cell (p := ⟨g, m + 1, none⟩) hgr).trans (HCE.out (m + 1) (by simpa using hlt))
        have NB := pnumber_any ⟨(rest[m]).toArray⟩
        rw [show (⟨(rest[m]).toArray⟩ : ByteArray).data.toList = rest[m] by simp] at NB
        have htk : rest.take (m + 1) = rest.take m ++ [rest[m]] := List.take_succ_eq_append_getElem hlt
        have hmem : rest[m] ∈ rest := List.getElem_mem hlt
        have hbad : ¬ (0 ≤ numV rest[m] ∧ m < 3) → addQ (L.map (·.1)) l = none := fun h => HB.out (fun h2 => h ⟨h2.2 _ hmem, by omega⟩)
        have HBAD := Lib.hid hbad
        have HTK := Lib.hid htk
        generalize rest[m] = x at *
        have hsz := hbr.size
        have hNl := hH.lt
        have hz0 := hbu.size
        clear htk hmem hbad
        by_cases hx : 0 ≤ numV x ∧ m < 3
        · obtain ⟨hx0, hx3⟩ := hx
          have c1 : wr.cell? ⟨u.heap.size, m, none⟩ = some (.int .i64 (ns.getD m 0)) := (hH.cell m).trans (nArr_get ns hx3)
          have f1 := hH.fz m
          have HH := Lib.hid hH
          have HNS := Lib.hid hns
          have HPOS := Lib.hid hpos
          have HNL := Lib.hid hnl
          generalize ns.getD m 0 = y at c1
          generalize hnv : numV x = nv at *
          have HNV := Lib.hid hnv
          clear hH hns hpos hnl hnv
          go_wp2_with (go_at_call 59; (with_reducible refine (NB.go _).mono ?_); rintro e v2 ⟨rfl, hb2⟩; have c2 := (hb2.cell (p := ⟨u.heap.size, m, none⟩) hNl).trans c1; have f2 := (hb2.frozen (p := ⟨u.heap.size, m, none⟩) hNl).trans f1; have hz2 := hb2.size)
          go_roundw
          case rel =>
            refine ⟨m + 1, ns ++ [nv], by go_num, by omega, by rw [List.length_append, HNL.out]; rfl, by rw [HTK.out, List.map_append, ← HNS.out, ← HNV.out]; rfl, by omega, fun n hn => ?_, (Below.step hbr hb2).setCell (by show u.heap.size ≤ u.heap.size; omega) _, ?_⟩
            · rcases List.mem_append.1 hn with h | h
              · exact HPOS.out n h
              · simp only [List.mem_singleton] at h
                omega
            · have := (HH.out.below hb2).set_at m (.int .i64 nv)
              rw [← HNL.out, nArr_snoc ns nv (by rw [HNL.out]; exact hx3), HNL.out] at this
              exact this
          case measure => simp [intOf]; omega
        · have hq := HBAD.out hx
          have HQ := Lib.hid hq
          have hm4 : numV x < 0 ∨ (0 ≤ numV x ∧ m = 3) := by omega
          clear hq hx hns hpos hnl hH
          rcases hm4 with h1 | ⟨h1, rfl⟩
          all_goals
            go_wp2_with (go_at_call 59; (with_reducible refine (NB.go _).mono ?_); rintro e v2 ⟨rfl, hb2⟩)
            go_returns
            exact LayR.no HO.out hB (Below.step (Below.step hbu hbr) hb2) HQ.out
      · obtain rfl : m = rest.length := by omega
        rw [List.take_length] at hns
        have hok : rest.length ≤ 3 ∧ ∀ w ∈ rest, 0 ≤ numV w := ⟨hm3, fun w hw => hpos _ (by rw [hns]; exact List.mem_map.2 ⟨w, hw, rfl⟩)⟩
        have hq := HG.out hok
        rw [← hns] at hq
        have hbw : Below w.heap.size w wr := Below.step hbu hbr
        have c0 : wr.cell? ⟨g, 0, none⟩ = some (.string ⟨w0.toArray⟩) := (hbr.cell (p := ⟨g, 0, none⟩) hgr).trans (HCE.out 0 (by simp))
        have HOr := Lib.hid (HO.out.below hbw)
        have hBr : B ≤ wr.heap.size := Nat.le_trans hB hbw.size
        have HNo := Lib.hid (fun w' (h : Below wr.heap.size wr w') h2 => LayR.no HO.out hB (Below.step hbw h) (h2 : addQ (L.map (·.1)) l = none))
        clear hok hns hpos hbr HG HB HCE S
        by_cases hf : w0 = funcW
        · subst hf
          rw [lineC_head rfl] at hq
          rw [show (⟨funcW.toArray⟩ : ByteArray) = ⟨#[102, 117, 110, 99]⟩ from rfl] at c0
          have hH2 : Held wr u.heap.size 3 #[.int .i64 (ns.getD 0 0), .int .i64 (ns.getD 1 0), .int .i64 (ns.getD 2 0)] := hH
          rw [hnl] at hq
          have HQ := Lib.hid hq
          have n0 := hH2.cell 0
          have n1 := hH2.cell 1
          have n2 := hH2.cell 2
          simp at n0 n1 n2
          generalize ns.getD 0 0 = xa at *
          generalize ns.getD 1 0 = xb at *
          generalize ns.getD 2 0 = xc at *
          have HX := Lib.hid hH2
          have C0 := Lib.hid c0
          clear hq hH hH2
          go_upto_region 12 with (fail)
          clear n0 n1 n2 c0
          go_region_held3 (fun W => Below wr.heap.size wr W ∧ W.cell? ⟨u.heap.size, 0, none⟩ = some (.int .i64 xa) ∧ W.cell? ⟨u.heap.size, 1, none⟩ = some (.int .i64 xb) ∧ W.cell? ⟨u.heap.size, 2, none⟩ = some (.int .i64 xc) ∧ W.cell? ⟨g, 0, none⟩ = some (.string ⟨#[102, 117, 110, 99]⟩))
            (first
              | exact keepL HX.out C0.out (Below.refl _ _).drew
              | exact keepL HX.out C0.out ((Below.refl _ _).alloc (Nat.le_refl _) _).drew
              | exact keepL HX.out C0.out (Below.step (And.left (by assumption)) (by assumption))
              | exact keepL HX.out C0.out (Below.drew (And.left (by assumption)))
              | exact keepL HX.out C0.out (Below.alloc (And.left (by assumption)) (Below.size (And.left (by assumption))) _)
              | go_keep)
            (fail)
          have hF : Held (wr.alloc (.cells #[.int .i64 xa, .int .i64 xb, .int .i64 xc, .slice none 0 0] 57)).drew wr.heap.size 57 #[.int .i64 xa, .int .i64 xb, .int .i64 xc, .slice none 0 0] := held_drew (Held.new wr _ _)
          have hbx : Below wr.heap.size wr (wr.alloc (.cells #[.int .i64 xa, .int .i64 xb, .int .i64 xc, .slice none 0 0] 57)).drew := ((Below.refl wr.heap.size wr).alloc (Nat.le_refl _) _).drew
          generalize (wr.alloc (.cells #[.int .i64 xa, .int .i64 xb, .int .i64 xc, .slice none 0 0] 57)).drew = wc at *
          have f0 := hF.cell 0
          have f1 := hF.cell 1
          have f2 := hF.cell 2
          have f3 := hF.cell 3
          have fl := hF.lt
          simp at f0 f1 f2 f3
          have HOx := Lib.hid (HOr.out.below hbx)
          have hwx := hbw.trans (hbx.mono hbw.size)
          have CH := phead_any xa xb xc (.slice none 0 0)
          by_cases h3 : rest.length = 3
          · have e1 : (((rest.length + 1 : Nat) : Int) != 4) = false := by simp; omega
            have e2 : ((rest.length : Int) + 1 != 4) = false := by simp; omega
            have hq := HQ.out
            clear HQ
            cases hhd : headB xa xb xc with
            | false =>
              rw [hhd] at CH hq
              rw [if_neg (fun h => by cases h.2)] at hq
              have HQ2 := Lib.hid hq
              clear hq hnl h3 hhd
              go_wp2_with (go_at_call 46; (with_reducible refine (CH.go _).mono ?_); rintro e v3 ⟨rfl, hb3⟩)
              go_returns
              exact HNo.out _ (Below.step hbx hb3) HQ2.out
            | true =>
              rw [hhd] at CH hq
              rw [if_pos ⟨h3, rfl⟩] at hq
              have hq : addQ (L.map (·.1)) l = layH (L.map (·.1)) xa xb xc := hq
              clear hnl h3 hhd
              have hBc := Nat.le_trans hBr hbx.size
              rcases own_split L with rfl | ⟨L0, ⟨f, cf⟩, rfl⟩
              · have h0 := HNL0.out
                simp only [List.length_nil] at h0
                subst h0
                have hq2 : addQ (([] : List (Fun × Value)).map (·.1)) l = some [⟨xa, xb, xc, []⟩] := by rw [hq]; rfl
                have HQ2 := Lib.hid hq2
                clear hq hq2
                go_wp2_with (first
                  | (go_at_call 46; (with_reducible refine (CH.go _).mono ?_); rintro e v3 ⟨rfl, hb3⟩; have y0 := (hb3.cell (p := ⟨wr.heap.size, 0, none⟩) fl).trans f0; have y1 := (hb3.cell (p := ⟨wr.heap.size, 1, none⟩) fl).trans f1; have y2 := (hb3.cell (p := ⟨wr.heap.size, 2, none⟩) fl).trans f2; have y3 := (hb3.cell (p := ⟨wr.heap.size, 3, none⟩) fl).trans f3; have HO3 := Lib.hid (HOx.out.below hb3); have hB3 := Nat.le_trans hBc hb3.size)
                  | (at_builtin; refine wpList_append_fun2 _ Tryz.underlying23 rfl _ _ rfl B _ _ [] ⟨xa, xb, xc, []⟩ (.slice none 0 0) rfl rfl HO3.out (OwnC.nil _ _) (fun _ _ _ _ => by simp [Value.ownBlock]) (by show Value.slice (some ⟨_, 0, none⟩) 1 1 = _; simp) (by simp) hB3 ?_; intro v' w2 ho2 hg2; have HF2 := Lib.hid (And.intro ho2 hg2); clear ho2 hg2))
                go_returns
                refine ⟨_, true, _, rfl, ((hwx.mono hB).trans (hb3.mono hBc)).trans ((Below.refl B v3).grown HF2.out.2 hB3 (fun b e => (HO3.out.1.lt b e).1)), HF2.out.1, fun q h => ?_, fun h => ?_⟩
                · rw [HQ2.out] at h
                  cases h
                  exact ⟨rfl, rfl⟩
                · rw [HQ2.out] at h
                  cases h
              · have h0 := HNL0.out
                rw [List.length_append, List.length_singleton] at h0
                subst h0
                rw [List.map_append] at hq
                have hq : addQ ((L0 ++ [(f, cf)]).map (·.1)) l = layH (L0.map (·.1) ++ [f]) xa xb xc := by rw [List.map_append]; exact hq
                obtain ⟨gp, cap, e, _⟩ := HOx.out.last
                obtain ⟨rfl, _, rfl⟩ := slice_inj e
                have hoc : OwnC wc B cf f.code := HOx.out.2.1 (f, cf) (by simp)
                obtain ⟨Ac, cc, rfl, _⟩ := hoc.code
                have eL : ((L0.length + 1 : Nat) : Int) - 1 = (L0.length : Int) := by omega
                rw [eL]
                obtain ⟨_, _, e3, _, hgl, _, _, _, k3, _⟩ := HOx.out.last
                obtain ⟨e3, _, _⟩ := slice_inj e3
                cases e3
                clear e eL hoc
                have hlm := hn
                by_cases hc0 : f.code = []
                · have hq2 : addQ ((L0 ++ [(f, Value.slice Ac f.code.length cc)]).map (·.1)) l = none := by
                    rw [hq]
                    exact layH_no (.inl (by rw [openR_snoc, hc0]; rfl))
                  have HQ2 := Lib.hid hq2
                  have hz : (f.code.length : Int) = 0 := by rw [hc0]; rfl
                  have hz2 : ((f.code.length : Int) == 0) = true := by simp [hz]
                  clear hq hq2 hc0 hz
                  go_wp2_with (go_at_call 46; (with_reducible refine (CH.go _).mono ?_); rintro e v3 ⟨rfl, hb3⟩; have k4 := (hb3.cell (p := ⟨gp, L0.length * 4 + 3, none⟩) hgl).trans k3; have hg4 := block_lt_of_cell k4)
                  go_returns
                  exact HNo.out _ (Below.step hbx hb3) HQ2.out
                · have hz : 0 < f.code.length := by
                    rcases Nat.eq_zero_or_pos f.code.length with h | h
                    · exact absurd (List.eq_nil_of_length_eq_zero h) hc0
                    · exact h
                  have hz2 : ((f.code.length : Int) == 0) = false := by simp; omega
                  by_cases h16 : L0.length + 1 = 16
                  · have hq2 : addQ ((L0 ++ [(f, Value.slice Ac f.code.length cc)]).map (·.1)) l = none := by
                      rw [hq]
                      exact layH_no (.inr (by rw [List.length_append, List.length_map]; exact h16))
                    have HQ2 := Lib.hid hq2
                    have hz3 : (((L0.length + 1 : Nat) : Int) == 16) = true := by simp; omega
                    have hz4 : ((L0.length : Int) + 1 == 16) = true := by simp; omega
                    clear hq hq2 hc0 hz h16
                    go_wp2_with (go_at_call 46; (with_reducible refine (CH.go _).mono ?_); rintro e v3 ⟨rfl, hb3⟩; have k4 := (hb3.cell (p := ⟨gp, L0.length * 4 + 3, none⟩) hgl).trans k3; have hg4 := block_lt_of_cell k4)
                    go_returns
                    exact HNo.out _ (Below.step hbx hb3) HQ2.out
                  · have hq2 : addQ ((L0 ++ [(f, Value.slice Ac f.code.length cc)]).map (·.1)) l = some ((L0.map (·.1) ++ [f]) ++ [⟨xa, xb, xc, []⟩]) := by
                      rw [hq]
                      unfold layH
                      rw [if_pos ⟨by rw [openR_snoc]; simpa using hc0, by rw [List.length_append, List.length_map]; exact h16⟩]
                    have HQ2 := Lib.hid hq2
                    have hz3 : (((L0.length + 1 : Nat) : Int) == 16) = false := by simp; omega
                    have hz4 : ((L0.length : Int) + 1 == 16) = false := by simp; omega
                    clear hq hq2 hc0 hz h16
                    go_wp2_with (first
                      | (go_at_call 46; (with_reducible refine (CH.go _).mono ?_); rintro e v3 ⟨rfl, hb3⟩; have k4 := (hb3.cell (p := ⟨gp, L0.length * 4 + 3, none⟩) hgl).trans k3; have hg4 := block_lt_of_cell k4; have y0 := (hb3.cell (p := ⟨wr.heap.size, 0, none⟩) fl).trans f0; have y1 := (hb3.cell (p := ⟨wr.heap.size, 1, none⟩) fl).trans f1; have y2 := (hb3.cell (p := ⟨wr.heap.size, 2, none⟩) fl).trans f2; have y3 := (hb3.cell (p := ⟨wr.heap.size, 3, none⟩) fl).trans f3; have HO3 := Lib.hid (HOx.out.below hb3); have hB3 := Nat.le_trans hBc hb3.size)
                      | (at_builtin; refine wpList_append_fun2 _ Tryz.underlying23 rfl _ _ rfl B _ _ (L0 ++ [(f, Value.slice Ac f.code.length cc)]) ⟨xa, xb, xc, []⟩ (.slice none 0 0) rfl rfl HO3.out (OwnC.nil _ _) (fun _ _ _ _ => by simp [Value.ownBlock]) (by show Value.slice (some ⟨_, 0, none⟩) 1 1 = _; simp) (by rw [List.length_append, List.length_singleton]; omega) hB3 ?_; intro v' w2 ho2 hg2; have HF2 := Lib.hid (And.intro ho2 hg2); clear ho2 hg2))
                    go_returns
                    refine ⟨_, true, _, rfl, ((hwx.mono hB).trans (hb3.mono hBc)).trans ((Below.refl B v3).grown HF2.out.2 hB3 (fun b e => (HO3.out.1.lt b e).1)), HF2.out.1, fun q h => ?_, fun h => ?_⟩
                    · rw [HQ2.out] at h
                      cases h
                      exact ⟨rfl, by simp⟩
                    · rw [HQ2.out] at h
                      cases h
          · have e1 : (((rest.length + 1 : Nat) : Int) != 4) = true := by simp; omega
            have e2 : ((rest.length : Int) + 1 != 4) = true := by simp; omega
            have hq := HQ.out
            rw [if_neg (fun h => h3 h.1)] at hq
            have HQ2 := Lib.hid hq
            clear hq HQ hnl h3
            go_wp2_with fail
            go_returns
            exact HNo.out _ hbx HQ2.out
        · rw [lineC_ins hf] at hq
          have hne : (w0 == [102, 117, 110, 99]) = false := by simpa [funcW] using hf
          have hH2 : Held wr u.heap.size 3 #[.int .i64 (ns.getD 0 0), .int .i64 (ns.getD 1 0), .int .i64 (ns.getD 2 0)] := hH
          have RF := rfind_any ⟨w0.toArray⟩
          have RM := rmay_any (rfnd ⟨w0.toArray⟩) (ns.getD 0 0) (ns.getD 1 0)
          have RX := rfields_any (rfnd ⟨w0.toArray⟩)
          rw [hnl] at hq
          have HQ := Lib.hid hq
          have HX := Lib.hid hH2
          have n0 := hH2.cell 0
          have n1 := hH2.cell 1
          have n2 := hH2.cell 2
          simp at n0 n1 n2
          generalize rfnd ⟨w0.toArray⟩ = o at *
          generalize ns.getD 0 0 = xa at *
          generalize ns.getD 1 0 = xb at *
          generalize ns.getD 2 0 = xc at *
          have C0 := Lib.hid c0
          clear hq hH hH2 hf
          go_upto_region 16 with (fail)
          clear n0 n1 n2 c0
          go_cut [12] (fun v12 wx => MidI wr o xa xb v12 wx)
          case first =>
            go_region_held3 (fun W => Below wr.heap.size wr W ∧ W.cell? ⟨u.heap.size, 0, none⟩ = some (.int .i64 xa) ∧ W.cell? ⟨u.heap.size, 1, none⟩ = some (.int .i64 xb) ∧ W.cell? ⟨u.heap.size, 2, none⟩ = some (.int .i64 xc) ∧ W.cell? ⟨g, 0, none⟩ = some (.string ⟨w0.toArray⟩))
              (first
                | exact keepL HX.out C0.out (Below.refl _ _).drew
                | exact keepL HX.out C0.out (Below.step (And.left (by assumption)) (by assumption))
                | exact keepL HX.out C0.out (Below.drew (And.left (by assumption)))
                | exact keepL HX.out C0.out (Below.alloc (And.left (by assumption)) (Below.size (And.left (by assumption))) _)
                | exact keepL HX.out C0.out (below_set3 (And.left (by assumption)) (by first | omega | (simp; omega)))
                | exact keepL HX.out C0.out (below_set3 (Below.drew (And.left (by assumption))) (by first | omega | (simp; omega)))
                | go_keep)
              (first
                | (go_at_call 60; (with_reducible refine (RF.go _).mono ?_); rintro e v2 ⟨rfl, hb⟩; have hq := keepL HX.out C0.out (Below.step (Below.refl _ _).drew hb); have hz := hq.1.size)
                | (go_at_call 60; (with_reducible refine (RF.go _).mono ?_); rintro e v2 ⟨rfl, hb⟩; have hq := keepL HX.out C0.out (Below.step (And.left (by assumption)) hb); have hz := hq.1.size
                   (try (first | replace n3 := n3.below hb | replace n3 := (n3.alloc _).below hb); try (obtain ⟨_, _, _, _, _, _⟩ := n3.three; have := n3.lt; have := Nat.ne_of_lt n3.lt))
                   (first
                     | (have n3 := (held_drew (Held.new _ _ _)).below hb; obtain ⟨_, _, _, _, _, _⟩ := n3.three; have := n3.lt; have := Nat.ne_of_lt n3.lt)
                     | (have n3 := (Held.new _ _ _).below hb; obtain ⟨_, _, _, _, _, _⟩ := n3.three; have := n3.lt; have := Nat.ne_of_lt n3.lt)
                     | skip)))
            all_goals
              go_wp2_with fail
              go_meet
              case rel =>
                refine ⟨_, rfl, ?_, ?_, ?_, And.left (by assumption)⟩
                all_goals first | (simp [go_sem]; done) | (simp [go_sem, *]; done)
          case rest =>
            obtain ⟨k, rfl, x0, x1, x2, hbx⟩ := hcut
            have xl := block_lt_of_cell x0
            simp at xl
            have hf2 : 0 ≤ (rz o).f ∧ (rz o).f ≤ 2 := by
              rcases okZ_cases o with ⟨j, hj, e⟩ | h
              · rw [e, rz_in hj]
                have := row_ok j hj
                omega
              · rw [rz_out h]
                decide
            generalize (rz o).f = ff at *
            have HOx := Lib.hid (HOr.out.below hbx)
            have hwx := hbw.trans (hbx.mono hbw.size)
            cases hm : mayZ o xa xb with
            | false =>
              rw [hm] at RM HQ
              have hq := HQ.out
              rw [if_neg (fun h => by cases h.1)] at hq
              have HQ2 := Lib.hid hq
              clear hq HQ
              go_wp2_with (go_at_call 45; (with_reducible refine (RM.go _).mono ?_); rintro e v3 ⟨rfl, hb3⟩)
              go_returns
              exact HNo.out _ (Below.step hbx hb3) HQ2.out
            | true =>
              rw [hm] at RM HQ
              by_cases hlf : (rest.length : Int) = ff
              · have hq := HQ.out
                rw [if_pos ⟨rfl, hlf⟩] at hq
                have hq : addQ (L.map (·.1)) l = layI (L.map (·.1)) o xa xb := hq
                have e1 : (((rest.length + 1 : Nat) : Int) != 1 + ff) = false := by simp; omega
                have e2 : ((rest.length : Int) + 1 != 1 + ff) = false := by simp; omega
                clear HQ hlf hnl
                rcases own_split L with rfl | ⟨L0, ⟨f, cf⟩, rfl⟩
                · have h0 := HNL0.out
                  simp only [List.length_nil] at h0
                  subst h0
                  have HQ2 := Lib.hid (show addQ (([] : List (Fun × Value)).map (·.1)) l = none from hq)
                  clear hq
                  go_wp2_with (first
                    | (go_at_call 45; (with_reducible refine (RM.go _).mono ?_); rintro e v3 ⟨rfl, hb3⟩; have y0 := (hb3.cell (p := ⟨k, 0, none⟩) xl).trans x0)
                    | (go_at_call 61; (with_reducible refine (RX.go _).mono ?_); rintro e v4 ⟨rfl, rfl⟩))
                  go_returns
                  exact HNo.out _ (Below.step hbx hb3) HQ2.out
                · have h0 := HNL0.out
                  rw [List.length_append, List.length_singleton] at h0
                  subst h0
                  rw [List.map_append] at hq
                  have hq : addQ ((L0 ++ [(f, cf)]).map (·.1)) l = layI (L0.map (·.1) ++ [f]) o xa xb := by rw [List.map_append]; exact hq
                  rw [layI_snoc] at hq
                  have hfl := HC.out (f, cf) (by simp)
                  simp only at hfl
                  obtain ⟨gp, cap, e, _⟩ := HOx.out.last
                  obtain ⟨rfl, _, rfl⟩ := slice_inj e
                  have hoc : OwnC wc B cf f.code := HOx.out.2.1 (f, cf) (by simp)
                  obtain ⟨Ac, cc, rfl, _⟩ := hoc.code
                  have hm16 : L0.length ≤ 16 := by omega
                  have eL : ((L0.length + 1 : Nat) : Int) - 1 = (L0.length : Int) := by omega
                  rw [eL]
                  obtain ⟨_, _, e3, _, hgl, k0, k1, k2, k3, kf⟩ := HOx.out.last
                  obtain ⟨e3, _, _⟩ := slice_inj e3
                  cases e3
                  clear e eL
                  by_cases h200 : f.code.length = 200
                  · rw [if_pos h200] at hq
                    have HQ2 := Lib.hid hq
                    have hq2 : ((f.code.length : Int) == 200) = true := by simp; omega
                    clear hq
                    go_wp2_with (first
                      | (go_at_call 45; (with_reducible refine (RM.go _).mono ?_); rintro e v3 ⟨rfl, hb3⟩; have y0 := (hb3.cell (p := ⟨k, 0, none⟩) xl).trans x0; have k4 := (hb3.cell (p := ⟨gp, L0.length * 4 + 3, none⟩) hgl).trans k3; have hg4 := block_lt_of_cell k4)
                      | (go_at_call 61; (with_reducible refine (RX.go _).mono ?_); rintro e v4 ⟨rfl, rfl⟩))
                    go_returns
                    exact HNo.out _ (Below.step hbx hb3) HQ2.out
                  · rw [if_neg h200] at hq
                    have HQ2 := Lib.hid hq
                    have hq2 : ((f.code.length : Int) == 200) = false := by simp; omega
                    have HOC := Lib.hid hoc
                    clear hq hoc
                    go_wp2_with (first
                      | (go_at_call 45; (with_reducible refine (RM.go _).mono ?_); rintro e v3 ⟨rfl, hb3⟩; have y0 := (hb3.cell (p := ⟨k, 0, none⟩) xl).trans x0; have y1 := (hb3.cell (p := ⟨k, 1, none⟩) xl).trans x1; have y2 := (hb3.cell (p := ⟨k, 2, none⟩) xl).trans x2; have xl3 := block_lt_of_cell y0; have k4 := (hb3.cell (p := ⟨gp, L0.length * 4 + 3, none⟩) hgl).trans k3; have j0 := (hb3.cell (p := ⟨gp, L0.length * 4, none⟩) hgl).trans k0; have j1 := (hb3.cell (p := ⟨gp, L0.length * 4 + 1, none⟩) hgl).trans k1; have j2 := (hb3.cell (p := ⟨gp, L0.length * 4 + 2, none⟩) hgl).trans k2; have hg4 := block_lt_of_cell k4; have HO3 := Lib.hid (HOx.out.below hb3); have HC3 := Lib.hid (HOC.out.below hb3); have hB3 := Nat.le_trans hBr (Below.step hbx hb3).size)
                      | (go_at_call 61; (with_reducible refine (RX.go _).mono ?_); rintro e v4 ⟨rfl, rfl⟩)
                      | (at_builtin; refine wpList_append_ins rfl _ _ rfl B _ _ f.code (o, xa, xb) rfl rfl (HC3.out.below ((Below.refl _ _).alloc (Nat.le_refl _) _)) (by show Value.slice (some ⟨_, 0, none⟩) 1 1 = _; simp) (by omega) (by simp; omega) ?_; intro v' w2 ho2 hg2 hl2; obtain ⟨A3, c3, rfl, _⟩ := ho2.code; have hrl := fun b e => (HC3.out.lt b e).2; have hFw := (Held.new v3 57 #[.int .i64 f.ar, .int .i64 f.lo, .int .i64 f.sl, .slice Ac f.code.length cc]).grown hg2 (fun e => Nat.lt_irrefl _ (hrl _ e)); have hg3 := grown_trans (grown_of_below ((Below.refl v3.heap.size v3).alloc (Nat.le_refl _) (.cells #[.int .i64 f.ar, .int .i64 f.lo, .int .i64 f.sl, .slice Ac f.code.length cc] 57)) _) hg2; have hl3 : ∀ b, Value.ownBlock (.slice A3 (f.code ++ [(o, xa, xb)]).length c3) = some b → Value.ownBlock (.slice Ac f.code.length cc) = some b ∨ v3.heap.size + 1 ≤ b := (fun b e => (hl2 b e).imp id (fun h => by simpa using h)); obtain ⟨⟨q0, q1, q2, q3, q4, _⟩, _⟩ := own_lay HO3.out hB3 ho2 hg3 (fun b e => (hl3 b e).imp id (fun h => by omega)); have fr0 := q4 (L0.length * 4); have fr1 := q4 (L0.length * 4 + 1); have fr2 := q4 (L0.length * 4 + 2); have fr3 := q4 (L0.length * 4 + 3); have s0 := hFw.cell 0; have s1 := hFw.cell 1; have s2 := hFw.cell 2; have s3 := hFw.cell 3; have s4 := hFw.fz 3; have sl := hFw.lt; have hgn := Nat.ne_of_lt hg4; have FIN := Lib.hid (own_lay HO3.out hB3 (ho2.grown (grown_set1 w2 v3.heap.size 3 (.slice A3 (f.code ++ [(o, xa, xb)]).length c3)) (fun b hb e => by cases e; rcases hl3 _ hb with h | h; exact Nat.lt_irrefl _ (hrl _ h); omega)) (grown_far hg3 (Nat.le_refl _) 3 (.slice A3 (f.code ++ [(o, xa, xb)]).length c3)) (fun b e => (hl3 b e).imp id (fun h => by omega))).2; clear ho2 hg2 hl2 hFw hg3 hl3 q4))
                    have hF := FIN.out
                    rw [show (f.code ++ [(o, xa, xb)]).length = f.code.length + 1 by simp] at hF
                    clear FIN
                    go_returns
                    refine ⟨_, true, _, rfl, ((hwx.mono hB).trans (hb3.mono (Nat.le_trans hBr hbx.size))).trans hF.2, hF.1, fun q h => ?_, fun h => ?_⟩
                    · rw [HQ2.out] at h
                      cases h
                      exact ⟨rfl, by simp⟩
                    · rw [HQ2.out] at h
                      cases h
              · have hq := HQ.out
                rw [if_neg (fun h => hlf h.2)] at hq
                have HQ2 := Lib.hid hq
                have e1 : (((rest.length + 1 : Nat) : Int) != 1 + ff) = true := by simp; omega
                have e2 : ((rest.length : Int) + 1 != 1 + ff) = true := by simp; omega
                clear hq HQ
                go_wp2_with (first
                  | (go_at_call 45; (with_reducible refine (RM.go _).mono ?_); rintro e v3 ⟨rfl, hb3⟩; have y0 := (hb3.cell (p := ⟨k, 0, none⟩) xl).trans x0)
                  | (go_at_call 61; (with_reducible refine (RX.go _).mono ?_); rintro e v4 ⟨rfl, rfl⟩))
                go_returns
                exact HNo.out _ (Below.step hbx hb3) HQ2.out
end Go.Proofs.YtoeinpiekfmbgaaGreatDoor

