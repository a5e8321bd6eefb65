/- Layer 7: the document's Split. -/
import Derived.Test.YtagjddnpaahebaaGreatDoorzGb
import Derived.Test.YtagjddnpaahebaaGreatDoorzGc
import Derived.Test.YtagjddnpaahebaaGreatDoorRows
import Derived.Lib.Strings
import Derived.OpenShut
import Derived.Lib.Hide
import Derived.WalkMore
import Derived.Handy
import Derived.Laws.IdiomStrings
namespace Go.Proofs.YtagjddnpaahebaaGreatDoor
set_option linter.unusedVariables false
set_option linter.unusedSimpArgs false
open Go.RowKit Go.ChangeShapes Go.WideShapes Go.ChangeAt Go.Sort

def strV (l : List UInt8) : Value := .string ⟨l.toArray⟩
theorem extract_take (s : ByteArray) (a b : Nat) : s.extract a b = ⟨((s.data.toList.drop a).take (b - a)).toArray⟩ := by
  apply ByteArray.ext
  apply Array.toList_inj.1
  have := Lib.extract_toList s a b
  rw [ByteArray.toList_eq] at this
  rw [this]
theorem infoStr : (Tryz.prog.info? 9).map (fun i => (i.zero, i.size, i.bytes)) = some (some (.string ⟨#[]⟩), 1, 16) := by kernel_rfl
theorem word_end (c : UInt8) (l : List UInt8) (f k : Nat) (hk : k < l.length) (hf : f ≤ k) (hc : l[k] = c) (hn : c ∉ (l.drop f).take (k - f)) : splitL c (l.drop f) = (l.drop f).take (k - f) :: splitL c (l.drop (k + 1)) := by
  have e : l.drop f = (l.drop f).take (k - f) ++ c :: l.drop (k + 1) := by
    conv => lhs; rw [← List.take_append_drop (k - f) (l.drop f)]
    congr 1
    rw [List.drop_drop, show f + (k - f) = k by omega, List.drop_eq_getElem_cons hk, hc]
  conv => lhs; rw [e]
  exact split_app c _ _ hn
theorem word_more (c : UInt8) (l : List UInt8) (f k : Nat) (hk : k < l.length) (hf : f ≤ k) (hc : l[k] ≠ c) (hn : c ∉ (l.drop f).take (k - f)) : c ∉ (l.drop f).take (k + 1 - f) := by
  rw [show k + 1 - f = (k - f) + 1 by omega, List.take_succ_eq_append_getElem (by simp; omega), List.mem_append]
  rintro (h | h)
  · exact hn h
  · simp only [List.getElem_drop, List.mem_singleton] at h
    rw [show l[f + (k - f)] = l[k] from getElem_congr_idx (by omega)] at h
    exact hc h.symm

set_option maxHeartbeats 4000000 in
set_option maxRecDepth 100000 in
theorem psplit_any (s : ByteArray) (c : UInt8) (w : World) (hs : s.size ≤ 1000000) :
    Calls Tryz.prog 44 #[.string s, .int .u8 (c.toNat : Int)] w fun e w' => ∃ v, e = .returned v ∧ OwnV w' w.heap.size 9 v ((splitL c s.data.toList).map strV) ∧ Below w.heap.size w w' := by
  have hl : s.data.toList.length = s.size := rfl
  have hs' : (s.size : Int) ≤ 1000000 := by omega
  have hv := OwnV.made w 9
  have hW : Below w.heap.size w (w.alloc (.cells #[] 9)) := (Below.refl _ _).alloc (Nat.le_refl _) _
  go_enter Tryz.func44, Tryz.ntmps44
  go_wp2_with fail
  go_loopw [5, 6, 7] (fun o f i wr => ∃ (k m : Nat) (ws : List (List UInt8)), i = .int .i64 k ∧ f = .int .i64 m ∧ OwnV wr w.heap.size 9 o (ws.map strV) ∧ Below w.heap.size w wr ∧ ws.length ≤ k ∧ w.heap.size ≤ wr.heap.size ∧
    ((k ≤ s.size ∧ m ≤ k ∧ splitL c s.data.toList = ws ++ splitL c (s.data.toList.drop m) ∧ c ∉ (s.data.toList.drop m).take (k - m)) ∨ (k = s.size + 1 ∧ ws = splitL c s.data.toList))) (fun _ _ i _ => s.size + 1 - (intOf i).toNat)
  case atStart => exact ⟨0, 0, [], rfl, rfl, hv, hW, by simp, hW.size, .inl ⟨by omega, by omega, by simp, by simp⟩⟩
  case round =>
    obtain ⟨k, m, ws, rfl, rfl, hown, hw, hlen, hwz, hor⟩ := hrel
    rcases hor with ⟨hk, hm, hspl, hnot⟩ | ⟨rfl, rfl⟩
    · obtain ⟨A, ca, rfl, _⟩ := hown.form
      have hmi : (m : Int) ≤ k := by omega
      rw [List.length_map] at *
      by_cases hlt : k < s.size
      · have h256 := s[k].toNat_lt
        have c256 := c.toNat_lt
        by_cases hc : s[k] = c
        · have hwe := word_end c s.data.toList m k (by rw [hl]; exact hlt) hm hc hnot
          have het := extract_take s m k
          generalize hword : (s.data.toList.drop m).take (k - m) = word at *
          have HSP := Lib.hid (hspl.trans (by rw [hwe] : ws ++ splitL c (s.data.toList.drop m) = ws ++ (word :: splitL c (s.data.toList.drop (k + 1)))))
          have hq : ((s[k].toNat : Int) == (c.toNat : Int)) = true := by rw [hc]; simp
          have HE := Lib.hid het
          clear hwe hspl hnot hword hc het hv hW
          have HO := Lib.hid hown
          clear hown
          go_wp2_with (at_builtin; refine wpList_append_vals rfl _ _ 92 rfl 9 (.string ⟨#[]⟩) 16 Tryz.underlying92 infoStr rfl w.heap.size wr _ (ws.map strV) #[.string (s.extract m k)] 1 rfl rfl rfl HO.out rfl (by intro u hu; simp at hu; subst hu; rfl) (by rw [List.length_map]; unfold maxLen; omega) (by rw [List.length_map]; omega) hwz ?_; intro v' w2 hv2 hb2)
          have e2 : ws.map strV ++ #[Value.string (s.extract m k)].toList = (ws ++ [word]).map strV := by rw [HE.out]; simp [strV]
          rw [e2] at hv2
          have HO2 := Lib.hid hv2
          have hw2 := hw.trans hb2
          have hz2 := hb2.size
          clear hv2 e2 hb2
          go_wp2_with fail
          go_roundw
          case rel => exact ⟨k + 1, k + 1, ws ++ [word], by go_num, by go_num, HO2.out, hw2, by rw [List.length_append, List.length_singleton]; omega, hw2.size, .inl ⟨by omega, by omega, by rw [HSP.out]; simp, by simp⟩⟩
          case measure => simp [intOf]; omega
        · have hwm := word_more c s.data.toList m k (by rw [hl]; exact hlt) hm hc hnot
          have hq : ((s[k].toNat : Int) == (c.toNat : Int)) = false := by
            have : s[k].toNat ≠ c.toNat := fun h => hc (UInt8.toNat_inj.1 h)
            simp
            omega
          have HO := Lib.hid hown
          have HSP := Lib.hid hspl
          have HWM := Lib.hid hwm
          clear hown hspl hnot hwm hv hW hc
          go_wp2_with fail
          go_roundw
          case rel => exact ⟨k + 1, m, ws, by go_num, rfl, HO.out, hw, by omega, hwz, .inl ⟨by omega, by omega, HSP.out, HWM.out⟩⟩
          case measure => simp [intOf]; omega
      · obtain rfl : k = s.size := by omega
        have hwe : splitL c (s.data.toList.drop m) = [(s.data.toList.drop m).take (s.size - m)] := by
          have e : (s.data.toList.drop m).take (s.size - m) = s.data.toList.drop m := List.take_of_length_le (by rw [List.length_drop, hl]; omega)
          rw [e] at hnot ⊢
          exact split_word c _ hnot
        have het := extract_take s m s.size
        generalize hword : (s.data.toList.drop m).take (s.size - m) = word at *
        have HSP := Lib.hid (hspl.trans (by rw [hwe] : ws ++ splitL c (s.data.toList.drop m) = ws ++ [word]))
        have HE := Lib.hid het
        have HO := Lib.hid hown
        clear hwe hspl hnot hword het hv hW hown
        go_wp2_with (at_builtin; refine wpList_append_vals rfl _ _ 92 rfl 9 (.string ⟨#[]⟩) 16 Tryz.underlying92 infoStr rfl w.heap.size wr _ (ws.map strV) #[.string (s.extract m s.size)] 1 rfl rfl rfl HO.out rfl (by intro u hu; simp at hu; subst hu; rfl) (by rw [List.length_map]; unfold maxLen; omega) (by rw [List.length_map]; omega) hwz ?_; intro v' w2 hv2 hb2)
        have e2 : ws.map strV ++ #[Value.string (s.extract m s.size)].toList = (ws ++ [word]).map strV := by rw [HE.out]; simp [strV]
        rw [e2] at hv2
        have HO2 := Lib.hid hv2
        have hw2 := hw.trans hb2
        clear hv2 e2 hb2
        go_wp2_with fail
        go_roundw
        case rel => exact ⟨s.size + 1, s.size + 1, ws ++ [word], by go_num, by go_num, HO2.out, hw2, by rw [List.length_append, List.length_singleton]; omega, hw2.size, .inr ⟨rfl, HSP.out.symm⟩⟩
        case measure => simp [intOf]; try omega
    · go_wp2_with fail
      go_ret
      exact ⟨_, rfl, hown, hw⟩
end Go.Proofs.YtagjddnpaahebaaGreatDoor

/- Layer 4: the document's Digits, of numbers below 100000. -/
namespace Go.Proofs.YtagjddnpaahebaaGreatDoor
set_option linter.unusedVariables false
set_option linter.unusedSimpArgs false
open Go.RowKit Go.ChangeShapes Go.WideShapes Go.ChangeAt Go.Sort

theorem decd_len (n : Nat) : (Lib.decDigits n).length ≤ n + 1 := by
  induction n using Nat.strongRecOn with
  | _ n ih =>
    by_cases h : n < 10
    · rw [decd_lt h]; simp
    · rw [decd_ge h, List.length_append]
      have := ih (n / 10) (by omega)
      simp; omega

set_option maxHeartbeats 1000000 in
set_option maxRecDepth 100000 in
theorem rdg_nat (n : Nat) : ∀ (w : World), n < 100000 → Calls Tryz.prog 93 #[.int .i64 n] w fun e w' => e = .returned (.string ⟨(Lib.decDigits n).toArray⟩) ∧ Below w.heap.size w w' := by
  induction n using Nat.strongRecOn with
  | _ n ih =>
  intro w hn
  obtain ⟨c, hc⟩ : ∃ c, c = UInt8.ofNat (48 + n % 10) := ⟨_, rfl⟩
  have hv : (48 + (n : Int) % 10) % 256 = c.toNat := by rw [hc, UInt8.toNat_ofNat']; omega
  have hv2 : 48 + (n : Int) % 10 = c.toNat := by rw [hc, UInt8.toNat_ofNat']; omega
  have hN0 : 0 ≤ (n : Int) := by omega
  have hN1 : (n : Int) ≤ 99999 := by omega
  have cv : ∀ (W : World) (g : Nat), W.cell? ⟨g, 0, none⟩ = some (.int .u8 (c.toNat : Int)) → (convert 147 9 (.slice (some ⟨g, 0, none⟩) 1 1)).run Tryz.prog W = .ok (.string ⟨#[c]⟩) W := fun W g hg =>
    run_convert_bytes_back W 147 9 5 ⟨g, 0, none⟩ 1 [c] Tryz.underlying147 Tryz.underlying5 Tryz.underlying9 (by
      intro j hj
      have : j = 0 := by simpa using hj
      subst this
      simpa [Addr.add] using hg)
  have cw : (convert 147 9 (.slice (some ⟨w.heap.size, 0, none⟩) 1 1)).run Tryz.prog (w.alloc (.cells #[.int .u8 (c.toNat : Int)] 5)) = .ok (.string ⟨#[c]⟩) (w.alloc (.cells #[.int .u8 (c.toNat : Int)] 5)) :=
    cv _ _ ((Held.new w 5 #[.int .u8 (c.toNat : Int)]).cell 0)
  by_cases h : n < 10
  · have hd := decd_lt h
    rw [← hc] at hd
    have HD := Lib.hid hd
    have hlt : decide (10 ≤ (n : Int)) = false := by simp; omega
    clear hd hc h ih hn
    generalize (n : Int) = N at *
    go_enter Tryz.func93, Tryz.ntmps93
    go_wp2_with fail
    go_ret
    rw [HD.out]
    exact ⟨rfl, (Below.refl _ _).alloc (Nat.le_refl _) _⟩
  · have hd := decd_ge h
    rw [← hc] at hd
    have hl := decd_len (n / 10)
    have CD : ∀ W, Hid (Calls Tryz.prog 93 #[.int .i64 ((n : Int) / 10)] W fun e w' => e = .returned (.string ⟨(Lib.decDigits (n / 10)).toArray⟩) ∧ Below W.heap.size W w') := fun W => by
      have := ih (n / 10) (by omega) W (by omega)
      rw [show (n : Int) / 10 = ((n / 10 : Nat) : Int) by omega]
      exact Lib.hid this
    generalize Lib.decDigits (n / 10) = s at *
    have HD := Lib.hid hd
    have hlt : decide (10 ≤ (n : Int)) = true := by simp; omega
    have hs : s.length + 1 ≤ 9223372036854775807 := by omega
    clear hd hc h ih hn hl
    generalize (n : Int) = N at *
    go_enter Tryz.func93, Tryz.ntmps93
    go_wp2_with (go_at_call 93; (with_reducible refine (CD _).out.mono ?_); rintro e v ⟨rfl, hb⟩; have hw := Below.step ((Below.refl _ _).alloc (Nat.le_refl _) _) hb)
    go_ret
    rw [HD.out]
    refine ⟨ret_str ?_, hw⟩
    apply ByteArray.ext
    simp

theorem rdg_in {n : Int} (h0 : 0 ≤ n) (h1 : n < 100000) : Ct Tryz.prog 93 #[.int .i64 n] (.string ⟨(dgI n).toArray⟩) := fun w => by
  obtain ⟨m, rfl⟩ := Int.eq_ofNat_of_zero_le h0
  unfold dgI
  rw [Int.toNat_natCast]
  exact rdg_nat m w (by omega)
end Go.Proofs.YtagjddnpaahebaaGreatDoor

/- Layer 7: the document's Number. -/
namespace Go.Proofs.YtagjddnpaahebaaGreatDoor
set_option linter.unusedVariables false
set_option linter.unusedSimpArgs false
open Go.RowKit Go.ChangeShapes Go.WideShapes Go.ChangeAt Go.Sort

theorem valD_snoc (l : List UInt8) (c : UInt8) : valD (l ++ [c]) = 10 * valD l + c.toNat - 48 := by simp [valD]
theorem valD_bd : ∀ l : List UInt8, (l.length ≤ 2 → -600 ≤ valD l ∧ valD l ≤ 2600) ∧ (l.length ≤ 3 → -6000 ≤ valD l ∧ valD l ≤ 26000)
  | [] => by simp [valD]
  | [a] => by have := a.toNat_lt; simp [valD]; omega
  | [a, b] => by have := a.toNat_lt; have := b.toNat_lt; simp [valD]; omega
  | [a, b, c] => by have := a.toNat_lt; have := b.toNat_lt; have := c.toNat_lt; simp [valD]; omega
  | a :: b :: c :: d :: l => by simp

set_option maxHeartbeats 2000000 in
set_option maxRecDepth 100000 in
theorem pnumber_any (s : ByteArray) : Ct Tryz.prog 71 #[.string s] (.int .i64 (numV s.data.toList)) := fun w => by
  have hl : s.data.toList.length = s.size := rfl
  by_cases h3 : s.size ≤ 3
  case neg =>
    have hv : numV s.data.toList = -1 := by unfold numV; rw [if_neg (by rw [hl]; omega)]
    have HV := Lib.hid hv
    have h4 : (3 : Int) < s.size := by omega
    clear hv hl
    go_enter Tryz.func71, Tryz.ntmps71
    go_wp2
    go_ret
    rw [HV.out]
    exact ⟨rfl, Below.refl _ _⟩
  have h3' : (s.size : Int) ≤ 3 := by omega
  go_enter Tryz.func71, Tryz.ntmps71
  go_wp2
  go_loop [3, 4] (fun n i => ∃ k : Nat, k ≤ s.size ∧ i = .int .i64 k ∧ n = .int .i64 (valD (s.data.toList.take k))) (fun _ i => s.size - (intOf i).toNat)
  case atStart => exact ⟨0, by omega, rfl, by simp [valD]⟩
  case round =>
    obtain ⟨k, hk, rfl, rfl⟩ := hrel
    by_cases hlt : k < s.size
    · have hb := (valD_bd (s.data.toList.take k)).1 (by simp; omega)
      have hb1 := hb.1
      have hb2 := hb.2
      have hst : valD (s.data.toList.take (k + 1)) = 10 * valD (s.data.toList.take k) + s[k].toNat - 48 := by
        rw [List.take_succ_eq_append_getElem (by rw [hl]; exact hlt), valD_snoc]
        rfl
      have HST := Lib.hid hst
      have h256 := s[k].toNat_lt
      clear hb hst
      generalize valD (s.data.toList.take k) = n at *
      go_wp2_with fail
      go_round
      case rel => exact ⟨k + 1, by omega, by go_num, by rw [HST.out]⟩
      case measure => simp [intOf]; omega
    · obtain rfl : k = s.size := by omega
      rw [List.take_of_length_le (by rw [hl]; omega)]
      have hb := (valD_bd s.data.toList).2 (by omega)
      have hn : numV s.data.toList = if 0 ≤ valD s.data.toList ∧ dgI (valD s.data.toList) = s.data.toList then valD s.data.toList else -1 := by
        unfold numV
        by_cases h : 0 ≤ valD s.data.toList ∧ dgI (valD s.data.toList) = s.data.toList
        · rw [if_pos h, if_pos ⟨by omega, h.1, h.2⟩]
        · rw [if_neg h, if_neg (fun h2 => h ⟨h2.2.1, h2.2.2⟩)]
      have hD := fun h0 => rdg_in (n := valD s.data.toList) h0 (by omega)
      have hb2 := hb.2
      clear hb
      generalize valD s.data.toList = n at *
      by_cases h0 : 0 ≤ n
      · have D := hD h0
        have hq := eqS_toList ⟨(dgI n).toArray⟩ s
        rw [ByteArray.toList_mk] at hq
        by_cases he : dgI n = s.data.toList
        · have hes : eqS ⟨(dgI n).toArray⟩ s = true := eqS_iff.2 (by simp [he])
          rw [if_pos ⟨h0, he⟩] at hn
          rw [hes] at hq
          have HN := Lib.hid hn
          clear hn hes he hD hl
          go_wp2_with (go_at_call 93; (with_reducible refine (D.go _).mono ?_); rintro e v ⟨rfl, hb⟩)
          go_ret
          rw [HN.out]
          exact ⟨rfl, hb⟩
        · have hes : eqS ⟨(dgI n).toArray⟩ s = false := by
            rw [← Bool.not_eq_true, eqS_iff]
            intro e
            exact he (by rw [← e])
          rw [if_neg (fun h => he h.2)] at hn
          rw [hes] at hq
          have HN := Lib.hid hn
          clear hn hes he hD hl
          go_wp2_with (go_at_call 93; (with_reducible refine (D.go _).mono ?_); rintro e v ⟨rfl, hb⟩)
          go_ret
          rw [HN.out]
          exact ⟨rfl, hb⟩
      · rw [if_neg (fun h => h0 h.1)] at hn
        have HN := Lib.hid hn
        clear hn hD hl
        go_wp2_with fail
        go_ret
        rw [HN.out]
        exact ⟨rfl, Below.refl _ _⟩
end Go.Proofs.YtagjddnpaahebaaGreatDoor

