/- Layer 7: the document's Split. -/
import Derived.Test.YtdbmpcdianjaaaaDoorzGb
import Derived.Test.YtdbmpcdianjaaaaDoorzGc
import Derived.Test.YtdbmpcdianjaaaaDoorRows
import Derived.Lib.Strings
import Derived.OpenShut
import Derived.Lib.Hide
import Derived.WalkMore
import Derived.Handy
namespace Go.Proofs.YtdbmpcdianjaaaaDoor
set_option linter.unusedVariables false
set_option linter.unusedSimpArgs false
open Go.RowKit Go.ChangeShapes Go.WideShapes Go.ChangeAt Go.Sort

def strV (l : List UInt8) : Value := .string ⟨l.toArray⟩
theorem extract_take (s : ByteArray) (a b : Nat) : s.extract a b = ⟨((s.data.toList.drop a).take (b - a)).toArray⟩ := by
  apply ByteArray.ext
  apply Array.toList_inj.1
  have := Lib.extract_toList s a b
  rw [ByteArray.toList_eq] at this
  rw [this]
theorem infoS : (Tryd.prog.info? 9).map (fun i => (i.zero, i.size, i.bytes)) = some (some (.string ⟨#[]⟩), 1, 16) := by kernel_rfl
theorem word_end (c : UInt8) (l : List UInt8) (f k : Nat) (hk : k < l.length) (hf : f ≤ k) (hc : l[k] = c) (hn : c ∉ (l.drop f).take (k - f)) : splitL c (l.drop f) = (l.drop f).take (k - f) :: splitL c (l.drop (k + 1)) := by
  have e : l.drop f = (l.drop f).take (k - f) ++ c :: l.drop (k + 1) := by
    conv => lhs; rw [← List.take_append_drop (k - f) (l.drop f)]
    congr 1
    rw [List.drop_drop, show f + (k - f) = k by omega, List.drop_eq_getElem_cons hk, hc]
  conv => lhs; rw [e]
  exact split_app c _ _ hn
theorem word_more (c : UInt8) (l : List UInt8) (f k : Nat) (hk : k < l.length) (hf : f ≤ k) (hc : l[k] ≠ c) (hn : c ∉ (l.drop f).take (k - f)) : c ∉ (l.drop f).take (k + 1 - f) := by
  rw [show k + 1 - f = (k - f) + 1 by omega, List.take_succ_eq_append_getElem (by simp; omega), List.mem_append]
  rintro (h | h)
  · exact hn h
  · simp only [List.getElem_drop, List.mem_singleton] at h
    rw [show l[f + (k - f)] = l[k] from getElem_congr_idx (by omega)] at h
    exact hc h.symm

set_option maxHeartbeats 4000000 in
set_option maxRecDepth 100000 in
theorem psplit_any (s : ByteArray) (c : UInt8) (w : World) (hs : s.size ≤ 1000000) :
    Calls Tryd.prog 45 #[.string s, .int .u8 (c.toNat : Int)] w fun e w' => ∃ v, e = .returned v ∧ OwnV w' w.heap.size 9 v ((splitL c s.data.toList).map strV) ∧ Below w.heap.size w w' := by
  have hl : s.data.toList.length = s.size := rfl
  have hs' : (s.size : Int) ≤ 1000000 := by omega
  have hv := OwnV.made w 9
  have hW : Below w.heap.size w (w.alloc (.cells #[] 9)) := (Below.refl _ _).alloc (Nat.le_refl _) _
  go_enter Tryd.func45, Tryd.ntmps45
  go_wp2_with fail
  go_loopw [5, 6, 7] (fun o f i wr => ∃ (k m : Nat) (ws : List (List UInt8)), i = .int .i64 k ∧ f = .int .i64 m ∧ OwnV wr w.heap.size 9 o (ws.map strV) ∧ Below w.heap.size w wr ∧ ws.length ≤ k ∧ w.heap.size ≤ wr.heap.size ∧
    ((k ≤ s.size ∧ m ≤ k ∧ splitL c s.data.toList = ws ++ splitL c (s.data.toList.drop m) ∧ c ∉ (s.data.toList.drop m).take (k - m)) ∨ (k = s.size + 1 ∧ ws = splitL c s.data.toList))) (fun _ _ i _ => s.size + 1 - (intOf i).toNat)
  case atStart => exact ⟨0, 0, [], rfl, rfl, hv, hW, by simp, hW.size, .inl ⟨by omega, by omega, by simp, by simp⟩⟩
  case round =>
    obtain ⟨k, m, ws, rfl, rfl, hown, hw, hlen, hwz, hor⟩ := hrel
    rcases hor with ⟨hk, hm, hspl, hnot⟩ | ⟨rfl, rfl⟩
    · obtain ⟨A, ca, rfl, _⟩ := hown.form
      have hmi : (m : Int) ≤ k := by omega
      rw [List.length_map] at *
      by_cases hlt : k < s.size
      · have h256 := s[k].toNat_lt
        have c256 := c.toNat_lt
        by_cases hc : s[k] = c
        · have hwe := word_end c s.data.toList m k (by rw [hl]; exact hlt) hm hc hnot
          have het := extract_take s m k
          generalize hword : (s.data.toList.drop m).take (k - m) = word at *
          have HSP := Lib.hid (hspl.trans (by rw [hwe] : ws ++ splitL c (s.data.toList.drop m) = ws ++ (word :: splitL c (s.data.toList.drop (k + 1)))))
          have hq : ((s[k].toNat : Int) == (c.toNat : Int)) = true := by rw [hc]; simp
          have HE := Lib.hid het
          clear hwe hspl hnot hword hc het hv hW
          have HO := Lib.hid hown
          clear hown
          go_wp2_with (at_builtin; refine wpList_append_vals rfl _ _ 71 rfl 9 (.string ⟨#[]⟩) 16 Tryd.underlying71 infoS rfl w.heap.size wr _ (ws.map strV) #[.string (s.extract m k)] 1 rfl rfl rfl HO.out rfl (by intro u hu; simp at hu; subst hu; rfl) (by rw [List.length_map]; unfold maxLen; omega) (by rw [List.length_map]; omega) hwz ?_; intro v' w2 hv2 hb2)
          have e2 : ws.map strV ++ #[Value.string (s.extract m k)].toList = (ws ++ [word]).map strV := by rw [HE.out]; simp [strV]
          rw [e2] at hv2
          have HO2 := Lib.hid hv2
          have hw2 := hw.trans hb2
          have hz2 := hb2.size
          clear hv2 e2 hb2
          go_wp2_with fail
          go_roundw
          case rel => exact ⟨k + 1, k + 1, ws ++ [word], by go_num, by go_num, HO2.out, hw2, by rw [List.length_append, List.length_singleton]; omega, hw2.size, .inl ⟨by omega, by omega, by rw [HSP.out]; simp, by simp⟩⟩
          case measure => simp [intOf]; omega
        · have hwm := word_more c s.data.toList m k (by rw [hl]; exact hlt) hm hc hnot
          have hq : ((s[k].toNat : Int) == (c.toNat : Int)) = false := by
            have : s[k].toNat ≠ c.toNat := fun h => hc (UInt8.toNat_inj.1 h)
            simp
            omega
          have HO := Lib.hid hown
          have HSP := Lib.hid hspl
          have HWM := Lib.hid hwm
          clear hown hspl hnot hwm hv hW hc
          go_wp2_with fail
          go_roundw
          case rel => exact ⟨k + 1, m, ws, by go_num, rfl, HO.out, hw, by omega, hwz, .inl ⟨by omega, by omega, HSP.out, HWM.out⟩⟩
          case measure => simp [intOf]; omega
      · obtain rfl : k = s.size := by omega
        have hwe : splitL c (s.data.toList.drop m) = [(s.data.toList.drop m).take (s.size - m)] := by
          have e : (s.data.toList.drop m).take (s.size - m) = s.data.toList.drop m := List.take_of_length_le (by rw [List.length_drop, hl]; omega)
          rw [e] at hnot ⊢
          exact split_word c _ hnot
        have het := extract_take s m s.size
        generalize hword : (s.data.toList.drop m).take (s.size - m) = word at *
        have HSP := Lib.hid (hspl.trans (by rw [hwe] : ws ++ splitL c (s.data.toList.drop m) = ws ++ [word]))
        have HE := Lib.hid het
        have HO := Lib.hid hown
        clear hwe hspl hnot hword het hv hW hown
        go_wp2_with (at_builtin; refine wpList_append_vals rfl _ _ 71 rfl 9 (.string ⟨#[]⟩) 16 Tryd.underlying71 infoS rfl w.heap.size wr _ (ws.map strV) #[.string (s.extract m s.size)] 1 rfl rfl rfl HO.out rfl (by intro u hu; simp at hu; subst hu; rfl) (by rw [List.length_map]; unfold maxLen; omega) (by rw [List.length_map]; omega) hwz ?_; intro v' w2 hv2 hb2)
        have e2 : ws.map strV ++ #[Value.string (s.extract m s.size)].toList = (ws ++ [word]).map strV := by rw [HE.out]; simp [strV]
        rw [e2] at hv2
        have HO2 := Lib.hid hv2
        have hw2 := hw.trans hb2
        clear hv2 e2 hb2
        go_wp2_with fail
        go_roundw
        case rel => exact ⟨s.size + 1, s.size + 1, ws ++ [word], by go_num, by go_num, HO2.out, hw2, by rw [List.length_append, List.length_singleton]; omega, hw2.size, .inr ⟨rfl, HSP.out.symm⟩⟩
        case measure => simp [intOf]; try omega
    · go_wp2_with fail
      go_ret
      exact ⟨_, rfl, hown, hw⟩
end Go.Proofs.YtdbmpcdianjaaaaDoor

