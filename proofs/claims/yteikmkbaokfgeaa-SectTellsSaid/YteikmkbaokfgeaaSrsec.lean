/- Layer 3: the document's own answers: the bytes of a section. -/
import Derived.Test.YteikmkbaokfgeaaSrp
import Derived.Test.YteikmkbaokfgeaaCref
import Derived.Test.YteikmkbaokfgeaaWrefx
import Derived.Test.YteikmkbaokfgeaaSopen
import Derived.Deep.RegionHeld3
import Derived.Deep.RegionWith
namespace Go.Proofs.Yteikmkbaokfgeaa
set_option linter.unusedVariables false
set_option linter.unusedSimpArgs false
open Go.RowKit Go.ChangeShapes Go.WideShapes Go.ChangeAt Cm

theorem rof_all (s : ByteArray) (l : List UInt8) (n : Int) (w : World) (hs : s = ⟨l.toArray⟩) (hl : l.length ≤ maxLen) (h : rollF 0 l = n) :
    Calls Try.prog 29 #[.string s] w fun e w' => e = .returned (.int .i64 n) ∧ w = w' := by
  subst hs h
  exact rof_any _ w (by show l.toArray.size ≤ _; rw [List.size_toArray]; exact hl)

set_option maxHeartbeats 400000 in
theorem rsput_none (tag : Int) (t : ByteArray) (w : World) (ht : t.size ≤ maxLen) (h : tag < 0 ∨ 255 < tag ∨ 1048576 < (t.size : Int)) :
    Calls Try.prog 16 #[.int .i64 tag, .string t] w fun e w' => e = .returned (.string ⟨#[]⟩) ∧ w = w' := by
  unfold maxLen at ht
  have hc : tag < 0 ∨ (0 ≤ tag ∧ 255 < tag) ∨ (0 ≤ tag ∧ tag ≤ 255 ∧ 1048576 < (t.size : Int)) := by omega
  clear h
  rcases hc with h | ⟨h, h'⟩ | ⟨h, h', h''⟩
  all_goals
    go_enter Try.func16, Try.ntmps16
    go_wp2
    go_ret
    exact ⟨rfl, rfl⟩

set_option maxHeartbeats 4000000 in
set_option maxRecDepth 100000 in
theorem rsput_in (n : Nat) (t : ByteArray) (w : World) (hn : n < 256) (ht : t.size ≤ 1048576) :
    Calls Try.prog 16 #[.int .i64 n, .string t] w fun e w' => e = .returned (.string ⟨(UInt8.ofNat n :: bodyS (UInt8.ofNat n) t.data.toList).toArray⟩) ∧ Below w.heap.size w w' := by
  have hl : t.data.toList.length = t.size := rfl
  have CT := fun W => Lib.hid (tagged_any n t W hn ht)
  have hc : (n : Int) % 256 = (UInt8.ofNat n).toNat := by rw [UInt8.toNat_ofNat']; omega
  have hc2 : (n : Int) = (UInt8.ofNat n).toNat := by rw [UInt8.toNat_ofNat']; omega
  have hn0 : 0 ≤ (n : Int) := by omega
  have hn1 : (n : Int) ≤ 255 := by omega
  have hn2 : (n : Int) < 256 := by omega
  have hd0 : decide ((n : Int) < 0) = false := by simp
  have hd1 : decide (255 < (n : Int)) = false := by simp; omega
  have htz : (t.size : Int) ≤ 1048576 := by omega
  have hd2 : decide (1048576 < (t.size : Int)) = false := by simp; omega
  generalize UInt8.ofNat n = c at *
  have hsum := sum_in (c :: t.data.toList)
  have hpl : (putTextF t.data.toList).length ≤ t.size + 7 := by
    unfold putTextF
    split
    · simp
    · have := putF_len t.data.toList.length
      simp only [List.length_append]; omega
  obtain ⟨q, hq⟩ : ∃ q : Nat, (q : Int) = rollF 0 (c :: t.data.toList) := ⟨(rollF 0 (c :: t.data.toList)).toNat, by omega⟩
  have hbody : bodyS c t.data.toList = putTextF t.data.toList ++ fixG q := by
    rw [bodyS, ← hq, fixF_eq (by omega) (by omega), Int.toNat_natCast]
  have C0 := fun W => Lib.hid (rputText_any t W ht)
  have C1 := fun W => Lib.hid (rof_all ⟨(c :: t.data.toList).toArray⟩ (c :: t.data.toList) q W rfl (by simp only [List.length_cons, hl]; unfold maxLen; omega) hq.symm)
  have C2 := fun W => Lib.hid (rputFixed_any q W (by omega))
  have hfl : (fixG q).length = 4 := rfl
  have HB := Lib.hid hbody
  have g1 : 1 + (putTextF t.data.toList).length ≤ 9223372036854775807 := by omega
  have g3 : 1 + (putTextF t.data.toList).length + (fixG q).length ≤ 9223372036854775807 := by omega
  have HC := Lib.hid hc2; clear hc2
  have y1 : IntKind.u8.wrap (n : Int) = c.toNat := by simp only [IntKind.wrap, IntKind.bits, IntKind.signed]; simp; omega
  clear hn hq hbody hsum hl hfl hpl hc
  generalize (n : Int) = N at *
  generalize putTextF t.data.toList = T at *
  generalize hX : fixG q = X at *
  have hcv1 : ∀ (W : World), (convert 38 9 (.slice (some ⟨W.heap.size, 0, none⟩) 1 1)).run Try.prog (W.alloc (.cells #[.int .u8 (c.toNat : Int)] 5)).drew = .ok (.string ⟨#[c]⟩) (W.alloc (.cells #[.int .u8 (c.toNat : Int)] 5)).drew := fun W =>
    conv_back _ 38 9 5 ⟨W.heap.size, 0, none⟩ 1 1 [c] rfl Try.underlying38 Try.underlying5 Try.underlying9 (by
      intro j hj
      have : j = 0 := by simpa using hj
      subst this
      simp [Addr.add, go_sem])
  have hcv2 : ∀ (W : World) (g : Nat), W.cell? ⟨g, 0, none⟩ = some (.int .u8 (c.toNat : Int)) → (convert 38 9 (.slice (some ⟨g, 0, none⟩) 1 1)).run Try.prog W = .ok (.string ⟨#[c]⟩) W := fun W g hg =>
    conv_back _ 38 9 5 ⟨g, 0, none⟩ 1 1 [c] rfl Try.underlying38 Try.underlying5 Try.underlying9 (by
      intro j hj
      have : j = 0 := by simpa using hj
      subst this
      simpa [Addr.add] using hg)
  go_enter Try.func16, Try.ntmps16
  go_wp2_with fail
  have hcv3 : ∀ (W : World), (convert 38 9 (.slice (some ⟨W.heap.size, 0, none⟩) 1 1)).run Try.prog (W.alloc (.cells #[.int .u8 (c.toNat : Int)] 5)) = .ok (.string ⟨#[c]⟩) (W.alloc (.cells #[.int .u8 (c.toNat : Int)] 5)) := fun W =>
    hcv2 _ _ ((Held.new W 5 #[.int .u8 (c.toNat : Int)]).cell 0)
  have hbw : Below w.heap.size w w := Below.refl _ _
  go_region_with (first
    | (go_at_call 33; (with_reducible refine (C0 _).out.mono ?_); rintro e w1 ⟨rfl, hb1⟩
       first
         | (have kk : Held w1 w.heap.size 5 #[.int .u8 (c.toNat : Int)] := one_laid_d (by simp) hb1
            have k0 := kk.cell 0
            simp at k0
            replace hbw := below_laid_d hb1)
         | replace hbw := below_drewn hb1)
    | (go_at_call 30; (with_reducible refine (CT _).out.mono ?_); rintro e w2 ⟨rfl, hb2⟩
       first
         | (replace kk := kk.below hb2
            have k0 := kk.cell 0
            simp at k0
            replace hbw := Below.step hbw hb2)
         | (have kk : Held w2 w1.heap.size 5 #[.int .u8 (c.toNat : Int)] := (one_laid (by simp) hb2).1
            have k0 := kk.cell 0
            simp at k0
            replace hbw := Below.step hbw (below_laid hb2))
         | replace hbw := Below.step hbw hb2)
    | (go_at_call 29; (with_reducible refine (C1 _).out.mono ?_); rintro e w3 ⟨rfl, rfl⟩)
    | (go_at_call 34; (with_reducible refine (C2 _).out.mono ?_); rintro e w4 ⟨rfl, hb4⟩
       first
         | (replace kk := kk.below hb4
            have k0 := kk.cell 0
            simp at k0
            replace hbw := Below.step hbw hb4)
         | (have kk : Held w4 w2.heap.size 5 #[.int .u8 (c.toNat : Int)] := (one_laid (by simp) hb4).1
            have k0 := kk.cell 0
            simp at k0
            replace hbw := Below.step hbw (below_laid hb4))
         | replace hbw := Below.step hbw hb4))
  all_goals
    go_wp2
    go_ret
    rw [HB.out]
    refine ⟨ret_str ?_, ?_⟩
    · apply ByteArray.ext; simp
    · first
      | exact hbw
      | exact hbw.alloc hbw.size _
end Go.Proofs.Yteikmkbaokfgeaa
