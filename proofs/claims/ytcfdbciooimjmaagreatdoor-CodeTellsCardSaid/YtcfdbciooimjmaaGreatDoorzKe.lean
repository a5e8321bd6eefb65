/- Layer 7's code: Encode, Digest. -/
import Derived.Test.YtcfdbciooimjmaaGreatDoorzKx
import Derived.Test.YtcfdbciooimjmaaGreatDoorzPr5
import Derived.Test.YtcfdbciooimjmaaGreatDoorzGe
namespace Go.Proofs.YtcfdbciooimjmaaGreatDoor
set_option linter.unusedVariables false
set_option linter.unusedSimpArgs false
open Go.RowKit Go.ChangeShapes Go.WideShapes Go.ChangeAt Go.Sort

/-- The call of the closure that Encode makes. -/
theorem spillP (w0 : World) (hT0 : TT w0) {ns : List Int} (n : Nat) (hn : ns.length = n) (hns : ∀ n ∈ ns, 0 ≤ n ∧ n < 1000) (hl : n ≤ 10)
    {b : Nat} {acc : List UInt8} (hacc : acc.length ≤ 1000000) {A : Option Addr} {c k0 k1 : Nat} (w : World) (hw : Below w0.heap.size w0 w) (hB : Bd w w0.heap.size b acc)
    (h0 : Held w k0 65 #[.pointer (some ⟨b, 0, none⟩)]) (h1 : Held w k1 71 #[fnv 48]) (hA : IntsAt w A ns) :
    Calls Tryz.prog 69 #[.slice A n c, .pointer (some ⟨k0, 0, none⟩), .pointer (some ⟨k1, 0, none⟩)] w fun e w' => e = .returned (.tuple #[]) ∧ Bd w' w0.heap.size b (acc ++ ns.flatMap putF) ∧ KeepT w w' ∧ Below w0.heap.size w0 w' := by
  subst hn
  exact spill_any w0 hT0 (fun n hn W _ => cput_in (hns n hn).1 (by have := (hns n hn).2; omega) W) (fun n _ => Nat.le_trans (putF_len n) (by omega)) hl (enters_of Tryz.func48 (by kernel_rfl) rfl) hacc w hw hB h0 h1 hA
theorem ints1 (w : World) (a : Int) : IntsAt (w.alloc (.cells #[.int .i64 a] 3)) (some ⟨w.heap.size, 0, none⟩) [a] := fun _ => ⟨_, _, rfl, Held.new _ _ _, fun j h => by
  match j, h with
  | 0, _ => rfl⟩
theorem ints4 (w : World) {g : Nat} (hg : g = w.heap.size) (a l s n : Int) : IntsAt (w.alloc (.cells #[.int .i64 a, .int .i64 l, .int .i64 s, .int .i64 n] 3)) (some ⟨g, 0, none⟩) [a, l, s, n] := hg ▸ fun _ => ⟨_, _, rfl, Held.new _ _ _, fun j h => by
  match j, h with
  | 0, _ => rfl
  | 1, _ => rfl
  | 2, _ => rfl
  | 3, _ => rfl⟩
theorem hdE_flat (f : Fun) : hdE f = [f.ar, f.lo, f.sl, (f.code.length : Int)].flatMap putF := by simp [hdE]
theorem insE_flat (o a b : Int) : insE (o, a, b) = UInt8.ofNat o.toNat :: (flds o a b).flatMap putF := by
  unfold insE flds
  split
  · simp
  · split <;> simp

set_option maxHeartbeats 4000000 in
set_option maxRecDepth 100000 in
theorem cenc_any {B : Nat} {A : Option Addr} {p : List Fun} (c : Nat) (w : World) (hT : TT w) (h : ProgAt w B A p) (hz : SizedP p) (hB : B ≤ w.heap.size) :
    Calls Tryz.prog 19 #[.slice A p.length c] w fun e w' => e = .returned (.string ⟨(encP p).toArray⟩) ∧ Below w.heap.size w w' := by
  have M := Lib.hid (cmay_any c w hT h hz hB)
  have HA := Lib.hid h
  clear h
  cases hm : mayP p
  · have ht : encP p = [] := by unfold encP; rw [if_neg (by rw [hm]; simp)]
    rw [hm] at M
    have HT := Lib.hid ht
    clear ht hm hz
    go_enter Tryz.func19, Tryz.ntmps19
    go_wp2_with (go_at_call 15; (with_reducible refine M.out.mono ?_); rintro e v ⟨rfl, hb⟩)
    go_ret
    rw [HT.out]
    exact ⟨rfl, hb⟩
  · have ht : encP p = progE p := encP_in hm
    rw [hm] at M
    have HT := Lib.hid ht
    have hzp := ((mayP_iff p).1 hm).2.1
    have hP3 := ((mayP_iff p).1 hm).2.2
    have HP3 := Lib.hid hP3
    have HL1 := Lib.hid (encUp_len hm)
    have HL2 := Lib.hid (fun k (f : Fun) (hf : f.code.length ≤ 200) j => encAt_len hm k hf j)
    have hp0 : encUp p 0 = [(p.length : Int)].flatMap putF := by rw [encUp_zero]; simp
    have HP0 := Lib.hid hp0
    have HN0 : Hid (∀ n ∈ [(p.length : Int)], 0 ≤ n ∧ n < 1000) := Lib.hid (by simp; omega)
    clear ht hm hz hP3 hp0
    go_enter Tryz.func19, Tryz.ntmps19
    go_wp2_with (first
      | (go_at_call 15; (with_reducible refine M.out.mono ?_); rintro e w0 ⟨rfl, hb0⟩; have hT0 := hT.below hb0)
      | (go_at_call 38; (with_reducible refine (into_any2 _ _ _).mono ?_); rintro e w1 ⟨k0, k1, rfl, hK0, hK1, hb1⟩; have hB1 := (Bd.fresh w0).below hb1; have hw1 := below_laid hb1; clear hb1)
      | (go_at_call 69; refine (spillP w0 hT0 (ns := [(p.length : Int)]) 1 rfl HN0.out (by omega) (by simp) _ (hw1.alloc hw1.size _) (hB1.alloc _) (hK0.alloc _) (hK1.alloc _) (ints1 _ _)).mono ?_; rintro e w2 ⟨rfl, hB2, hk2, hw2⟩))
    replace hK0 := hk2.held (hK0.alloc _) (by decide) (by decide)
    replace hK1 := hk2.held (hK1.alloc _) (by decide) (by decide)
    have hB0 : B ≤ w0.heap.size := Nat.le_trans hB hb0.size
    rw [List.nil_append, ← HP0.out] at hB2
    clear hk2 hw1 hB1
    go_loopw [20] (fun i W => ∃ k : Nat, k ≤ p.length ∧ i = .int .i64 k ∧ Bd W w0.heap.size w0.heap.size (encUp p k) ∧ Held W k0 65 #[.pointer (some ⟨w0.heap.size, 0, none⟩)] ∧ Held W k1 71 #[fnv 48] ∧ Below w0.heap.size w0 W) (fun i _ => p.length - (intOf i).toNat)
    case atStart => exact ⟨0, by omega, rfl, hB2, hK0, hK1, hw2⟩
    case round =>
      clear hB2 hK0 hK1 hw2
      obtain ⟨k, hk, rfl, hBd, hK0, hK1, hw⟩ := hrel
      by_cases hlt : k < p.length
      · obtain ⟨b, off, rfl, hbl, hc⟩ := (HA.out.below hb0 hB) (by omega)
        have hF := hc k hlt
        clear hc
        have hmf := HP3.out _ (List.getElem_mem hlt)
        have hl1 := HL1.out k
        have hu0 := encAt_zero p k p[k]
        have hus := encAt_succ p k p[k]
        have hua := encAt_all p k hlt
        generalize p[k] = f at *
        have HUS := Lib.hid hus
        have HUA := Lib.hid hua
        rw [hdE_flat] at hu0
        obtain ⟨hh, _, hcl, hall⟩ := (mayF_iff f).1 hmf
        obtain ⟨⟨r0, r1⟩, ⟨r2, r3⟩, r4, r5⟩ := (headB_iff _ _ _).1 hh
        have HR : Hid (∀ n ∈ [f.ar, f.lo, f.sl, (f.code.length : Int)], 0 ≤ n ∧ n < 1000) := Lib.hid (by simp; omega)
        have HL2f := Lib.hid (HL2.out k f hcl)
        have HALL := Lib.hid hall
        have HU0 := Lib.hid hu0
        obtain ⟨f0, f1, f2, A2, c2, f3, hcode⟩ := hF
        have HC := Lib.hid hcode
        have hwz := hw.size
        have hbw0 : b < w0.heap.size := by omega
        replace f0 := (hw.cell (p := ⟨b, off + k * 4, none⟩) hbw0).trans f0
        replace f1 := (hw.cell (p := ⟨b, off + k * 4 + 1, none⟩) hbw0).trans f1
        replace f2 := (hw.cell (p := ⟨b, off + k * 4 + 2, none⟩) hbw0).trans f2
        replace f3 := (hw.cell (p := ⟨b, off + k * 4 + 3, none⟩) hbw0).trans f3
        clear hcode hus hua hu0 hmf hall hh r0 r1 r2 r3 r4 r5
        generalize f.ar = fa at *
        generalize f.lo = fl at *
        generalize f.sl = fs at *
        generalize encUp p k = acc at *
        have HBd := Lib.hid hBd
        have HK0 := Lib.hid hK0
        have HK1 := Lib.hid hK1
        have HT0 := Lib.hid hT0
        clear hBd hK0 hK1 hT0
        have hw2 := hw.alloc hwz (.cells #[.int .i64 fa, .int .i64 fl, .int .i64 fs, .slice A2 f.code.length c2] 39)
        have hf2 := Held.new wr 39 #[.int .i64 fa, .int .i64 fl, .int .i64 fs, .slice A2 f.code.length c2]
        go_wp2_with (first
          | (go_at_call 69; refine (spillP w0 HT0.out (ns := [fa, fl, fs, (f.code.length : Int)]) 4 rfl HR.out (by omega) (by omega) ((wr.alloc (.cells #[.int .i64 fa, .int .i64 fl, .int .i64 fs, .slice A2 f.code.length c2] 39)).alloc (.cells #[.int .i64 fa, .int .i64 fl, .int .i64 fs, .int .i64 f.code.length] 3)) (hw2.alloc hw2.size _) ((HBd.out.alloc _).alloc _) ((HK0.out.alloc _).alloc _) ((HK1.out.alloc _).alloc _) (ints4 (wr.alloc (.cells #[.int .i64 fa, .int .i64 fl, .int .i64 fs, .slice A2 f.code.length c2] 39)) (by simp) _ _ _ _)).mono ?_; rintro e w4 ⟨rfl, hB4, hk4, hw4⟩; have hf4 := hk4.held (hf2.alloc _) (by decide) (by decide); have HK0 := Lib.hid (hk4.held ((HK0.out.alloc _).alloc _) (by decide) (by decide)); have HK1 := Lib.hid (hk4.held ((HK1.out.alloc _).alloc _) (by decide) (by decide)); have g3 := hf4.cell 3; simp at g3))
        have hBd4 : Bd w4 w0.heap.size w0.heap.size (encAt p k f 0) := by
          rw [HU0.out]
          exact hB4
        clear hB4 hk4 hw2 hf2 g3 f0 f1 f2 f3
        go_loopw [39] (fun i W => ∃ j : Nat, j ≤ f.code.length ∧ i = .int .i64 j ∧ Bd W w0.heap.size w0.heap.size (encAt p k f j) ∧ KeepT w4 W ∧ Below w0.heap.size w0 W) (fun i _ => f.code.length - (intOf i).toNat)
        case atStart => exact ⟨0, by omega, rfl, hBd4, KeepT.refl _, hw4⟩
        case round =>
          clear hBd4
          obtain ⟨j, hj, rfl, hBj, hkj, hwj⟩ := hrel
          by_cases hltj : j < f.code.length
          · obtain ⟨b2, off2, rfl, hbl2, hd⟩ := (HC.out.below hwj hB0) (by omega)
            obtain ⟨d0, d1, d2⟩ := hd j hltj
            clear hd
            have hx := HALL.out _ (List.getElem_mem hltj)
            have hst := HUS.out j hltj
            have hl2 := HL2f.out j
            generalize f.code[j] = x at *
            obtain ⟨xo, xa, xb⟩ := x
            simp only at hx hst d0 d1 d2
            obtain ⟨_, _, _, _, q0, q2⟩ := row_bounds hx
            obtain ⟨q, hq, hxo⟩ := may_in hx
            obtain ⟨cb, hcb⟩ : ∃ c, c = UInt8.ofNat xo.toNat := ⟨_, rfl⟩
            have hcv : xo % 256 = cb.toNat := by rw [hcb, UInt8.toNat_ofNat']; omega
            have hcv2 : xo = cb.toNat := by rw [hcb, UInt8.toNat_ofNat']; omega
            have CF := fun W hT => Lib.hid (cfields_any xa xb q0 q2 W hT)
            have HI := Lib.hid (flds_in hx)
            have hfn := flds_len xo xa xb
            rw [insE_flat, ← hcb] at hst
            have HST := Lib.hid hst
            have HCV := Lib.hid (And.intro hcv hcv2)
            clear hst hx q0 q2 hq hxo hcb q hcv hcv2
            generalize encAt p k f j = acc2 at *
            generalize flds xo xa xb = ns at *
            have hs2 : acc2.length ≤ 60000 := by omega
            clear hl1 hl2
            have hjz := hwj.size
            have hf5 := hkj.held hf4 (by decide) (by decide)
            have HK0 := Lib.hid (hkj.held HK0.out (by decide) (by decide))
            have HK1 := Lib.hid (hkj.held HK1.out (by decide) (by decide))
            have HBj := Lib.hid hBj
            have hv1 := hwj.alloc hjz (.cells #[.int .i64 xo, .int .i64 xa, .int .i64 xb] 64)
            have hx1 := Held.new wr 64 #[.int .i64 xo, .int .i64 xa, .int .i64 xb]
            have hkA := KeepT.of_below ((Below.refl wr.heap.size wr).alloc (Nat.le_refl _) (.cells #[.int .i64 xo, .int .i64 xa, .int .i64 xb] 64))
            clear hBj hf4
            go_wp2_with (first
              | (go_at_call 42; rw [HCV.out.1]; refine (writeByteK cb (HBj.out.alloc _) (by omega) hv1.size).mono ?_; rintro e v2 ⟨rfl, hB2, hb2, hk2⟩; have hx2 := hk2.held hx1 (by decide) (by decide); have hkB := hkA.trans hk2; have hwA := hv1.trans hb2; have i0 := hx2.cell 0; have i1 := hx2.cell 1; have i2 := hx2.cell 2; have il := hx2.lt; simp at i0 i1 i2)
              | (go_at_call 44; (with_reducible refine (CF _ (HT0.out.below hwA)).out.mono ?_); rintro e v3 ⟨A3, c3, rfl, hA3, hb3⟩; have hkC := hkB.trans (KeepT.of_below hb3); have hwB := hwA.trans (hb3.mono hwA.size); have hB3 := hB2.below hb3)
              | (go_at_call 69; refine (spillP w0 HT0.out (ns := ns) ns.length rfl HI.out (by omega) (by rw [List.length_append]; simp; omega) _ hwB hB3 (hkC.held HK0.out (by decide) (by decide)) (hkC.held HK1.out (by decide) (by decide)) hA3).mono ?_; rintro e v4 ⟨rfl, hB4, hk4, hw4b⟩))
            have hkn := hkj.trans (hkC.trans hk4)
            have hf6 := hk4.held (hkC.held hf5 (by decide) (by decide)) (by decide) (by decide)
            go_roundw
            case rel => exact ⟨j + 1, by omega, by go_num, by rw [HST.out]; simpa using hB4, hkn, hw4b⟩
            case measure => simp [intOf]; omega
          · obtain rfl : j = f.code.length := by omega
            rw [HUA.out] at hBj
            have HK0 := hkj.held HK0.out (by decide) (by decide)
            have HK1 := hkj.held HK1.out (by decide) (by decide)
            go_wp2_with fail
            go_roundw
            case rel => exact ⟨k + 1, by omega, by go_num, hBj, HK0, HK1, hwj⟩
            case measure => simp [intOf]; omega
      · obtain rfl : k = p.length := by omega
        rw [encUp_all, ← HT.out] at hBd
        go_wp2_with (go_at_call 45; refine (string_any hBd hw.size).mono ?_; rintro e w2 ⟨rfl, hb5⟩)
        go_ret
        exact ⟨rfl, Below.step hb0 (hw.trans hb5)⟩

theorem encP_len (p : List Fun) : (encP p).length ≤ 100000 := by
  unfold encP
  split
  · rename_i h
    rw [← encUp_all]
    have := encUp_len h p.length
    omega
  · simp
/-- The digest of bytes. -/
def digD (l : List UInt8) : Int := Cm.rollF 0 l
set_option maxHeartbeats 1000000 in
set_option maxRecDepth 100000 in
theorem cdig_any {B : Nat} {A : Option Addr} {p : List Fun} (c : Nat) (w : World) (hT : TT w) (h : ProgAt w B A p) (hz : SizedP p) (hB : B ≤ w.heap.size) :
    Calls Tryz.prog 21 #[.slice A p.length c] w fun e w' => e = .returned (.int .i64 (digD (encP p))) ∧ Below w.heap.size w w' := by
  have M := Lib.hid (cenc_any c w hT h hz hB)
  have hl := encP_len p
  have C := fun W => Lib.hid (of_any ⟨(encP p).toArray⟩ W (by rw [strb_size]; unfold maxLen; omega))
  generalize encP p = l at *
  clear h hz hl
  go_enter Tryz.func21, Tryz.ntmps21
  go_wp2_with (first
    | (go_at_call 19; (with_reducible refine M.out.mono ?_); rintro e w0 ⟨rfl, hb0⟩)
    | (go_at_call 51; (with_reducible refine (C _).out.mono ?_); rintro e w1 ⟨rfl, hb1⟩))
  go_ret
  exact ⟨rfl, Below.step hb0 hb1⟩
end Go.Proofs.YtcfdbciooimjmaaGreatDoor

