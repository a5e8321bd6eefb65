/- Layer 7: the document's Encode. -/
import Derived.Test.YtcfdbciooimjmaaGreatDoorzPr1
import Derived.Test.YtcfdbciooimjmaaGreatDoorzGb
import Derived.Test.YtcfdbciooimjmaaGreatDoorzGg
import Derived.Test.YtcfdbciooimjmaaGreatDoorzGc
import Derived.Deep.DeepCutAuto
import Derived.Deep.CutBlock
import Derived.Deep.RegionHeld3
namespace Go.Proofs.YtcfdbciooimjmaaGreatDoor
set_option linter.unusedVariables false
set_option linter.unusedSimpArgs false
open Go.RowKit Go.ChangeShapes Go.WideShapes Go.ChangeAt Go.Sort

theorem conv_one (w : World) (c : UInt8) : (convert 66 9 (.slice (some ⟨w.heap.size, 0, none⟩) 1 1)).run Tryz.prog (w.alloc (.cells #[.int .u8 (c.toNat : Int)] 5)) = .ok (.string ⟨#[c]⟩) (w.alloc (.cells #[.int .u8 (c.toNat : Int)] 5)) :=
  run_convert_bytes_back _ 66 9 5 ⟨w.heap.size, 0, none⟩ 1 [c] Tryz.underlying66 Tryz.underlying5 Tryz.underlying9 (by
    intro j hj
    have : j = 0 := by simpa using hj
    subst this
    simp [Addr.add])
theorem rput_ct {n : Int} (h0 : 0 ≤ n) (h1 : n ≤ 1048576) : Ct Tryz.prog 49 #[.int .i64 n] (.string ⟨(putF n).toArray⟩) := fun w => by
  obtain ⟨m, rfl⟩ := Int.eq_ofNat_of_zero_le h0
  exact rput_len m w (by omega)
theorem insE_len (x : Ins) : (insE x).length ≤ 15 := by
  have h1 := putF_len x.2.1
  have h2 := putF_len x.2.2
  unfold insE
  split
  · simp
  · split
    · simp; omega
    · simp; omega
theorem flat_bd {α : Type} (E : α → List UInt8) (n : Nat) : ∀ (l : List α), (∀ x ∈ l, (E x).length ≤ n) → (l.map E).flatten.length ≤ n * l.length
  | [], _ => by simp
  | x :: l, h => by
    have h1 := h x (by simp)
    have h2 := flat_bd E n l (fun y hy => h y (by simp [hy]))
    rw [List.map_cons, List.flatten_cons, List.length_append, List.length_cons, Nat.mul_add]
    omega
def hdE (f : Fun) : List UInt8 := putF f.ar ++ (putF f.lo ++ (putF f.sl ++ putF f.code.length))
theorem hdE_len (f : Fun) : (hdE f).length ≤ 28 := by
  have h1 := putF_len f.ar
  have h2 := putF_len f.lo
  have h3 := putF_len f.sl
  have h4 := putF_len f.code.length
  unfold hdE
  simp
  omega
theorem funE_hd (f : Fun) : funE f = hdE f ++ (f.code.map insE).flatten := by simp [funE, hdE]
theorem funE_len {f : Fun} (h : f.code.length ≤ 200) : (funE f).length ≤ 3028 := by
  have h1 := hdE_len f
  have h2 := flat_bd insE 15 f.code (fun x _ => insE_len x)
  rw [funE_hd, List.length_append]
  omega
/-- What is put ahead of a function. -/
def encUp (p : List Fun) (k : Nat) : List UInt8 := putF p.length ++ ((p.take k).map funE).flatten
/-- What is put ahead of a function's instruction. -/
def encAt (p : List Fun) (k : Nat) (f : Fun) (j : Nat) : List UInt8 := encUp p k ++ hdE f ++ ((f.code.take j).map insE).flatten
theorem encUp_len {p : List Fun} (h : mayP p = true) (k : Nat) : (encUp p k).length ≤ 48455 := by
  obtain ⟨_, h2, h3⟩ := (mayP_iff p).1 h
  have h1 := putF_len p.length
  have h4 := flat_bd funE 3028 (p.take k) (fun f hf => funE_len ((mayF_iff f).1 (h3 f (List.mem_of_mem_take hf))).2.2.1)
  have h5 : (p.take k).length ≤ 16 := by rw [List.length_take]; omega
  have h6 : 3028 * (p.take k).length ≤ 48448 := by omega
  unfold encUp
  rw [List.length_append]
  omega
theorem encAt_len {p : List Fun} (h : mayP p = true) (k : Nat) {f : Fun} (hf : f.code.length ≤ 200) (j : Nat) : (encAt p k f j).length ≤ 51483 := by
  have h1 := encUp_len h k
  have h2 := hdE_len f
  have h3 := flat_bd insE 15 (f.code.take j) (fun x _ => insE_len x)
  have h4 : (f.code.take j).length ≤ 200 := by rw [List.length_take]; omega
  unfold encAt
  rw [List.length_append, List.length_append]
  omega
theorem encUp_zero (p : List Fun) : encUp p 0 = putF p.length := by simp [encUp]
theorem encUp_all (p : List Fun) : encUp p p.length = progE p := by simp [encUp, progE]
theorem encAt_zero (p : List Fun) (k : Nat) (f : Fun) : encAt p k f 0 = encUp p k ++ hdE f := by simp [encAt]
theorem encAt_succ (p : List Fun) (k : Nat) (f : Fun) (j : Nat) (hj : j < f.code.length) : encAt p k f (j + 1) = encAt p k f j ++ insE f.code[j] := by
  unfold encAt
  rw [List.take_succ_eq_append_getElem hj, List.map_append]
  simp
theorem encAt_all (p : List Fun) (k : Nat) (hk : k < p.length) : encAt p k p[k] p[k].code.length = encUp p (k + 1) := by
  unfold encAt encUp
  rw [List.take_length, List.take_succ_eq_append_getElem hk, List.map_append]
  simp [funE_hd]

set_option maxHeartbeats 4000000 in
set_option maxRecDepth 100000 in
theorem penc_any {B : Nat} {A : Option Addr} {p : List Fun} (c : Nat) (w : World) (h : ProgAt w B A p) (hz : SizedP p) (hB : B ≤ w.heap.size) :
    Calls Tryz.prog 20 #[.slice A p.length c] w fun e w' => e = .returned (.string ⟨(encP p).toArray⟩) ∧ Below w.heap.size w w' := by
  have M := Lib.hid (pmay_any c w h hz hB)
  have HA := Lib.hid h
  clear h
  cases hm : mayP p
  · have ht : encP p = [] := by unfold encP; rw [if_neg (by rw [hm]; simp)]
    rw [hm] at M
    have HT := Lib.hid ht
    clear ht hm hz
    go_enter Tryz.func20, Tryz.ntmps20
    go_wp2_with (go_at_call 16; (with_reducible refine M.out.mono ?_); rintro e v ⟨rfl, hb⟩)
    go_ret
    rw [HT.out]
    exact ⟨rfl, hb⟩
  · have ht : encP p = progE p := encP_in hm
    rw [hm] at M
    have HT := Lib.hid ht
    have hzp := ((mayP_iff p).1 hm).2.1
    have hP3 := ((mayP_iff p).1 hm).2.2
    have HP3 := Lib.hid hP3
    have HL1 := Lib.hid (encUp_len hm)
    have HL2 := Lib.hid (fun k (f : Fun) (hf : f.code.length ≤ 200) j => encAt_len hm k hf j)
    have P0 := rput_ct (n := (p.length : Int)) (by omega) (by omega)
    rw [← encUp_zero] at P0
    clear ht hm hz hP3
    go_enter Tryz.func20, Tryz.ntmps20
    go_wp2_with (first
      | (go_at_call 16; (with_reducible refine M.out.mono ?_); rintro e w0 ⟨rfl, hb0⟩)
      | (go_at_call 49; (with_reducible refine (P0.go _).mono ?_); rintro e w1 ⟨rfl, hb1⟩))
    replace hb0 := Below.step hb0 hb1
    clear hb1
    go_loopw [3, 4] (fun s i W => ∃ k : Nat, k ≤ p.length ∧ i = .int .i64 k ∧ s = .string ⟨(encUp p k).toArray⟩ ∧ Below w.heap.size w W) (fun _ i _ => p.length - (intOf i).toNat)
    case atStart => exact ⟨0, by omega, rfl, rfl, hb0⟩
    case round =>
      obtain ⟨k, hk, rfl, rfl, hw⟩ := hrel
      obtain ⟨wo, rfl⟩ : ∃ wo, wo = wr := ⟨_, rfl⟩
      by_cases hlt : k < p.length
      · obtain ⟨b, off, rfl, hbl, hc⟩ := (HA.out.below hw hB) (by omega)
        have hF := hc k hlt
        clear hc
        have hmf := HP3.out _ (List.getElem_mem hlt)
        have hl1 := HL1.out k
        have hu0 := encAt_zero p k p[k]
        have hus := encAt_succ p k p[k]
        have hua := encAt_all p k hlt
        generalize p[k] = f at *
        have HU0 := Lib.hid hu0
        have HUS := Lib.hid hus
        have HUA := Lib.hid hua
        obtain ⟨hh, _, hcl, hall⟩ := (mayF_iff f).1 hmf
        obtain ⟨⟨a0, a1⟩, ⟨l0, l1⟩, s0, s1⟩ := (headB_iff _ _ _).1 hh
        have HL2f := Lib.hid (HL2.out k f hcl)
        have HALL := Lib.hid hall
        obtain ⟨f0, f1, f2, A2, c2, f3, hcode⟩ := hF
        have HC := Lib.hid hcode
        have Q0 := rput_ct a0 (by omega)
        have Q1 := rput_ct l0 (by omega)
        have Q2 := rput_ct s0 (by omega)
        have Q3 := rput_ct (n := (f.code.length : Int)) (by omega) (by omega)
        have m0 := putF_len f.ar
        have m1 := putF_len f.lo
        have m2 := putF_len f.sl
        have m3 := putF_len f.code.length
        have hhd : hdE f = putF f.ar ++ (putF f.lo ++ (putF f.sl ++ putF f.code.length)) := rfl
        have hwz := hw.size
        have hbo : b < wo.heap.size := by omega
        have hBo : B ≤ wo.heap.size := by omega
        clear hcode hus hua hu0 hmf hall hh a0 a1 l0 l1 s0 s1
        generalize encUp p k = acc at *
        generalize putF f.ar = e0 at *
        generalize putF f.lo = e1 at *
        generalize putF f.sl = e2 at *
        generalize putF f.code.length = e3 at *
        have HHD := Lib.hid hhd
        clear hhd
        go_upto_region 8 with (fail)
        have hx := Held.new wo 39 #[.int .i64 f.ar, .int .i64 f.lo, .int .i64 f.sl, .slice A2 f.code.length c2]
        have x0 := hx.cell 0
        have x1 := hx.cell 1
        have x2 := hx.cell 2
        have x3 := hx.cell 3
        have g0 := fun d os => cell_regrown x0 d os
        have g1 := fun d os => cell_regrown x1 d os
        have g2 := fun d os => cell_regrown x2 d os
        have g3 := fun d os => cell_regrown x3 d os
        have HX := Lib.hid hx
        clear x0 x1 x2 x3 hx f0 f1 f2 f3
        refine wp_region_quiet_below (by kernel_rfl) (by kernel_rfl) ?_
        (repeat (first
          | go_big_quiet_step ((first
              | (go_at_call 49; (with_reducible exact Calls.regrown_of (Q0.go _)))
              | (go_at_call 49; (with_reducible exact Calls.regrown_of (Q1.go _)))
              | (go_at_call 49; (with_reducible exact Calls.regrown_of (Q2.go _)))
              | (go_at_call 49; (with_reducible exact Calls.regrown_of (Q3.go _)))))
          | quiet_step ((first
              | (go_at_call 49; (with_reducible exact Calls.regrown_of (Q0.go _)))
              | (go_at_call 49; (with_reducible exact Calls.regrown_of (Q1.go _)))
              | (go_at_call 49; (with_reducible exact Calls.regrown_of (Q2.go _)))
              | (go_at_call 49; (with_reducible exact Calls.regrown_of (Q3.go _)))))))
        refine wpQuiet_nil ?_
        intro v hv
        have hb := below_of_regrown hv
        clear hv g0 g1 g2 g3
        replace HX := Lib.hid (HX.out.below hb)
        replace hb := below_laid hb
        have hwv := Below.step hw hb
        have hvz := hb.size
        have hbv : b < v.heap.size := by omega
        have hBv : B ≤ v.heap.size := by omega
        have hxl := HX.out.lt
        go_wp2_with fail
        go_loopw [3, 6] (fun s i W => ∃ j : Nat, j ≤ f.code.length ∧ i = .int .i64 j ∧ s = .string ⟨(encAt p k f j).toArray⟩ ∧ Below v.heap.size v W) (fun _ i _ => f.code.length - (intOf i).toNat)
        case atStart => exact ⟨0, by omega, rfl, by rw [HU0.out, HHD.out]; apply congrArg Value.string; apply ByteArray.ext; simp, Below.refl _ _⟩
        case round =>
          obtain ⟨j, hj, rfl, rfl, hwi⟩ := hrel
          have x3 := (HX.out.below hwi).cell 3
          simp at x3
          have hxlw := (HX.out.below hwi).lt
          have hwiz := hwi.size
          by_cases hltj : j < f.code.length
          · obtain ⟨b2, off2, rfl, hbl2, hd⟩ := ((HC.out.below hb hBo).below hwi hBv) (by omega)
            obtain ⟨d0, d1, d2⟩ := hd j hltj
            clear hd
            have hx := HALL.out _ (List.getElem_mem hltj)
            have hst := HUS.out j hltj
            have hl2 := HL2f.out j
            generalize f.code[j] = x at *
            obtain ⟨xo, xa, xb⟩ := x
            simp only at hx hst d0 d1 d2
            obtain ⟨⟨a0, a1⟩, ⟨b0, b1⟩, fa, fb, ff0, ff2⟩ := row_bounds hx
            obtain ⟨q, hq, hxo⟩ := may_in hx
            have RF := rfields_any xo
            have QA := rput_ct a0 (by omega)
            have QB := rput_ct b0 (by omega)
            have ma := putF_len xa
            have mb := putF_len xb
            have he : insE (xo, xa, xb) = UInt8.ofNat xo.toNat :: (if (rz xo).f < 1 then [] else if (rz xo).f < 2 then putF xa else putF xa ++ putF xb) := rfl
            obtain ⟨cb, hcb⟩ : ∃ c, c = UInt8.ofNat xo.toNat := ⟨_, rfl⟩
            have hcv : xo % 256 = cb.toNat := by rw [hcb, UInt8.toNat_ofNat']; omega
            have hcv2 : xo = cb.toNat := by rw [hcb, UInt8.toNat_ofNat']; omega
            have HCV2 := Lib.hid hcv2
            rw [← hcb] at he
            clear fa fb hx hq hxo hcb a0 a1 b0 b1 q hcv2
            generalize encAt p k f j = acc2 at *
            generalize putF xa = ea at *
            generalize putF xb = eb at *
            generalize (rz xo).f = ff at *
            have HST := Lib.hid hst
            clear hst
            have hs2 : acc2.length + 15 ≤ 9223372036854775807 := by omega
            clear hl2 hl1
            have cw := conv_one (wr.alloc (.cells #[.int .i64 xo, .int .i64 xa, .int .i64 xb] 64)) cb
            rw [World.size_alloc] at cw
            rcases (show ff = 0 ∨ ff = 1 ∨ ff = 2 by omega) with rfl | rfl | rfl
            · have he2 : insE (xo, xa, xb) = cb :: [] := he
              have HE := Lib.hid he2
              clear he he2
              go_wp2_with (first
                | (go_at_call 50; (with_reducible refine (RF.go _).mono ?_); rintro e v ⟨rfl, rfl⟩))
              go_roundw
              case rel => exact ⟨j + 1, by omega, by go_num, by rw [HST.out, HE.out]; apply congrArg Value.string; apply ByteArray.ext; simp, Below.step hwi (below2 _ _ _)⟩
              case measure => simp [intOf]; omega
            · have he2 : insE (xo, xa, xb) = cb :: ea := he
              have HE := Lib.hid he2
              clear he he2
              go_wp2_with (first
                | (go_at_call 50; (with_reducible refine (RF.go _).mono ?_); rintro e v ⟨rfl, rfl⟩)
                | (go_at_call 49; (with_reducible refine (QA.go _).mono ?_); rintro e v5 ⟨rfl, hb5⟩; have h7 := ((Held.new wr 64 #[.int .i64 xo, .int .i64 xa, .int .i64 xb]).alloc _).below hb5; have k0 := h7.cell 0; have k1 := h7.cell 1; have k2 := h7.cell 2; simp at k0 k1 k2; have hl7 := h7.lt; have hw5 := Below.step (Below.step hwi (below2 _ _ _)) hb5))
              go_roundw
              case rel => exact ⟨j + 1, by omega, by go_num, by rw [HST.out, HE.out]; apply congrArg Value.string; apply ByteArray.ext; simp, hw5⟩
              case measure => simp [intOf]; omega
            · have he2 : insE (xo, xa, xb) = cb :: (ea ++ eb) := he
              have HE := Lib.hid he2
              clear he he2
              go_wp2_with (first
                | (go_at_call 50; (with_reducible refine (RF.go _).mono ?_); rintro e v ⟨rfl, rfl⟩)
                | (go_at_call 49; (with_reducible refine (QA.go _).mono ?_); rintro e v5 ⟨rfl, hb5⟩; have h7 := ((Held.new wr 64 #[.int .i64 xo, .int .i64 xa, .int .i64 xb]).alloc _).below hb5; have k0 := h7.cell 0; have k1 := h7.cell 1; have k2 := h7.cell 2; simp at k0 k1 k2; have hl7 := h7.lt; have hw5 := Below.step (Below.step hwi (below2 _ _ _)) hb5)
                | (go_at_call 49; (with_reducible refine (QB.go _).mono ?_); rintro e v6 ⟨rfl, hb6⟩; have hw6 := Below.step hw5 hb6))
              go_roundw
              case rel => exact ⟨j + 1, by omega, by go_num, by rw [HST.out, HE.out]; apply congrArg Value.string; apply ByteArray.ext; simp, hw6⟩
              case measure => simp [intOf]; omega
          · obtain rfl : j = f.code.length := by omega
            rw [HUA.out]
            go_wp2_with fail
            go_roundw
            case rel => exact ⟨k + 1, by omega, by go_num, rfl, Below.step hwv hwi⟩
            case measure => simp [intOf]; omega
      · obtain rfl : k = p.length := by omega
        rw [encUp_all, ← HT.out] at *
        go_wp2_with fail
        go_ret
        exact ⟨rfl, hw⟩
end Go.Proofs.YtcfdbciooimjmaaGreatDoor

