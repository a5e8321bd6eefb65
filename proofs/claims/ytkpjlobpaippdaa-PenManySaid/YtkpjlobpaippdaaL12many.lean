/- PenMany. -/
import Derived.Test.YtkpjlobpaippdaaYl
import Derived.Test.YtkpjlobpaippdaaYz
import Derived.Test.YtkpjlobpaippdaaYfl
import Derived.Test.YtkpjlobpaippdaaYq2
import Derived.Test.YtkpjlobpaippdaaYof
import Derived.Test.YtkpjlobpaippdaaYmn
import Derived.Deep.DeepCutAuto
import Derived.Deep.CutBlock
namespace Go.Proofs.Ytkpjlobpaippdaa.penMany
set_option linter.unusedVariables false
set_option linter.unusedSimpArgs false
open Go.RowKit Go.ChangeShapes Go.WideShapes Go.ChangeAt Go.Sort Go.Proofs.Ytkpjlobpaippdaa

structure FL (W : World) (A : Option Addr) (l : List Frm) : Prop where
  p : FsAt W W.heap.size A l
theorem FL.below {W W' : World} {A : Option Addr} {l : List Frm} (h : FL W A l) (hb : Below W.heap.size W W') : FL W' A l := ⟨h.p.later hb⟩
theorem FL.set {W : World} {A : Option Addr} {l : List Frm} {g : Nat} {cs : Array Value} (h : FL W A l) (hg : Held W g 25 cs) (cs' : Array Value) (hl : ∀ b off, A = some ⟨b, off, none⟩ → b < g) : FL W A l := h
def mi (i m : Nat) : Nat := if i < m then i else m
set_option maxHeartbeats 8000000 in
set_option maxRecDepth 100000 in
theorem walk (CF : ∀ w, Calls Try.prog 11 #[] w fun e w' => e = .returned (.bool true) ∧ Below w.heap.size w w') {Al : Option Addr} {l : List Frm} {nl : Nat} (most : Int) (cl : Nat) (w : World) (hfl : FsAt w w.heap.size Al l) (hl : l.length = nl) :
    Calls Try.prog 6 #[.int .i64 most, .slice Al nl cl] w fun e w' => e = .returned (.bool true) ∧ Below w.heap.size w w' := by
  have hW : Below w.heap.size w w := Below.refl _ _
  have HFL := Lib.hid hfl
  have HL := Lib.hid hl
  have hnl0 : (0 : Int) ≤ nl := by omega
  clear hl hfl
  have hcs : (decide ((20 : Int) < nl) = true) ∨ (decide ((20 : Int) < nl) = false ∧ decide (most < 1) = true) ∨ (decide ((20 : Int) < nl) = false ∧ decide (most < 1) = false ∧ decide (30 < most) = true) ∨ (decide ((20 : Int) < nl) = false ∧ decide (most < 1) = false ∧ decide (30 < most) = false ∧ nl ≤ 20 ∧ 1 ≤ most ∧ most ≤ 30) := by
    simp only [decide_eq_true_eq, decide_eq_false_iff_not]
    omega
  go_enter Try.func6, Try.ntmps6
  go_upto_region 1 with (fail)
  rcases hcs with e1 | ⟨e1, e2⟩ | ⟨e1, e2, e3⟩ | ⟨e1, e2, e3, hnl, hm1, hm30⟩
  case inl =>
    go_wp2_with (first
      | (go_at_call 11; (with_reducible refine (CF _).mono ?_); rintro _ uf ⟨rfl, hbf⟩; replace hW := Below.step hW hbf))
    go_ret
    exact ⟨rfl, hW⟩
  case inr.inl =>
    go_wp2_with (first
      | (go_at_call 11; (with_reducible refine (CF _).mono ?_); rintro _ uf ⟨rfl, hbf⟩; replace hW := Below.step hW hbf))
    go_ret
    exact ⟨rfl, hW⟩
  case inr.inr.inl =>
    go_wp2_with (first
      | (go_at_call 11; (with_reducible refine (CF _).mono ?_); rintro _ uf ⟨rfl, hbf⟩; replace hW := Below.step hW hbf))
    go_ret
    exact ⟨rfl, hW⟩
  case inr.inr.inr =>
    go_upto_region 3 with (first
      | (go_at_call 11; (with_reducible refine (CF _).mono ?_); rintro _ uf ⟨rfl, hbf⟩; replace hW := Below.step hW hbf))
    clear e1 e2 e3
    obtain ⟨mt, rfl⟩ : ∃ m : Nat, most = m := ⟨most.toNat, by omega⟩
    have HM1 := Lib.hid (show 1 ≤ mt ∧ mt ≤ 30 ∧ (1 : Int) ≤ mt ∧ (mt : Int) ≤ 1024 from ⟨by omega, by omega, hm1, by omega⟩)
    have NW := mn_new HM1.out.2.2.1 HM1.out.2.2.2
    go_upto_region 4 with (first
      | (go_at_call 20; (with_reducible refine (new_c NW _).mono ?_); rintro _ u ⟨rfl, ho, hb⟩; have hn := Held.new u 25 pz0)
      | (guard_target = wpList _ _ _ (Oper.mk _ (Op.store 25 (.tmp 5) _) _ _ _ none :: _) _ _; refine wpList_store_row rfl 25 _ _ rfl u.heap.size (pc none (Mn (mt : Int) []).cells.length 0 none (Mn (mt : Int) []).free.length 0 (Mn (mt : Int) []).most) rfl rfl _ _ hn (by kernel_rfl) rfl (by simp [Value.oneCell']) ?_))
    obtain ⟨v5, hbW⟩ := new_p1 (c := 0) (c2 := 0) (P := Mn (mt : Int) []) hb ho
    have hg5 : w.heap.size ≤ u.heap.size := Nat.le_trans hW.size hb.size
    clear ho hn hb
    replace hW := Below.step hW hbW
    clear hbW NW
    generalize World.setRow _ u.heap.size _ = W3 at *
    generalize u.heap.size = g5 at *
    have hbE := ((Below.refl _ _).alloc (Nat.le_refl _) _ : Below W3.heap.size W3 (W3.alloc (.cells #[] 27)))
    have hol : OwnR _ w.heap.size _ _ := r_mono (Own2.made 27 W3) hW.size
    go_upto_region 5 with (first
      | (refine wpList_plain rfl fun K hK => wp_build0R rfl (hK _ _ ?_)))
    replace v5 := v5.below hbE
    replace hW := Below.step hW hbE
    clear hbE
    generalize W3.alloc (.cells #[] 27) = W4 at *
    generalize W3.heap.size = g7 at *
    have fl0 : FL w Al l := ⟨HFL.out⟩
    have fl := fl0.below hW
    have hLT : ∀ b off, Al = some ⟨b, off, none⟩ → 0 < nl → b < g5 := fun b off eA h0 => by
      obtain ⟨b', off', e', hb', -⟩ := HFL.out (by rw [HL.out]; exact h0)
      rw [eA] at e'
      simp only [Option.some.injEq, Addr.mk.injEq, and_true] at e'
      omega
    have HLT := Lib.hid hLT
    have HG5 := Lib.hid hg5
    have hF0 : ∀ f ∈ l.take 0, FrmLen f := by simp
    clear hLT hg5 fl0
    go_upto_region 6 with (fail)
    go_loopw [8, 7] (fun iv sv W => ∃ (i : Nat) (A7 : Option Addr) (c7 : Nat) (A c A2 c2 : _), iv = .int .i64 i ∧ sv = .slice A7 (mi i mt) c7 ∧ i ≤ nl ∧ OwnR W w.heap.size (.slice A7 (mi i mt) c7) (rm (mi i mt)) ∧ PV W g5 A c A2 c2 (Mn (mt : Int) (l.take (mi i mt))) ∧ FL W Al l ∧ Below w.heap.size w W ∧ (∀ f ∈ l.take i, FrmLen f)) (fun iv _ _ => nl - (intOf iv).toNat)
    case atStart =>
      have h0 : mi 0 mt = 0 := by unfold mi; rw [if_pos (by have := HM1.out.1; omega)]
      rw [show (Value.slice (some ⟨g7, 0, none⟩) 0 0) = .slice (some ⟨g7, 0, none⟩) (mi 0 mt) 0 by rw [h0]]
      exact ⟨0, _, _, _, _, _, _, rfl, rfl, by omega, by rw [h0]; exact hol, by rw [h0]; exact v5, fl, hW, hF0⟩
    case round =>
      clear v5 fl hW hol hF0
      obtain ⟨i, A7, c7, A, c, A2, c2, rfl, rfl, hi, w7, v5, fl, hW, hF⟩ := hrel
      have hi0 : (0 : Int) ≤ i := by omega
      obtain ⟨mm, hmm⟩ : ∃ z, z = mi i mt := ⟨_, rfl⟩
      rw [← hmm] at w7 v5 ⊢
      have HMM := Lib.hid hmm
      have HF := Lib.hid hF
      clear hmm hF
      have hml : mm ≤ i ∧ mm ≤ 30 := by
        have := HMM.out
        unfold mi at this
        split at this <;> omega
      by_cases hlt : i < nl
      · have hlt2 : (i : Int) < (nl : Nat) := by omega
        have hil : i < l.length := by rw [HL.out]; exact hlt
        obtain ⟨b, off, eA, hb0, hr⟩ := fl.p (by omega)
        obtain ⟨fs, s1, s2, s3, s4⟩ := hr i hil
        have hbg := HLT.out b off eA (by omega)
        subst eA
        have S1 := Lib.hid s1
        have HLF : ∀ h : smB l[i] = true, FrmLen l[i] := sm_frm
        generalize hfi : l[i] = f at *
        have HFI := Lib.hid hfi
        have HR := Lib.hid s4
        have HFA := Lib.hid s3
        have HBB := Lib.hid (And.intro hb0 hbg)
        obtain ⟨sb, hsb⟩ : ∃ u, smB f = u := ⟨_, rfl⟩
        have HSB := Lib.hid hsb
        have LPm : LenZ (Mn (mt : Int) (l.take mm)) := (mn_sm (k := 30) (by rw [List.length_take]; omega) (fun f hf => HF.out f (List.take_subset_take_left l hml.1 hf))).len (by decide)
        clear hr s1 s3 s4 hsb hfi hb0 hbg
        cases sb with
        | false =>
          go_wp2_with (first
            | (refine wpList_load_midA rfl 35 _ rfl b (off + i * 16) rfl fs _ HR.out Try.underlying35 rfl (by rw [S1.out]; kernel_rfl) ?_)
            | (go_at_call 10; (with_reducible refine (smallf_c HSB.out _ HFA.out).mono ?_); rintro _ u9 ⟨rfl, hb9⟩))
          go_ret
          exact ⟨rfl, Below.step hW hb9⟩
        | true =>
          have LF := HLF HSB.out
          go_upto_region 10 with (first
            | (refine wpList_load_midA rfl 35 _ rfl b (off + i * 16) rfl fs _ HR.out Try.underlying35 rfl (by rw [S1.out]; kernel_rfl) ?_)
            | (go_at_call 10; (with_reducible refine (smallf_c HSB.out _ HFA.out).mono ?_); rintro _ u9 ⟨rfl, hb9⟩))
          have hcell := HBB.out.1
          have hR9 := range_keep HR.out (hb9.block b hcell)
          have hF9 := (HFA.out.below hb9 (Nat.le_refl _)).more hb9.size
          have hbl : b < u9.heap.size := Nat.lt_of_lt_of_le hcell hb9.size
          replace v5 := v5.below hb9
          replace w7 := own_later w7 hb9
          replace fl := fl.below hb9
          replace hW := Below.step hW hb9
          clear hb9 hcell HR HFA
          obtain ⟨⟨S, r, x⟩, hLY⟩ : ∃ S, layZ (Mn (mt : Int) (l.take mm)) f = S := ⟨_, rfl⟩
          have HLY := Lib.hid hLY
          clear hLY
          go_cut [9, 10, 11] from 61 to 82 (fun va vb ve wx => ∃ k9 k10 A9 c9 B9 d9, va = .pointer (some ⟨k9, 0, none⟩) ∧ vb = .pointer (some ⟨k10, 0, none⟩) ∧ ve = .int .i64 x ∧ PV wx k9 A9 c9 B9 d9 S ∧ Held wx k10 27 (refc r.1 r.2) ∧ u9.heap.size ≤ k9 ∧ u9.heap.size ≤ k10 ∧ Below u9.heap.size u9 wx)
          case first =>
            have hdr := (Below.refl u9.heap.size u9).drew
            have HDR := Lib.hid hdr
            replace v5 := v5.below hdr
            replace hR9 := range_keep hR9 (hdr.block b hbl)
            replace hF9 := (hF9.below hdr (Nat.le_refl _)).more hdr.size
            replace hbl : b < u9.drew.heap.size := hbl
            clear hdr
            refine wp_region_held_drew (S := fun W => Below u9.drew.heap.size u9.drew W) (by kernel_rfl) (Below.refl _ _) (fun hS => ?_)
            generalize u9.drew = Wq at *
            show wpAnyH _ _ _ _ _ 15 #[false, false, false, false, false, false, false, false, false, false, false, false, false, false, false] _ _
            refine wpAnyH_begin (by kernel_rfl) (fun HNS => ?_)
            refine wpAnyH_takeS HNS (i := 0) (v := .agg (pc A (Mn (mt : Int) (l.take mm)).cells.length c A2 (Mn (mt : Int) (l.take mm)).free.length c2 (Mn (mt : Int) (l.take mm)).most)) rfl (by kernel_rfl) (by kernel_rfl) (fun _ _ _ h => h) (Or.inl ⟨by kernel_rfl, fun W hW => ?_⟩) hS ?_
            · (have hz := Held.below v5.x hW; have z0 := hz.cell 0; have z1 := hz.cell 1; have z2 := hz.cell 2; simp at z0 z1 z2; go_simp)
            simp only [Act.put, List.getElem_toArray, List.getElem_cons_succ, List.getElem_cons_zero, List.setIfInBounds_toArray, List.set_cons_zero, List.set_cons_succ]
            refine wpAnyH_takeS HNS (i := 1) (v := .slice (some ⟨b, off, none⟩) nl cl) rfl (by kernel_rfl) (by kernel_rfl) (fun _ _ _ h => h) (Or.inl ⟨by kernel_rfl, fun W hW => ?_⟩) hS ?_
            · go_simp
            simp only [Act.put, List.getElem_toArray, List.getElem_cons_succ, List.getElem_cons_zero, List.setIfInBounds_toArray, List.set_cons_zero, List.set_cons_succ]
            refine wpAnyH_takeS HNS (i := 2) (v := .int .i64 i) rfl (by kernel_rfl) (by kernel_rfl) (fun _ _ _ h => h) (Or.inl ⟨by kernel_rfl, fun W hW => ?_⟩) hS ?_
            · go_simp
            simp only [Act.put, List.getElem_toArray, List.getElem_cons_succ, List.getElem_cons_zero, List.setIfInBounds_toArray, List.set_cons_zero, List.set_cons_succ]
            refine wpAnyH_takeS HNS (i := 3) (v := .pointer (some ⟨b, off + i * 16, none⟩)) rfl (by kernel_rfl) (by kernel_rfl) (fun _ _ _ h => h) (Or.inl ⟨by kernel_rfl, fun W hW => ?_⟩) hS ?_
            · go_simp
            simp only [Act.put, List.getElem_toArray, List.getElem_cons_succ, List.getElem_cons_zero, List.setIfInBounds_toArray, List.set_cons_zero, List.set_cons_succ]
            refine wpAnyH_takeS HNS (i := 4) (v := .agg fs) rfl (by kernel_rfl) (by kernel_rfl) (fun _ _ _ h => h) (yieldsIf_load_midA (by kernel_rfl) 35 _ rfl b (off + i * 16) (by rfl) fs _ (fun W hW => range_keep hR9 (hW.block b hbl)) Try.underlying35 rfl (by rw [S1.out]; kernel_rfl)) hS ?_
            simp only [Act.put, List.getElem_toArray, List.getElem_cons_succ, List.getElem_cons_zero, List.setIfInBounds_toArray, List.set_cons_zero, List.set_cons_succ]
            refine wpAnyH_ready (rs := [5, 10, 11]) (by kernel_rfl) (by simp) ?_
            refine (AllReadyH.cons rfl (fun K hK => ?_) (AllReadyH.cons rfl (fun K hK => ?_) (AllReadyH.cons rfl (fun K hK => ?_) AllReadyH.nil)))
            · rw [if_pos (by kernel_rfl)]
              go_simp
              go_at_call 12
              (with_reducible refine (lay_c HLY.out LPm LF _ _ _ (v5.below hS).p S1.out ((hF9.below hS (Nat.le_refl _)).more hS.size)).mono ?_)
              rintro _ u1 ⟨A1, c1, B1, d1, rfl, ho1, hb1⟩
              replace hS := Below.step hS hb1
              have hoz := OwnZ.mono ho1 (Nat.zero_le _)
              (repeat (first | go_skip | go_guarded | go_step | go_upon))
              refine hK.out _ _ hS (fun _ => ?_)
              clear hK K
              (try simp only [Act.put, List.getElem_toArray, List.getElem_cons_succ, List.getElem_cons_zero, List.setIfInBounds_toArray, List.set_cons_zero, List.set_cons_succ])
              refine wpAnyH_takeS HNS (i := 6) (v := .tuple #[.agg (pc A1 S.cells.length c1 B1 S.free.length d1 S.most), .agg (refc r.1 r.2), .int .i64 x]) rfl (by kernel_rfl) (by kernel_rfl) (fun _ _ _ h => h) (Or.inl ⟨by kernel_rfl, fun W hW => ?_⟩) hS ?_
              · go_simp
              simp only [Act.put, List.getElem_toArray, List.getElem_cons_succ, List.getElem_cons_zero, List.setIfInBounds_toArray, List.set_cons_zero, List.set_cons_succ]
              refine wpAnyH_takeS HNS (i := 7) (v := .agg (pc A1 S.cells.length c1 B1 S.free.length d1 S.most)) rfl (by kernel_rfl) (by kernel_rfl) (fun _ _ _ h => h) (Or.inl ⟨by kernel_rfl, fun W hW => ?_⟩) hS ?_
              · go_simp
              simp only [Act.put, List.getElem_toArray, List.getElem_cons_succ, List.getElem_cons_zero, List.setIfInBounds_toArray, List.set_cons_zero, List.set_cons_succ]
              refine wpAnyH_takeS HNS (i := 8) (v := .agg (refc r.1 r.2)) rfl (by kernel_rfl) (by kernel_rfl) (fun _ _ _ h => h) (Or.inl ⟨by kernel_rfl, fun W hW => ?_⟩) hS ?_
              · go_simp
              simp only [Act.put, List.getElem_toArray, List.getElem_cons_succ, List.getElem_cons_zero, List.setIfInBounds_toArray, List.set_cons_zero, List.set_cons_succ]
              refine wpAnyH_takeS HNS (i := 9) (v := .int .i64 x) rfl (by kernel_rfl) (by kernel_rfl) (fun _ _ _ h => h) (Or.inl ⟨by kernel_rfl, fun W hW => ?_⟩) hS ?_
              · go_simp
              simp only [Act.put, List.getElem_toArray, List.getElem_cons_succ, List.getElem_cons_zero, List.setIfInBounds_toArray, List.set_cons_zero, List.set_cons_succ]
              refine wpAnyH_ready (rs := [10, 11]) (by kernel_rfl) (by simp) ?_
              refine (AllReadyH.cons rfl (fun K hK => ?_) (AllReadyH.cons rfl (fun K hK => ?_) AllReadyH.nil))
              · rw [if_pos (by kernel_rfl)]
                refine wp_alloc_R 25 rfl pz0 (by kernel_rfl) ?_
                have hbA := ((Below.refl _ _).alloc (Nat.le_refl _) _ : Below u1.heap.size u1 (u1.alloc (.cells pz0 25)))
                replace hoz := OwnZ.below hoz hbA
                have hpn := Held.new u1 25 pz0
                have lhpn := hS.size
                replace hS := Below.step hS hbA
                clear hbA
                generalize u1.alloc (.cells pz0 25) = Wd2 at *
                refine hK.out _ _ hS (fun _ => ?_)
                clear hK K
                (try simp only [Act.put, List.getElem_toArray, List.getElem_cons_succ, List.getElem_cons_zero, List.setIfInBounds_toArray, List.set_cons_zero, List.set_cons_succ])
                refine wpAnyH_ready (rs := [11]) (by kernel_rfl) (by simp) ?_
                refine (AllReadyH.cons rfl (fun K hK => ?_) AllReadyH.nil)
                · rw [if_pos (by kernel_rfl)]
                  refine wp_alloc_R 27 rfl (refc 0 0) (by kernel_rfl) ?_
                  have nhpnhrf : u1.heap.size ≠ Wd2.heap.size := Nat.ne_of_lt (Held.lt hpn)
                  have hbA := ((Below.refl _ _).alloc (Nat.le_refl _) _ : Below Wd2.heap.size Wd2 (Wd2.alloc (.cells (refc 0 0) 27)))
                  replace hpn := Held.below hpn hbA
                  replace hoz := OwnZ.below hoz hbA
                  have hrf := Held.new Wd2 27 (refc 0 0)
                  have lhrf := hS.size
                  replace hS := Below.step hS hbA
                  clear hbA
                  generalize Wd2.alloc (.cells (refc 0 0) 27) = Wd3 at *
                  refine hK.out _ _ hS (fun _ => ?_)
                  clear hK K
                  (try simp only [Act.put, List.getElem_toArray, List.getElem_cons_succ, List.getElem_cons_zero, List.setIfInBounds_toArray, List.set_cons_zero, List.set_cons_succ])
                  refine wpAnyH_ready (rs := [12]) (by kernel_rfl) (by simp) ?_
                  refine (AllReadyH.cons rfl (fun K hK => ?_) AllReadyH.nil)
                  · rw [if_pos (by kernel_rfl)]
                    refine wp_store_row 25 _ _ rfl _ (pc A1 S.cells.length c1 B1 S.free.length d1 S.most) (by rfl) (by rfl) _ _ hpn (by kernel_rfl) rfl (by simp [Value.oneCell']) ?_
                    replace hoz := OwnZ.kt hoz (kt_row hpn (pc A1 S.cells.length c1 B1 S.free.length d1 S.most)) (by decide) (by decide) (by decide) (by decide)
                    replace hrf := held_row hrf (Ne.symm nhpnhrf) (pc A1 S.cells.length c1 B1 S.free.length d1 S.most)
                    replace hS := below_setRow hS lhpn (pc A1 S.cells.length c1 B1 S.free.length d1 S.most)
                    replace hpn := held_rowSelf hpn (pc A1 S.cells.length c1 B1 S.free.length d1 S.most)
                    generalize World.setRow _ _ (pc A1 S.cells.length c1 B1 S.free.length d1 S.most) = Wd4 at *
                    refine hK.out _ _ hS (fun _ => ?_)
                    clear hK K
                    (try simp only [Act.put, List.getElem_toArray, List.getElem_cons_succ, List.getElem_cons_zero, List.setIfInBounds_toArray, List.set_cons_zero, List.set_cons_succ])
                    refine wpAnyH_ready (rs := [13]) (by kernel_rfl) (by simp) ?_
                    refine (AllReadyH.cons rfl (fun K hK => ?_) AllReadyH.nil)
                    · rw [if_pos (by kernel_rfl)]
                      refine wp_store_row 27 _ _ rfl _ (refc r.1 r.2) (by rfl) (by rfl) _ _ hrf (by kernel_rfl) rfl (by simp [Value.oneCell']) ?_
                      replace hoz := OwnZ.kt hoz (kt_row hrf (refc r.1 r.2)) (by decide) (by decide) (by decide) (by decide)
                      replace hpn := held_row hpn nhpnhrf (refc r.1 r.2)
                      replace hS := below_setRow hS lhrf (refc r.1 r.2)
                      replace hrf := held_rowSelf hrf (refc r.1 r.2)
                      generalize World.setRow _ _ (refc r.1 r.2) = Wd5 at *
                      refine hK.out _ _ hS (fun _ => ?_)
                      clear hK K
                      (try simp only [Act.put, List.getElem_toArray, List.getElem_cons_succ, List.getElem_cons_zero, List.setIfInBounds_toArray, List.set_cons_zero, List.set_cons_succ])
                      refine wpAnyH_takeS HNS (i := 14) (v := .int .i64 x) rfl (by kernel_rfl) (by kernel_rfl) (fun _ _ _ h => h) (Or.inl ⟨by kernel_rfl, fun W hW => ?_⟩) hS ?_
                      · go_simp
                      simp only [Act.put, List.getElem_toArray, List.getElem_cons_succ, List.getElem_cons_zero, List.setIfInBounds_toArray, List.set_cons_zero, List.set_cons_succ]
                      refine wpAnyH_done (by kernel_rfl) ?_ _
                      go_wp2_with fail
                      go_meet
                      case rel => exact ⟨_, _, _, _, _, _, rfl, rfl, rfl, ⟨hpn, hoz⟩, hrf, Nat.le_trans HDR.out.size lhpn, Nat.le_trans HDR.out.size lhrf, Below.step HDR.out hS⟩
              · rw [if_pos (by kernel_rfl)]
                refine wp_alloc_R 27 rfl (refc 0 0) (by kernel_rfl) ?_
                have hbA := ((Below.refl _ _).alloc (Nat.le_refl _) _ : Below u1.heap.size u1 (u1.alloc (.cells (refc 0 0) 27)))
                replace hoz := OwnZ.below hoz hbA
                have hrf := Held.new u1 27 (refc 0 0)
                have lhrf := hS.size
                replace hS := Below.step hS hbA
                clear hbA
                generalize u1.alloc (.cells (refc 0 0) 27) = Wd6 at *
                refine hK.out _ _ hS (fun _ => ?_)
                clear hK K
                (try simp only [Act.put, List.getElem_toArray, List.getElem_cons_succ, List.getElem_cons_zero, List.setIfInBounds_toArray, List.set_cons_zero, List.set_cons_succ])
                refine wpAnyH_ready (rs := [10]) (by kernel_rfl) (by simp) ?_
                refine (AllReadyH.cons rfl (fun K hK => ?_) AllReadyH.nil)
                · rw [if_pos (by kernel_rfl)]
                  refine wp_alloc_R 25 rfl pz0 (by kernel_rfl) ?_
                  have nhrfhpn : u1.heap.size ≠ Wd6.heap.size := Nat.ne_of_lt (Held.lt hrf)
                  have hbA := ((Below.refl _ _).alloc (Nat.le_refl _) _ : Below Wd6.heap.size Wd6 (Wd6.alloc (.cells pz0 25)))
                  replace hrf := Held.below hrf hbA
                  replace hoz := OwnZ.below hoz hbA
                  have hpn := Held.new Wd6 25 pz0
                  have lhpn := hS.size
                  replace hS := Below.step hS hbA
                  clear hbA
                  generalize Wd6.alloc (.cells pz0 25) = Wd7 at *
                  refine hK.out _ _ hS (fun _ => ?_)
                  clear hK K
                  (try simp only [Act.put, List.getElem_toArray, List.getElem_cons_succ, List.getElem_cons_zero, List.setIfInBounds_toArray, List.set_cons_zero, List.set_cons_succ])
                  refine wpAnyH_ready (rs := [12]) (by kernel_rfl) (by simp) ?_
                  refine (AllReadyH.cons rfl (fun K hK => ?_) AllReadyH.nil)
                  · rw [if_pos (by kernel_rfl)]
                    refine wp_store_row 25 _ _ rfl _ (pc A1 S.cells.length c1 B1 S.free.length d1 S.most) (by rfl) (by rfl) _ _ hpn (by kernel_rfl) rfl (by simp [Value.oneCell']) ?_
                    replace hoz := OwnZ.kt hoz (kt_row hpn (pc A1 S.cells.length c1 B1 S.free.length d1 S.most)) (by decide) (by decide) (by decide) (by decide)
                    replace hrf := held_row hrf nhrfhpn (pc A1 S.cells.length c1 B1 S.free.length d1 S.most)
                    replace hS := below_setRow hS lhpn (pc A1 S.cells.length c1 B1 S.free.length d1 S.most)
                    replace hpn := held_rowSelf hpn (pc A1 S.cells.length c1 B1 S.free.length d1 S.most)
                    generalize World.setRow _ _ (pc A1 S.cells.length c1 B1 S.free.length d1 S.most) = Wd8 at *
                    refine hK.out _ _ hS (fun _ => ?_)
                    clear hK K
                    (try simp only [Act.put, List.getElem_toArray, List.getElem_cons_succ, List.getElem_cons_zero, List.setIfInBounds_toArray, List.set_cons_zero, List.set_cons_succ])
                    refine wpAnyH_ready (rs := [13]) (by kernel_rfl) (by simp) ?_
                    refine (AllReadyH.cons rfl (fun K hK => ?_) AllReadyH.nil)
                    · rw [if_pos (by kernel_rfl)]
                      refine wp_store_row 27 _ _ rfl _ (refc r.1 r.2) (by rfl) (by rfl) _ _ hrf (by kernel_rfl) rfl (by simp [Value.oneCell']) ?_
                      replace hoz := OwnZ.kt hoz (kt_row hrf (refc r.1 r.2)) (by decide) (by decide) (by decide) (by decide)
                      replace hpn := held_row hpn (Ne.symm nhrfhpn) (refc r.1 r.2)
                      replace hS := below_setRow hS lhrf (refc r.1 r.2)
                      replace hrf := held_rowSelf hrf (refc r.1 r.2)
                      generalize World.setRow _ _ (refc r.1 r.2) = Wd9 at *
                      refine hK.out _ _ hS (fun _ => ?_)
                      clear hK K
                      (try simp only [Act.put, List.getElem_toArray, List.getElem_cons_succ, List.getElem_cons_zero, List.setIfInBounds_toArray, List.set_cons_zero, List.set_cons_succ])
                      refine wpAnyH_takeS HNS (i := 14) (v := .int .i64 x) rfl (by kernel_rfl) (by kernel_rfl) (fun _ _ _ h => h) (Or.inl ⟨by kernel_rfl, fun W hW => ?_⟩) hS ?_
                      · go_simp
                      simp only [Act.put, List.getElem_toArray, List.getElem_cons_succ, List.getElem_cons_zero, List.setIfInBounds_toArray, List.set_cons_zero, List.set_cons_succ]
                      refine wpAnyH_done (by kernel_rfl) ?_ _
                      go_wp2_with fail
                      go_meet
                      case rel => exact ⟨_, _, _, _, _, _, rfl, rfl, rfl, ⟨hpn, hoz⟩, hrf, Nat.le_trans HDR.out.size lhpn, Nat.le_trans HDR.out.size lhrf, Below.step HDR.out hS⟩
            · rw [if_pos (by kernel_rfl)]
              refine wp_alloc_R 25 rfl pz0 (by kernel_rfl) ?_
              have hbA := ((Below.refl _ _).alloc (Nat.le_refl _) _ : Below Wq.heap.size Wq (Wq.alloc (.cells pz0 25)))
              have hpn := Held.new Wq 25 pz0
              have lhpn := hS.size
              replace hS := Below.step hS hbA
              clear hbA
              generalize Wq.alloc (.cells pz0 25) = Wd10 at *
              refine hK.out _ _ hS (fun _ => ?_)
              clear hK K
              (try simp only [Act.put, List.getElem_toArray, List.getElem_cons_succ, List.getElem_cons_zero, List.setIfInBounds_toArray, List.set_cons_zero, List.set_cons_succ])
              refine wpAnyH_ready (rs := [5, 11]) (by kernel_rfl) (by simp) ?_
              refine (AllReadyH.cons rfl (fun K hK => ?_) (AllReadyH.cons rfl (fun K hK => ?_) AllReadyH.nil))
              · rw [if_pos (by kernel_rfl)]
                go_simp
                go_at_call 12
                (with_reducible refine (lay_c HLY.out LPm LF _ _ _ (v5.below hS).p S1.out ((hF9.below hS (Nat.le_refl _)).more hS.size)).mono ?_)
                rintro _ u11 ⟨A11, c11, B11, d11, rfl, ho11, hb11⟩
                replace hpn := Held.below hpn hb11
                replace hS := Below.step hS hb11
                have hoz := OwnZ.mono ho11 (Nat.zero_le _)
                (repeat (first | go_skip | go_guarded | go_step | go_upon))
                refine hK.out _ _ hS (fun _ => ?_)
                clear hK K
                (try simp only [Act.put, List.getElem_toArray, List.getElem_cons_succ, List.getElem_cons_zero, List.setIfInBounds_toArray, List.set_cons_zero, List.set_cons_succ])
                refine wpAnyH_takeS HNS (i := 6) (v := .tuple #[.agg (pc A11 S.cells.length c11 B11 S.free.length d11 S.most), .agg (refc r.1 r.2), .int .i64 x]) rfl (by kernel_rfl) (by kernel_rfl) (fun _ _ _ h => h) (Or.inl ⟨by kernel_rfl, fun W hW => ?_⟩) hS ?_
                · go_simp
                simp only [Act.put, List.getElem_toArray, List.getElem_cons_succ, List.getElem_cons_zero, List.setIfInBounds_toArray, List.set_cons_zero, List.set_cons_succ]
                refine wpAnyH_takeS HNS (i := 7) (v := .agg (pc A11 S.cells.length c11 B11 S.free.length d11 S.most)) rfl (by kernel_rfl) (by kernel_rfl) (fun _ _ _ h => h) (Or.inl ⟨by kernel_rfl, fun W hW => ?_⟩) hS ?_
                · go_simp
                simp only [Act.put, List.getElem_toArray, List.getElem_cons_succ, List.getElem_cons_zero, List.setIfInBounds_toArray, List.set_cons_zero, List.set_cons_succ]
                refine wpAnyH_takeS HNS (i := 8) (v := .agg (refc r.1 r.2)) rfl (by kernel_rfl) (by kernel_rfl) (fun _ _ _ h => h) (Or.inl ⟨by kernel_rfl, fun W hW => ?_⟩) hS ?_
                · go_simp
                simp only [Act.put, List.getElem_toArray, List.getElem_cons_succ, List.getElem_cons_zero, List.setIfInBounds_toArray, List.set_cons_zero, List.set_cons_succ]
                refine wpAnyH_takeS HNS (i := 9) (v := .int .i64 x) rfl (by kernel_rfl) (by kernel_rfl) (fun _ _ _ h => h) (Or.inl ⟨by kernel_rfl, fun W hW => ?_⟩) hS ?_
                · go_simp
                simp only [Act.put, List.getElem_toArray, List.getElem_cons_succ, List.getElem_cons_zero, List.setIfInBounds_toArray, List.set_cons_zero, List.set_cons_succ]
                refine wpAnyH_ready (rs := [11]) (by kernel_rfl) (by simp) ?_
                refine (AllReadyH.cons rfl (fun K hK => ?_) AllReadyH.nil)
                · rw [if_pos (by kernel_rfl)]
                  refine wp_alloc_R 27 rfl (refc 0 0) (by kernel_rfl) ?_
                  have nhpnhrf : Wq.heap.size ≠ u11.heap.size := Nat.ne_of_lt (Held.lt hpn)
                  have hbA := ((Below.refl _ _).alloc (Nat.le_refl _) _ : Below u11.heap.size u11 (u11.alloc (.cells (refc 0 0) 27)))
                  replace hpn := Held.below hpn hbA
                  replace hoz := OwnZ.below hoz hbA
                  have hrf := Held.new u11 27 (refc 0 0)
                  have lhrf := hS.size
                  replace hS := Below.step hS hbA
                  clear hbA
                  generalize u11.alloc (.cells (refc 0 0) 27) = Wd12 at *
                  refine hK.out _ _ hS (fun _ => ?_)
                  clear hK K
                  (try simp only [Act.put, List.getElem_toArray, List.getElem_cons_succ, List.getElem_cons_zero, List.setIfInBounds_toArray, List.set_cons_zero, List.set_cons_succ])
                  refine wpAnyH_ready (rs := [12]) (by kernel_rfl) (by simp) ?_
                  refine (AllReadyH.cons rfl (fun K hK => ?_) AllReadyH.nil)
                  · rw [if_pos (by kernel_rfl)]
                    refine wp_store_row 25 _ _ rfl _ (pc A11 S.cells.length c11 B11 S.free.length d11 S.most) (by rfl) (by rfl) _ _ hpn (by kernel_rfl) rfl (by simp [Value.oneCell']) ?_
                    replace hoz := OwnZ.kt hoz (kt_row hpn (pc A11 S.cells.length c11 B11 S.free.length d11 S.most)) (by decide) (by decide) (by decide) (by decide)
                    replace hrf := held_row hrf (Ne.symm nhpnhrf) (pc A11 S.cells.length c11 B11 S.free.length d11 S.most)
                    replace hS := below_setRow hS lhpn (pc A11 S.cells.length c11 B11 S.free.length d11 S.most)
                    replace hpn := held_rowSelf hpn (pc A11 S.cells.length c11 B11 S.free.length d11 S.most)
                    generalize World.setRow _ _ (pc A11 S.cells.length c11 B11 S.free.length d11 S.most) = Wd13 at *
                    refine hK.out _ _ hS (fun _ => ?_)
                    clear hK K
                    (try simp only [Act.put, List.getElem_toArray, List.getElem_cons_succ, List.getElem_cons_zero, List.setIfInBounds_toArray, List.set_cons_zero, List.set_cons_succ])
                    refine wpAnyH_ready (rs := [13]) (by kernel_rfl) (by simp) ?_
                    refine (AllReadyH.cons rfl (fun K hK => ?_) AllReadyH.nil)
                    · rw [if_pos (by kernel_rfl)]
                      refine wp_store_row 27 _ _ rfl _ (refc r.1 r.2) (by rfl) (by rfl) _ _ hrf (by kernel_rfl) rfl (by simp [Value.oneCell']) ?_
                      replace hoz := OwnZ.kt hoz (kt_row hrf (refc r.1 r.2)) (by decide) (by decide) (by decide) (by decide)
                      replace hpn := held_row hpn nhpnhrf (refc r.1 r.2)
                      replace hS := below_setRow hS lhrf (refc r.1 r.2)
                      replace hrf := held_rowSelf hrf (refc r.1 r.2)
                      generalize World.setRow _ _ (refc r.1 r.2) = Wd14 at *
                      refine hK.out _ _ hS (fun _ => ?_)
                      clear hK K
                      (try simp only [Act.put, List.getElem_toArray, List.getElem_cons_succ, List.getElem_cons_zero, List.setIfInBounds_toArray, List.set_cons_zero, List.set_cons_succ])
                      refine wpAnyH_takeS HNS (i := 14) (v := .int .i64 x) rfl (by kernel_rfl) (by kernel_rfl) (fun _ _ _ h => h) (Or.inl ⟨by kernel_rfl, fun W hW => ?_⟩) hS ?_
                      · go_simp
                      simp only [Act.put, List.getElem_toArray, List.getElem_cons_succ, List.getElem_cons_zero, List.setIfInBounds_toArray, List.set_cons_zero, List.set_cons_succ]
                      refine wpAnyH_done (by kernel_rfl) ?_ _
                      go_wp2_with fail
                      go_meet
                      case rel => exact ⟨_, _, _, _, _, _, rfl, rfl, rfl, ⟨hpn, hoz⟩, hrf, Nat.le_trans HDR.out.size lhpn, Nat.le_trans HDR.out.size lhrf, Below.step HDR.out hS⟩
              · rw [if_pos (by kernel_rfl)]
                refine wp_alloc_R 27 rfl (refc 0 0) (by kernel_rfl) ?_
                have nhpnhrf : Wq.heap.size ≠ Wd10.heap.size := Nat.ne_of_lt (Held.lt hpn)
                have hbA := ((Below.refl _ _).alloc (Nat.le_refl _) _ : Below Wd10.heap.size Wd10 (Wd10.alloc (.cells (refc 0 0) 27)))
                replace hpn := Held.below hpn hbA
                have hrf := Held.new Wd10 27 (refc 0 0)
                have lhrf := hS.size
                replace hS := Below.step hS hbA
                clear hbA
                generalize Wd10.alloc (.cells (refc 0 0) 27) = Wd15 at *
                refine hK.out _ _ hS (fun _ => ?_)
                clear hK K
                (try simp only [Act.put, List.getElem_toArray, List.getElem_cons_succ, List.getElem_cons_zero, List.setIfInBounds_toArray, List.set_cons_zero, List.set_cons_succ])
                refine wpAnyH_ready (rs := [5]) (by kernel_rfl) (by simp) ?_
                refine (AllReadyH.cons rfl (fun K hK => ?_) AllReadyH.nil)
                · rw [if_pos (by kernel_rfl)]
                  go_simp
                  go_at_call 12
                  (with_reducible refine (lay_c HLY.out LPm LF _ _ _ (v5.below hS).p S1.out ((hF9.below hS (Nat.le_refl _)).more hS.size)).mono ?_)
                  rintro _ u16 ⟨A16, c16, B16, d16, rfl, ho16, hb16⟩
                  replace hpn := Held.below hpn hb16
                  replace hrf := Held.below hrf hb16
                  replace hS := Below.step hS hb16
                  have hoz := OwnZ.mono ho16 (Nat.zero_le _)
                  (repeat (first | go_skip | go_guarded | go_step | go_upon))
                  refine hK.out _ _ hS (fun _ => ?_)
                  clear hK K
                  (try simp only [Act.put, List.getElem_toArray, List.getElem_cons_succ, List.getElem_cons_zero, List.setIfInBounds_toArray, List.set_cons_zero, List.set_cons_succ])
                  refine wpAnyH_takeS HNS (i := 6) (v := .tuple #[.agg (pc A16 S.cells.length c16 B16 S.free.length d16 S.most), .agg (refc r.1 r.2), .int .i64 x]) rfl (by kernel_rfl) (by kernel_rfl) (fun _ _ _ h => h) (Or.inl ⟨by kernel_rfl, fun W hW => ?_⟩) hS ?_
                  · go_simp
                  simp only [Act.put, List.getElem_toArray, List.getElem_cons_succ, List.getElem_cons_zero, List.setIfInBounds_toArray, List.set_cons_zero, List.set_cons_succ]
                  refine wpAnyH_takeS HNS (i := 7) (v := .agg (pc A16 S.cells.length c16 B16 S.free.length d16 S.most)) rfl (by kernel_rfl) (by kernel_rfl) (fun _ _ _ h => h) (Or.inl ⟨by kernel_rfl, fun W hW => ?_⟩) hS ?_
                  · go_simp
                  simp only [Act.put, List.getElem_toArray, List.getElem_cons_succ, List.getElem_cons_zero, List.setIfInBounds_toArray, List.set_cons_zero, List.set_cons_succ]
                  refine wpAnyH_takeS HNS (i := 8) (v := .agg (refc r.1 r.2)) rfl (by kernel_rfl) (by kernel_rfl) (fun _ _ _ h => h) (Or.inl ⟨by kernel_rfl, fun W hW => ?_⟩) hS ?_
                  · go_simp
                  simp only [Act.put, List.getElem_toArray, List.getElem_cons_succ, List.getElem_cons_zero, List.setIfInBounds_toArray, List.set_cons_zero, List.set_cons_succ]
                  refine wpAnyH_takeS HNS (i := 9) (v := .int .i64 x) rfl (by kernel_rfl) (by kernel_rfl) (fun _ _ _ h => h) (Or.inl ⟨by kernel_rfl, fun W hW => ?_⟩) hS ?_
                  · go_simp
                  simp only [Act.put, List.getElem_toArray, List.getElem_cons_succ, List.getElem_cons_zero, List.setIfInBounds_toArray, List.set_cons_zero, List.set_cons_succ]
                  refine wpAnyH_ready (rs := [12]) (by kernel_rfl) (by simp) ?_
                  refine (AllReadyH.cons rfl (fun K hK => ?_) AllReadyH.nil)
                  · rw [if_pos (by kernel_rfl)]
                    refine wp_store_row 25 _ _ rfl _ (pc A16 S.cells.length c16 B16 S.free.length d16 S.most) (by rfl) (by rfl) _ _ hpn (by kernel_rfl) rfl (by simp [Value.oneCell']) ?_
                    replace hoz := OwnZ.kt hoz (kt_row hpn (pc A16 S.cells.length c16 B16 S.free.length d16 S.most)) (by decide) (by decide) (by decide) (by decide)
                    replace hrf := held_row hrf (Ne.symm nhpnhrf) (pc A16 S.cells.length c16 B16 S.free.length d16 S.most)
                    replace hS := below_setRow hS lhpn (pc A16 S.cells.length c16 B16 S.free.length d16 S.most)
                    replace hpn := held_rowSelf hpn (pc A16 S.cells.length c16 B16 S.free.length d16 S.most)
                    generalize World.setRow _ _ (pc A16 S.cells.length c16 B16 S.free.length d16 S.most) = Wd17 at *
                    refine hK.out _ _ hS (fun _ => ?_)
                    clear hK K
                    (try simp only [Act.put, List.getElem_toArray, List.getElem_cons_succ, List.getElem_cons_zero, List.setIfInBounds_toArray, List.set_cons_zero, List.set_cons_succ])
                    refine wpAnyH_ready (rs := [13]) (by kernel_rfl) (by simp) ?_
                    refine (AllReadyH.cons rfl (fun K hK => ?_) AllReadyH.nil)
                    · rw [if_pos (by kernel_rfl)]
                      refine wp_store_row 27 _ _ rfl _ (refc r.1 r.2) (by rfl) (by rfl) _ _ hrf (by kernel_rfl) rfl (by simp [Value.oneCell']) ?_
                      replace hoz := OwnZ.kt hoz (kt_row hrf (refc r.1 r.2)) (by decide) (by decide) (by decide) (by decide)
                      replace hpn := held_row hpn nhpnhrf (refc r.1 r.2)
                      replace hS := below_setRow hS lhrf (refc r.1 r.2)
                      replace hrf := held_rowSelf hrf (refc r.1 r.2)
                      generalize World.setRow _ _ (refc r.1 r.2) = Wd18 at *
                      refine hK.out _ _ hS (fun _ => ?_)
                      clear hK K
                      (try simp only [Act.put, List.getElem_toArray, List.getElem_cons_succ, List.getElem_cons_zero, List.setIfInBounds_toArray, List.set_cons_zero, List.set_cons_succ])
                      refine wpAnyH_takeS HNS (i := 14) (v := .int .i64 x) rfl (by kernel_rfl) (by kernel_rfl) (fun _ _ _ h => h) (Or.inl ⟨by kernel_rfl, fun W hW => ?_⟩) hS ?_
                      · go_simp
                      simp only [Act.put, List.getElem_toArray, List.getElem_cons_succ, List.getElem_cons_zero, List.setIfInBounds_toArray, List.set_cons_zero, List.set_cons_succ]
                      refine wpAnyH_done (by kernel_rfl) ?_ _
                      go_wp2_with fail
                      go_meet
                      case rel => exact ⟨_, _, _, _, _, _, rfl, rfl, rfl, ⟨hpn, hoz⟩, hrf, Nat.le_trans HDR.out.size lhpn, Nat.le_trans HDR.out.size lhrf, Below.step HDR.out hS⟩
            · rw [if_pos (by kernel_rfl)]
              refine wp_alloc_R 27 rfl (refc 0 0) (by kernel_rfl) ?_
              have hbA := ((Below.refl _ _).alloc (Nat.le_refl _) _ : Below Wq.heap.size Wq (Wq.alloc (.cells (refc 0 0) 27)))
              have hrf := Held.new Wq 27 (refc 0 0)
              have lhrf := hS.size
              replace hS := Below.step hS hbA
              clear hbA
              generalize Wq.alloc (.cells (refc 0 0) 27) = Wd19 at *
              refine hK.out _ _ hS (fun _ => ?_)
              clear hK K
              (try simp only [Act.put, List.getElem_toArray, List.getElem_cons_succ, List.getElem_cons_zero, List.setIfInBounds_toArray, List.set_cons_zero, List.set_cons_succ])
              refine wpAnyH_ready (rs := [5, 10]) (by kernel_rfl) (by simp) ?_
              refine (AllReadyH.cons rfl (fun K hK => ?_) (AllReadyH.cons rfl (fun K hK => ?_) AllReadyH.nil))
              · rw [if_pos (by kernel_rfl)]
                go_simp
                go_at_call 12
                (with_reducible refine (lay_c HLY.out LPm LF _ _ _ (v5.below hS).p S1.out ((hF9.below hS (Nat.le_refl _)).more hS.size)).mono ?_)
                rintro _ u20 ⟨A20, c20, B20, d20, rfl, ho20, hb20⟩
                replace hrf := Held.below hrf hb20
                replace hS := Below.step hS hb20
                have hoz := OwnZ.mono ho20 (Nat.zero_le _)
                (repeat (first | go_skip | go_guarded | go_step | go_upon))
                refine hK.out _ _ hS (fun _ => ?_)
                clear hK K
                (try simp only [Act.put, List.getElem_toArray, List.getElem_cons_succ, List.getElem_cons_zero, List.setIfInBounds_toArray, List.set_cons_zero, List.set_cons_succ])
                refine wpAnyH_takeS HNS (i := 6) (v := .tuple #[.agg (pc A20 S.cells.length c20 B20 S.free.length d20 S.most), .agg (refc r.1 r.2), .int .i64 x]) rfl (by kernel_rfl) (by kernel_rfl) (fun _ _ _ h => h) (Or.inl ⟨by kernel_rfl, fun W hW => ?_⟩) hS ?_
                · go_simp
                simp only [Act.put, List.getElem_toArray, List.getElem_cons_succ, List.getElem_cons_zero, List.setIfInBounds_toArray, List.set_cons_zero, List.set_cons_succ]
                refine wpAnyH_takeS HNS (i := 7) (v := .agg (pc A20 S.cells.length c20 B20 S.free.length d20 S.most)) rfl (by kernel_rfl) (by kernel_rfl) (fun _ _ _ h => h) (Or.inl ⟨by kernel_rfl, fun W hW => ?_⟩) hS ?_
                · go_simp
                simp only [Act.put, List.getElem_toArray, List.getElem_cons_succ, List.getElem_cons_zero, List.setIfInBounds_toArray, List.set_cons_zero, List.set_cons_succ]
                refine wpAnyH_takeS HNS (i := 8) (v := .agg (refc r.1 r.2)) rfl (by kernel_rfl) (by kernel_rfl) (fun _ _ _ h => h) (Or.inl ⟨by kernel_rfl, fun W hW => ?_⟩) hS ?_
                · go_simp
                simp only [Act.put, List.getElem_toArray, List.getElem_cons_succ, List.getElem_cons_zero, List.setIfInBounds_toArray, List.set_cons_zero, List.set_cons_succ]
                refine wpAnyH_takeS HNS (i := 9) (v := .int .i64 x) rfl (by kernel_rfl) (by kernel_rfl) (fun _ _ _ h => h) (Or.inl ⟨by kernel_rfl, fun W hW => ?_⟩) hS ?_
                · go_simp
                simp only [Act.put, List.getElem_toArray, List.getElem_cons_succ, List.getElem_cons_zero, List.setIfInBounds_toArray, List.set_cons_zero, List.set_cons_succ]
                refine wpAnyH_ready (rs := [10]) (by kernel_rfl) (by simp) ?_
                refine (AllReadyH.cons rfl (fun K hK => ?_) AllReadyH.nil)
                · rw [if_pos (by kernel_rfl)]
                  refine wp_alloc_R 25 rfl pz0 (by kernel_rfl) ?_
                  have nhrfhpn : Wq.heap.size ≠ u20.heap.size := Nat.ne_of_lt (Held.lt hrf)
                  have hbA := ((Below.refl _ _).alloc (Nat.le_refl _) _ : Below u20.heap.size u20 (u20.alloc (.cells pz0 25)))
                  replace hrf := Held.below hrf hbA
                  replace hoz := OwnZ.below hoz hbA
                  have hpn := Held.new u20 25 pz0
                  have lhpn := hS.size
                  replace hS := Below.step hS hbA
                  clear hbA
                  generalize u20.alloc (.cells pz0 25) = Wd21 at *
                  refine hK.out _ _ hS (fun _ => ?_)
                  clear hK K
                  (try simp only [Act.put, List.getElem_toArray, List.getElem_cons_succ, List.getElem_cons_zero, List.setIfInBounds_toArray, List.set_cons_zero, List.set_cons_succ])
                  refine wpAnyH_ready (rs := [12]) (by kernel_rfl) (by simp) ?_
                  refine (AllReadyH.cons rfl (fun K hK => ?_) AllReadyH.nil)
                  · rw [if_pos (by kernel_rfl)]
                    refine wp_store_row 25 _ _ rfl _ (pc A20 S.cells.length c20 B20 S.free.length d20 S.most) (by rfl) (by rfl) _ _ hpn (by kernel_rfl) rfl (by simp [Value.oneCell']) ?_
                    replace hoz := OwnZ.kt hoz (kt_row hpn (pc A20 S.cells.length c20 B20 S.free.length d20 S.most)) (by decide) (by decide) (by decide) (by decide)
                    replace hrf := held_row hrf nhrfhpn (pc A20 S.cells.length c20 B20 S.free.length d20 S.most)
                    replace hS := below_setRow hS lhpn (pc A20 S.cells.length c20 B20 S.free.length d20 S.most)
                    replace hpn := held_rowSelf hpn (pc A20 S.cells.length c20 B20 S.free.length d20 S.most)
                    generalize World.setRow _ _ (pc A20 S.cells.length c20 B20 S.free.length d20 S.most) = Wd22 at *
                    refine hK.out _ _ hS (fun _ => ?_)
                    clear hK K
                    (try simp only [Act.put, List.getElem_toArray, List.getElem_cons_succ, List.getElem_cons_zero, List.setIfInBounds_toArray, List.set_cons_zero, List.set_cons_succ])
                    refine wpAnyH_ready (rs := [13]) (by kernel_rfl) (by simp) ?_
                    refine (AllReadyH.cons rfl (fun K hK => ?_) AllReadyH.nil)
                    · rw [if_pos (by kernel_rfl)]
                      refine wp_store_row 27 _ _ rfl _ (refc r.1 r.2) (by rfl) (by rfl) _ _ hrf (by kernel_rfl) rfl (by simp [Value.oneCell']) ?_
                      replace hoz := OwnZ.kt hoz (kt_row hrf (refc r.1 r.2)) (by decide) (by decide) (by decide) (by decide)
                      replace hpn := held_row hpn (Ne.symm nhrfhpn) (refc r.1 r.2)
                      replace hS := below_setRow hS lhrf (refc r.1 r.2)
                      replace hrf := held_rowSelf hrf (refc r.1 r.2)
                      generalize World.setRow _ _ (refc r.1 r.2) = Wd23 at *
                      refine hK.out _ _ hS (fun _ => ?_)
                      clear hK K
                      (try simp only [Act.put, List.getElem_toArray, List.getElem_cons_succ, List.getElem_cons_zero, List.setIfInBounds_toArray, List.set_cons_zero, List.set_cons_succ])
                      refine wpAnyH_takeS HNS (i := 14) (v := .int .i64 x) rfl (by kernel_rfl) (by kernel_rfl) (fun _ _ _ h => h) (Or.inl ⟨by kernel_rfl, fun W hW => ?_⟩) hS ?_
                      · go_simp
                      simp only [Act.put, List.getElem_toArray, List.getElem_cons_succ, List.getElem_cons_zero, List.setIfInBounds_toArray, List.set_cons_zero, List.set_cons_succ]
                      refine wpAnyH_done (by kernel_rfl) ?_ _
                      go_wp2_with fail
                      go_meet
                      case rel => exact ⟨_, _, _, _, _, _, rfl, rfl, rfl, ⟨hpn, hoz⟩, hrf, Nat.le_trans HDR.out.size lhpn, Nat.le_trans HDR.out.size lhrf, Below.step HDR.out hS⟩
              · rw [if_pos (by kernel_rfl)]
                refine wp_alloc_R 25 rfl pz0 (by kernel_rfl) ?_
                have nhrfhpn : Wq.heap.size ≠ Wd19.heap.size := Nat.ne_of_lt (Held.lt hrf)
                have hbA := ((Below.refl _ _).alloc (Nat.le_refl _) _ : Below Wd19.heap.size Wd19 (Wd19.alloc (.cells pz0 25)))
                replace hrf := Held.below hrf hbA
                have hpn := Held.new Wd19 25 pz0
                have lhpn := hS.size
                replace hS := Below.step hS hbA
                clear hbA
                generalize Wd19.alloc (.cells pz0 25) = Wd24 at *
                refine hK.out _ _ hS (fun _ => ?_)
                clear hK K
                (try simp only [Act.put, List.getElem_toArray, List.getElem_cons_succ, List.getElem_cons_zero, List.setIfInBounds_toArray, List.set_cons_zero, List.set_cons_succ])
                refine wpAnyH_ready (rs := [5]) (by kernel_rfl) (by simp) ?_
                refine (AllReadyH.cons rfl (fun K hK => ?_) AllReadyH.nil)
                · rw [if_pos (by kernel_rfl)]
                  go_simp
                  go_at_call 12
                  (with_reducible refine (lay_c HLY.out LPm LF _ _ _ (v5.below hS).p S1.out ((hF9.below hS (Nat.le_refl _)).more hS.size)).mono ?_)
                  rintro _ u25 ⟨A25, c25, B25, d25, rfl, ho25, hb25⟩
                  replace hrf := Held.below hrf hb25
                  replace hpn := Held.below hpn hb25
                  replace hS := Below.step hS hb25
                  have hoz := OwnZ.mono ho25 (Nat.zero_le _)
                  (repeat (first | go_skip | go_guarded | go_step | go_upon))
                  refine hK.out _ _ hS (fun _ => ?_)
                  clear hK K
                  (try simp only [Act.put, List.getElem_toArray, List.getElem_cons_succ, List.getElem_cons_zero, List.setIfInBounds_toArray, List.set_cons_zero, List.set_cons_succ])
                  refine wpAnyH_takeS HNS (i := 6) (v := .tuple #[.agg (pc A25 S.cells.length c25 B25 S.free.length d25 S.most), .agg (refc r.1 r.2), .int .i64 x]) rfl (by kernel_rfl) (by kernel_rfl) (fun _ _ _ h => h) (Or.inl ⟨by kernel_rfl, fun W hW => ?_⟩) hS ?_
                  · go_simp
                  simp only [Act.put, List.getElem_toArray, List.getElem_cons_succ, List.getElem_cons_zero, List.setIfInBounds_toArray, List.set_cons_zero, List.set_cons_succ]
                  refine wpAnyH_takeS HNS (i := 7) (v := .agg (pc A25 S.cells.length c25 B25 S.free.length d25 S.most)) rfl (by kernel_rfl) (by kernel_rfl) (fun _ _ _ h => h) (Or.inl ⟨by kernel_rfl, fun W hW => ?_⟩) hS ?_
                  · go_simp
                  simp only [Act.put, List.getElem_toArray, List.getElem_cons_succ, List.getElem_cons_zero, List.setIfInBounds_toArray, List.set_cons_zero, List.set_cons_succ]
                  refine wpAnyH_takeS HNS (i := 8) (v := .agg (refc r.1 r.2)) rfl (by kernel_rfl) (by kernel_rfl) (fun _ _ _ h => h) (Or.inl ⟨by kernel_rfl, fun W hW => ?_⟩) hS ?_
                  · go_simp
                  simp only [Act.put, List.getElem_toArray, List.getElem_cons_succ, List.getElem_cons_zero, List.setIfInBounds_toArray, List.set_cons_zero, List.set_cons_succ]
                  refine wpAnyH_takeS HNS (i := 9) (v := .int .i64 x) rfl (by kernel_rfl) (by kernel_rfl) (fun _ _ _ h => h) (Or.inl ⟨by kernel_rfl, fun W hW => ?_⟩) hS ?_
                  · go_simp
                  simp only [Act.put, List.getElem_toArray, List.getElem_cons_succ, List.getElem_cons_zero, List.setIfInBounds_toArray, List.set_cons_zero, List.set_cons_succ]
                  refine wpAnyH_ready (rs := [12]) (by kernel_rfl) (by simp) ?_
                  refine (AllReadyH.cons rfl (fun K hK => ?_) AllReadyH.nil)
                  · rw [if_pos (by kernel_rfl)]
                    refine wp_store_row 25 _ _ rfl _ (pc A25 S.cells.length c25 B25 S.free.length d25 S.most) (by rfl) (by rfl) _ _ hpn (by kernel_rfl) rfl (by simp [Value.oneCell']) ?_
                    replace hoz := OwnZ.kt hoz (kt_row hpn (pc A25 S.cells.length c25 B25 S.free.length d25 S.most)) (by decide) (by decide) (by decide) (by decide)
                    replace hrf := held_row hrf nhrfhpn (pc A25 S.cells.length c25 B25 S.free.length d25 S.most)
                    replace hS := below_setRow hS lhpn (pc A25 S.cells.length c25 B25 S.free.length d25 S.most)
                    replace hpn := held_rowSelf hpn (pc A25 S.cells.length c25 B25 S.free.length d25 S.most)
                    generalize World.setRow _ _ (pc A25 S.cells.length c25 B25 S.free.length d25 S.most) = Wd26 at *
                    refine hK.out _ _ hS (fun _ => ?_)
                    clear hK K
                    (try simp only [Act.put, List.getElem_toArray, List.getElem_cons_succ, List.getElem_cons_zero, List.setIfInBounds_toArray, List.set_cons_zero, List.set_cons_succ])
                    refine wpAnyH_ready (rs := [13]) (by kernel_rfl) (by simp) ?_
                    refine (AllReadyH.cons rfl (fun K hK => ?_) AllReadyH.nil)
                    · rw [if_pos (by kernel_rfl)]
                      refine wp_store_row 27 _ _ rfl _ (refc r.1 r.2) (by rfl) (by rfl) _ _ hrf (by kernel_rfl) rfl (by simp [Value.oneCell']) ?_
                      replace hoz := OwnZ.kt hoz (kt_row hrf (refc r.1 r.2)) (by decide) (by decide) (by decide) (by decide)
                      replace hpn := held_row hpn (Ne.symm nhrfhpn) (refc r.1 r.2)
                      replace hS := below_setRow hS lhrf (refc r.1 r.2)
                      replace hrf := held_rowSelf hrf (refc r.1 r.2)
                      generalize World.setRow _ _ (refc r.1 r.2) = Wd27 at *
                      refine hK.out _ _ hS (fun _ => ?_)
                      clear hK K
                      (try simp only [Act.put, List.getElem_toArray, List.getElem_cons_succ, List.getElem_cons_zero, List.setIfInBounds_toArray, List.set_cons_zero, List.set_cons_succ])
                      refine wpAnyH_takeS HNS (i := 14) (v := .int .i64 x) rfl (by kernel_rfl) (by kernel_rfl) (fun _ _ _ h => h) (Or.inl ⟨by kernel_rfl, fun W hW => ?_⟩) hS ?_
                      · go_simp
                      simp only [Act.put, List.getElem_toArray, List.getElem_cons_succ, List.getElem_cons_zero, List.setIfInBounds_toArray, List.set_cons_zero, List.set_cons_succ]
                      refine wpAnyH_done (by kernel_rfl) ?_ _
                      go_wp2_with fail
                      go_meet
                      case rel => exact ⟨_, _, _, _, _, _, rfl, rfl, rfl, ⟨hpn, hoz⟩, hrf, Nat.le_trans HDR.out.size lhpn, Nat.le_trans HDR.out.size lhrf, Below.step HDR.out hS⟩
          case rest =>
            obtain ⟨k9, k10, A9, c9, B9, d9, rfl, rfl, rfl, v9, v10, hk9, hk10, hwc⟩ := hcut
            replace v5 := v5.below hwc
            replace fl := fl.below hwc
            have HBW := Lib.hid (fun q (h : Value.ownBlock (.slice A7 mm c7) = some q) => Nat.ne_of_lt (Nat.lt_of_lt_of_le (w7.lt q h).2 hk10))
            replace w7 := own_later w7 hwc
            replace hW := Below.step hW hwc
            clear hwc hR9 hF9 hbl hk9 hk10
            have hF' : ∀ g ∈ l.take (i + 1), FrmLen g := fun g hg => by
              rw [List.take_succ_eq_append_getElem hil, HFI.out] at hg
              rcases List.mem_append.1 hg with h9 | h9
              · exact HF.out g h9
              · simp only [List.mem_singleton] at h9
                rw [h9]
                exact LF
            have HF1 := Lib.hid hF'
            clear hF'
            have hlm : (l.take mm).length = mm := by rw [List.length_take]; omega
            by_cases him : i < mt
            · have him2 : ¬ mt ≤ i := by omega
              have hmi : mm = i := by rw [HMM.out]; unfold mi; rw [if_pos him]
              have hmi1 : mi (i + 1) mt = i + 1 := by unfold mi; split <;> omega
              subst hmi
              have hSr : S = Mn (mt : Int) (l.take (mm + 1)) ∧ r = ((mm : Int), 0) ∧ x = 0 := by
                have h9 := HLY.out
                rw [mn_lay f HM1.out.2.2.1 HM1.out.2.2.2 (by rw [hlm]; omega)] at h9
                simp only [Prod.mk.injEq] at h9
                obtain ⟨h1, h2, h3⟩ := h9
                refine ⟨?_, ?_, h3.symm⟩
                · rw [← h1, List.take_succ_eq_append_getElem hil, HFI.out]
                · rw [← h2, hlm]
              obtain ⟨rfl, rfl, rfl⟩ := hSr
              have q1 : decide ((mm : Int) < (mt : Int)) = true := decide_eq_true (by omega)
              have q2 : ((mm : Int) < (mt : Int)) := by omega
              have HMI1 := Lib.hid hmi1
              clear hmi1
              go_upto_region 14 with (fail)
              clear q1
              have hbA : Below wc.heap.size wc (wc.alloc (.cells #[.int .i64 (mm : Int), .int .i64 0] 27)) := (Below.refl _ _).alloc (Nat.le_refl _) _
              have HOA := Lib.hid (r_later w7 hbA : OwnR _ w.heap.size (.slice A7 mm c7) (rm mm))
              have HVA := Lib.hid (one2_at (t := 27) (w := wc) (mm : Int) 0)
              have HLE := Lib.hid (show (rm mm).length + 1 ≤ 1000000 by rw [rm_len]; omega)
              have HA5 := Lib.hid (v5.below hbA)
              have HA9 := Lib.hid (v9.below hbA)
              have HAW := Lib.hid (Below.step hW hbA)
              have HRL := Lib.hid (rm_len mm)
              have hc10 : Held wc k10 27 #[.int .i64 (mm : Int), .int .i64 0] := v10
              clear w7 hbA v5 v9 hW fl v10
              go_upto_region 15 with (first
                | (guard_target = wpList _ _ _ (Oper.mk (some 79) _ _ _ _ none :: _) _ _; refine wpList_load_row rfl 27 _ rfl k10 rfl _ _ _ _ hc10 Try.underlying27 rfl (by kernel_rfl) ?_)
                | (at_builtin; refine wpList_append_rs (k := [((mm : Int), 0)]) (n := 1) rfl _ _ rfl w.heap.size _ (rm mm) rfl HOA.out rfl rfl HVA.out (Nat.le_refl _) HLE.out HAW.out.size ?_; intro v' u6 k1 k2 k3; obtain ⟨A', c', rfl, _⟩ := k1.lies; have K1 := Lib.hid k1; have K2 := Lib.hid k2; clear k1 k2 k3))
              have k1 := K1.out
              have k2 := K2.out
              have hkt := kt_own HOA.out k2
              have hlen9 : (rm mm ++ [((mm : Int), 0)]).length = mm + 1 := by rw [List.length_append, rm_len]; rfl
              have w7 : OwnR u6 w.heap.size (.slice A' (mm + 1) c') (rm (mm + 1)) := by rw [rm_succ, ← hlen9]; exact k1
              have v9 : PV u6 k9 A9 c9 B9 d9 (Mn (mt : Int) (l.take (mm + 1))) := ⟨held_kt HA9.out.x hkt (by decide), HA9.out.o.kt hkt (by decide) (by decide) (by decide) (by decide)⟩
              have v5 : PV u6 g5 A c A2 c2 (Mn (mt : Int) (l.take mm)) := ⟨held_kt HA5.out.x hkt (by decide), HA5.out.o.kt hkt (by decide) (by decide) (by decide) (by decide)⟩
              have hW : Below w.heap.size w u6 := below_grown2 HAW.out k2 (fun q e => (HOA.out.lt q e).1) HAW.out.size
              have hsl : (Value.slice A' (rm mm ++ [((mm : Int), (0 : Int))]).length c') = .slice A' (mm + 1) c' := by rw [hlen9]
              clear k1 k2 hkt HOA HVA HA5 HA9 HAW K1 K2 hc10
              have w8 : OwnR (u6.setRow g5 (pc A9 (Mn (mt : Int) (l.take (mm + 1))).cells.length c9 B9 (Mn (mt : Int) (l.take (mm + 1))).free.length d9 (Mn (mt : Int) (l.take (mm + 1))).most)) w.heap.size (.slice A' (mm + 1) c') (rm (mm + 1)) := row_kt w7 (kt_row v5.x _) (by decide)
              have v5' := over_p v5.x v9.o
              have hW' := below_setRow hW HG5.out (pc A9 (Mn (mt : Int) (l.take (mm + 1))).cells.length c9 B9 (Mn (mt : Int) (l.take (mm + 1))).free.length d9 (Mn (mt : Int) (l.take (mm + 1))).most)
              have FIN := Lib.hid (And.intro w8 (And.intro v5' hW'))
              have X5 := Lib.hid v5.x
              clear w8 v5' hW' w7 hW v5
              go_wp2_with (first
                | (guard_target = wpList _ _ _ (Oper.mk (some 82) _ _ _ _ none :: _) _ _; refine wpList_load_row rfl 25 _ rfl k9 rfl _ _ _ _ v9.x Try.underlying25 rfl (by kernel_rfl) ?_)
                | (guard_target = wpList _ _ _ (Oper.mk _ (Op.store 25 (.tmp 5) _) _ _ _ none :: _) _ _; refine wpList_store_row rfl 25 _ _ rfl g5 (pc A9 (Mn (mt : Int) (l.take (mm + 1))).cells.length c9 B9 (Mn (mt : Int) (l.take (mm + 1))).free.length d9 (Mn (mt : Int) (l.take (mm + 1))).most) rfl rfl _ _ X5.out (by kernel_rfl) rfl (by simp [Value.oneCell']) ?_))
              go_roundw
              case rel =>
                refine ⟨mm + 1, A', c', A9, c9, B9, d9, by go_num, ?_, by omega, ?_, ?_, FL.below ⟨HFL.out⟩ FIN.out.2.2, FIN.out.2.2, HF1.out⟩
                · rw [HMI1.out]
                  first | rfl | exact hsl | rw [HRL.out]
                · rw [HMI1.out]; exact FIN.out.1
                · rw [HMI1.out]; exact FIN.out.2.1
              case measure => simp [intOf]; omega
            · have him2 : mt ≤ i := by omega
              have hmi : mm = mt := by rw [HMM.out]; unfold mi; rw [if_neg him]
              have hmi1 : mi (i + 1) mt = mm := by rw [hmi]; unfold mi; rw [if_neg (by omega)]
              have hSr : S = Mn (mt : Int) (l.take mm) ∧ x = 120 := by
                have h9 := HLY.out
                rw [mn_full f HM1.out.2.2.1 HM1.out.2.2.2 (by rw [hlm]; omega)] at h9
                simp only [Prod.mk.injEq] at h9
                exact ⟨h9.1.symm, h9.2.2.symm⟩
              obtain ⟨rfl, rfl⟩ := hSr
              have q1 : decide ((i : Int) < (mt : Int)) = false := decide_eq_false (by omega)
              have q2 : ¬ ((i : Int) < (mt : Int)) := by omega
              have HMI1 := Lib.hid hmi1
              have HMI := Lib.hid hmi
              have w8 : OwnR (wc.setRow g5 (pc A9 (Mn (mt : Int) (l.take mm)).cells.length c9 B9 (Mn (mt : Int) (l.take mm)).free.length d9 (Mn (mt : Int) (l.take mm)).most)) w.heap.size (.slice A7 mm c7) (rm mm) := row_kt w7 (kt_row v5.x _) (by decide)
              have v5' := over_p v5.x v9.o
              have hW' := below_setRow hW HG5.out (pc A9 (Mn (mt : Int) (l.take mm)).cells.length c9 B9 (Mn (mt : Int) (l.take mm)).free.length d9 (Mn (mt : Int) (l.take mm)).most)
              have FIN := Lib.hid (And.intro w8 (And.intro v5' hW'))
              have X5 := Lib.hid v5.x
              clear hmi1 hmi w8 v5' hW' w7 hW v5 fl v10
              go_wp2_with (first
                | (guard_target = wpList _ _ _ (Oper.mk (some 82) _ _ _ _ none :: _) _ _; refine wpList_load_row rfl 25 _ rfl k9 rfl _ _ _ _ v9.x Try.underlying25 rfl (by kernel_rfl) ?_)
                | (guard_target = wpList _ _ _ (Oper.mk _ (Op.store 25 (.tmp 5) _) _ _ _ none :: _) _ _; refine wpList_store_row rfl 25 _ _ rfl g5 (pc A9 (Mn (mt : Int) (l.take mm)).cells.length c9 B9 (Mn (mt : Int) (l.take mm)).free.length d9 (Mn (mt : Int) (l.take mm)).most) rfl rfl _ _ X5.out (by kernel_rfl) rfl (by simp [Value.oneCell']) ?_))
              go_roundw
              case rel =>
                refine ⟨i + 1, A7, c7, A9, c9, B9, d9, by go_num, ?_, by omega, ?_, ?_, FL.below ⟨HFL.out⟩ FIN.out.2.2, FIN.out.2.2, HF1.out⟩
                · rw [HMI1.out]
                · rw [HMI1.out]; exact FIN.out.1
                · rw [HMI1.out]; exact FIN.out.2.1
              case measure => simp [intOf]; omega
      · have hltI : ¬ ((i : Int) < (nl : Int)) := by omega
        have hin : i = nl := by omega
        have hmt : mm ≤ mt := by
          have := HMM.out
          unfold mi at this
          split at this <;> omega
        have HLm := Lib.hid (show (l.take mm).length = mm by rw [List.length_take, HL.out]; omega)
        have LPm : LenZ (Mn (mt : Int) (l.take mm)) := (mn_sm (k := 30) (by rw [HLm.out]; omega) (fun f hf => HF.out f (List.take_subset_take_left l hml.1 hf))).len (by decide)
        have HIN := Lib.hid hin
        clear hin
        go_upto_region 17 with (fail)
        clear hlt hltI
        have HV := Lib.hid (And.intro v5 (And.intro w7 (And.intro fl hW)))
        clear v5 w7 fl hW
        obtain ⟨W17, hW17⟩ : ∃ W, W = wr := ⟨_, rfl⟩
        rw [← hW17] at HV ⊢
        clear hW17
        go_loopw [12] (fun iv W => ∃ j : Nat, iv = .int .i64 j ∧ j ≤ mm ∧ Below W17.heap.size W17 W) (fun iv _ => mm - (intOf iv).toNat)
        case atStart => exact ⟨0, rfl, by omega, Below.refl _ _⟩
        case round =>
          obtain ⟨j, rfl, hj, hw⟩ := hrel
          have HWR := Lib.hid hw
          have hj0 : (0 : Int) ≤ j := by omega
          by_cases hlt : j < mm
          · have hltI : (j : Int) < (mm : Int) := by omega
            obtain ⟨v5, w7, fl, -⟩ := HV.out
            have pr := own2_at w7
            replace v5 := v5.below hw
            replace pr := pat_later pr hw
            replace fl := fl.below hw
            have hjl : j < l.length := by rw [HL.out]; have := HIN.out; omega
            have hjn : j < nl := by have := HL.out; omega
            have hjnI : (j : Int) < (nl : Int) := by omega
            have hjnn : ¬ nl ≤ j := by omega
            have hjt : j < (l.take mm).length := by rw [HLm.out]; exact hlt
            obtain ⟨b, off, rfl, -, hc7⟩ := pr (by rw [rm_len]; omega)
            obtain ⟨y0, y1⟩ := hc7 j (by rw [rm_len]; exact hlt)
            rw [rm_at] at y0 y1
            have hbl : b < wr.heap.size := block_lt_of_cell y0
            have hgu := mn_get HM1.out.2.2.1 HM1.out.2.2.2 (by rw [HLm.out]; omega) hjt
            rw [List.getElem_take] at hgu
            obtain ⟨b2, off2, eA2, hb2, hr⟩ := fl.p (by omega)
            obtain ⟨fs, s1, s2, s3, s4⟩ := hr j hjl
            subst eA2
            have LFj : FrmLen l[j] := HF.out _ (by
              have e9 : l[j] = (l.take i)[j]'(by rw [List.length_take]; omega) := by rw [List.getElem_take]
              rw [e9]
              exact List.getElem_mem _)
            generalize l[j] = fj at *
            have S1 := Lib.hid s1
            have GU := Lib.hid hgu
            have HR9 := Lib.hid (And.intro s4 (And.intro s3 hb2))
            clear hw hc7 w7 fl pr hr s1 s2 s3 s4 hgu hjt hb2
            go_upto_region 19 with (fail)
            go_cut [13, 14] from 89 to 108 (fun vf vb wx => ∃ k ds, vf = .pointer (some ⟨k, 0, none⟩) ∧ vb = .bool true ∧ FV wx k ds fj ∧ Below wr.heap.size wr wx)
            case first =>
              have hdr := (Below.refl wr.heap.size wr).drew
              have HDR := Lib.hid hdr
              replace v5 := v5.below hdr
              replace y0 := (hdr.cell (p := ⟨b, _, none⟩) hbl).trans y0
              replace y1 := (hdr.cell (p := ⟨b, _, none⟩) hbl).trans y1
              replace hbl : b < wr.drew.heap.size := hbl
              clear hdr
              refine wp_region_held_drew (S := fun W => Below wr.drew.heap.size wr.drew W) (by kernel_rfl) (Below.refl _ _) (fun hS => ?_)
              generalize wr.drew = Wq at *
              show wpAnyH _ _ _ _ _ 12 #[false, false, false, false, false, false, false, false, false, false, false, false] _ _
              refine wpAnyH_begin (by kernel_rfl) (fun HNS => ?_)
              refine wpAnyH_takeS HNS (i := 0) (v := .agg (pc A (Mn (mt : Int) (l.take mm)).cells.length c A2 (Mn (mt : Int) (l.take mm)).free.length c2 (Mn (mt : Int) (l.take mm)).most)) rfl (by kernel_rfl) (by kernel_rfl) (fun _ _ _ h => h) (Or.inl ⟨by kernel_rfl, fun W hW => ?_⟩) hS ?_
              · (have hz := Held.below v5.x hW; have z0 := hz.cell 0; have z1 := hz.cell 1; have z2 := hz.cell 2; simp at z0 z1 z2; go_simp)
              simp only [Act.put, List.getElem_toArray, List.getElem_cons_succ, List.getElem_cons_zero, List.setIfInBounds_toArray, List.set_cons_zero, List.set_cons_succ]
              refine wpAnyH_takeS HNS (i := 1) (v := .slice (some ⟨b, off, none⟩) mm c7) rfl (by kernel_rfl) (by kernel_rfl) (fun _ _ _ h => h) (Or.inl ⟨by kernel_rfl, fun W hW => ?_⟩) hS ?_
              · go_simp
              simp only [Act.put, List.getElem_toArray, List.getElem_cons_succ, List.getElem_cons_zero, List.setIfInBounds_toArray, List.set_cons_zero, List.set_cons_succ]
              refine wpAnyH_takeS HNS (i := 2) (v := .int .i64 j) rfl (by kernel_rfl) (by kernel_rfl) (fun _ _ _ h => h) (Or.inl ⟨by kernel_rfl, fun W hW => ?_⟩) hS ?_
              · go_simp
              simp only [Act.put, List.getElem_toArray, List.getElem_cons_succ, List.getElem_cons_zero, List.setIfInBounds_toArray, List.set_cons_zero, List.set_cons_succ]
              refine wpAnyH_takeS HNS (i := 3) (v := .pointer (some ⟨b, off + j * 2, none⟩)) rfl (by kernel_rfl) (by kernel_rfl) (fun _ _ _ h => h) (Or.inl ⟨by kernel_rfl, fun W hW => ?_⟩) hS ?_
              · go_simp
              simp only [Act.put, List.getElem_toArray, List.getElem_cons_succ, List.getElem_cons_zero, List.setIfInBounds_toArray, List.set_cons_zero, List.set_cons_succ]
              refine wpAnyH_takeS HNS (i := 4) (v := .agg #[.int .i64 j, .int .i64 0]) rfl (by kernel_rfl) (by kernel_rfl) (fun _ _ _ h => h) (Or.inl ⟨by kernel_rfl, fun W hW => ?_⟩) hS ?_
              · (have z0 := (hW.cell (p := ⟨b, _, none⟩) hbl).trans y0; have z1 := (hW.cell (p := ⟨b, _, none⟩) hbl).trans y1; go_simp)
              simp only [Act.put, List.getElem_toArray, List.getElem_cons_succ, List.getElem_cons_zero, List.setIfInBounds_toArray, List.set_cons_zero, List.set_cons_succ]
              refine wpAnyH_ready (rs := [5, 9]) (by kernel_rfl) (by simp) ?_
              refine (AllReadyH.cons rfl (fun K hK => ?_) (AllReadyH.cons rfl (fun K hK => ?_) AllReadyH.nil))
              · rw [if_pos (by kernel_rfl)]
                go_simp
                go_at_call 18
                (with_reducible refine (get_o (r := ((j : Int), 0)) GU.out LPm _ _ _ (v5.below hS).p).mono ?_)
                rintro _ u28 ⟨ds28, rfl, d128, d228, ho28, hb28⟩
                replace hS := Below.step hS hb28
                have hof := ho28
                have hd1 := d128
                have hd2 := d228
                (repeat (first | go_skip | go_guarded | go_step | go_upon))
                refine hK.out _ _ hS (fun _ => ?_)
                clear hK K
                (try simp only [Act.put, List.getElem_toArray, List.getElem_cons_succ, List.getElem_cons_zero, List.setIfInBounds_toArray, List.set_cons_zero, List.set_cons_succ])
                refine wpAnyH_takeS HNS (i := 6) (v := .tuple #[.agg ds28, .bool true]) rfl (by kernel_rfl) (by kernel_rfl) (fun _ _ _ h => h) (Or.inl ⟨by kernel_rfl, fun W hW => ?_⟩) hS ?_
                · go_simp
                simp only [Act.put, List.getElem_toArray, List.getElem_cons_succ, List.getElem_cons_zero, List.setIfInBounds_toArray, List.set_cons_zero, List.set_cons_succ]
                refine wpAnyH_takeS HNS (i := 7) (v := .agg ds28) rfl (by kernel_rfl) (by kernel_rfl) (fun _ _ _ h => h) (Or.inl ⟨by kernel_rfl, fun W hW => ?_⟩) hS ?_
                · go_simp
                simp only [Act.put, List.getElem_toArray, List.getElem_cons_succ, List.getElem_cons_zero, List.setIfInBounds_toArray, List.set_cons_zero, List.set_cons_succ]
                refine wpAnyH_takeS HNS (i := 8) (v := .bool true) rfl (by kernel_rfl) (by kernel_rfl) (fun _ _ _ h => h) (Or.inl ⟨by kernel_rfl, fun W hW => ?_⟩) hS ?_
                · go_simp
                simp only [Act.put, List.getElem_toArray, List.getElem_cons_succ, List.getElem_cons_zero, List.setIfInBounds_toArray, List.set_cons_zero, List.set_cons_succ]
                refine wpAnyH_ready (rs := [9]) (by kernel_rfl) (by simp) ?_
                refine (AllReadyH.cons rfl (fun K hK => ?_) AllReadyH.nil)
                · rw [if_pos (by kernel_rfl)]
                  refine wp_alloc_R 35 rfl fzc (by kernel_rfl) ?_
                  have hbA := ((Below.refl _ _).alloc (Nat.le_refl _) _ : Below u28.heap.size u28 (u28.alloc (.cells fzc 35)))
                  replace hof := OwnF.below hof hbA
                  have hfr := Held.new u28 35 fzc
                  have lhfr := hS.size
                  replace hS := Below.step hS hbA
                  clear hbA
                  generalize u28.alloc (.cells fzc 35) = Wd29 at *
                  refine hK.out _ _ hS (fun _ => ?_)
                  clear hK K
                  (try simp only [Act.put, List.getElem_toArray, List.getElem_cons_succ, List.getElem_cons_zero, List.setIfInBounds_toArray, List.set_cons_zero, List.set_cons_succ])
                  refine wpAnyH_ready (rs := [10]) (by kernel_rfl) (by simp) ?_
                  refine (AllReadyH.cons rfl (fun K hK => ?_) AllReadyH.nil)
                  · rw [if_pos (by kernel_rfl)]
                    refine wp_store_row 35 _ _ rfl _ ds28 (by rfl) (by rfl) _ _ hfr (by rw [hd1]; kernel_rfl) (by rw [hd1]; rfl) hd2 ?_
                    have hff := (hof.kt (kt_row hfr ds28) (by decide) (by decide)).at
                    have hfv := held_rowSelf hfr ds28
                    replace hS := below_setRow hS lhfr ds28
                    clear hof hfr
                    generalize World.setRow _ _ ds28 = Wst at *
                    refine hK.out _ _ hS (fun _ => ?_)
                    clear hK K
                    (try simp only [Act.put, List.getElem_toArray, List.getElem_cons_succ, List.getElem_cons_zero, List.setIfInBounds_toArray, List.set_cons_zero, List.set_cons_succ])
                    refine wpAnyH_takeS HNS (i := 11) (v := .bool true) rfl (by kernel_rfl) (by kernel_rfl) (fun _ _ _ h => h) (Or.inl ⟨by kernel_rfl, fun W hW => ?_⟩) hS ?_
                    · go_simp
                    simp only [Act.put, List.getElem_toArray, List.getElem_cons_succ, List.getElem_cons_zero, List.setIfInBounds_toArray, List.set_cons_zero, List.set_cons_succ]
                    refine wpAnyH_done (by kernel_rfl) ?_ _
                    go_wp2_with fail
                    go_meet
                    case rel => exact ⟨_, _, rfl, rfl, ⟨hfv, hd1, hd2, hff⟩, Below.step HDR.out hS⟩
              · rw [if_pos (by kernel_rfl)]
                refine wp_alloc_R 35 rfl fzc (by kernel_rfl) ?_
                have hbA := ((Below.refl _ _).alloc (Nat.le_refl _) _ : Below Wq.heap.size Wq (Wq.alloc (.cells fzc 35)))
                have hfr := Held.new Wq 35 fzc
                have lhfr := hS.size
                replace hS := Below.step hS hbA
                clear hbA
                generalize Wq.alloc (.cells fzc 35) = Wd30 at *
                refine hK.out _ _ hS (fun _ => ?_)
                clear hK K
                (try simp only [Act.put, List.getElem_toArray, List.getElem_cons_succ, List.getElem_cons_zero, List.setIfInBounds_toArray, List.set_cons_zero, List.set_cons_succ])
                refine wpAnyH_ready (rs := [5]) (by kernel_rfl) (by simp) ?_
                refine (AllReadyH.cons rfl (fun K hK => ?_) AllReadyH.nil)
                · rw [if_pos (by kernel_rfl)]
                  go_simp
                  go_at_call 18
                  (with_reducible refine (get_o (r := ((j : Int), 0)) GU.out LPm _ _ _ (v5.below hS).p).mono ?_)
                  rintro _ u31 ⟨ds31, rfl, d131, d231, ho31, hb31⟩
                  replace hfr := Held.below hfr hb31
                  replace hS := Below.step hS hb31
                  have hof := ho31
                  have hd1 := d131
                  have hd2 := d231
                  (repeat (first | go_skip | go_guarded | go_step | go_upon))
                  refine hK.out _ _ hS (fun _ => ?_)
                  clear hK K
                  (try simp only [Act.put, List.getElem_toArray, List.getElem_cons_succ, List.getElem_cons_zero, List.setIfInBounds_toArray, List.set_cons_zero, List.set_cons_succ])
                  refine wpAnyH_takeS HNS (i := 6) (v := .tuple #[.agg ds31, .bool true]) rfl (by kernel_rfl) (by kernel_rfl) (fun _ _ _ h => h) (Or.inl ⟨by kernel_rfl, fun W hW => ?_⟩) hS ?_
                  · go_simp
                  simp only [Act.put, List.getElem_toArray, List.getElem_cons_succ, List.getElem_cons_zero, List.setIfInBounds_toArray, List.set_cons_zero, List.set_cons_succ]
                  refine wpAnyH_takeS HNS (i := 7) (v := .agg ds31) rfl (by kernel_rfl) (by kernel_rfl) (fun _ _ _ h => h) (Or.inl ⟨by kernel_rfl, fun W hW => ?_⟩) hS ?_
                  · go_simp
                  simp only [Act.put, List.getElem_toArray, List.getElem_cons_succ, List.getElem_cons_zero, List.setIfInBounds_toArray, List.set_cons_zero, List.set_cons_succ]
                  refine wpAnyH_takeS HNS (i := 8) (v := .bool true) rfl (by kernel_rfl) (by kernel_rfl) (fun _ _ _ h => h) (Or.inl ⟨by kernel_rfl, fun W hW => ?_⟩) hS ?_
                  · go_simp
                  simp only [Act.put, List.getElem_toArray, List.getElem_cons_succ, List.getElem_cons_zero, List.setIfInBounds_toArray, List.set_cons_zero, List.set_cons_succ]
                  refine wpAnyH_ready (rs := [10]) (by kernel_rfl) (by simp) ?_
                  refine (AllReadyH.cons rfl (fun K hK => ?_) AllReadyH.nil)
                  · rw [if_pos (by kernel_rfl)]
                    refine wp_store_row 35 _ _ rfl _ ds31 (by rfl) (by rfl) _ _ hfr (by rw [hd1]; kernel_rfl) (by rw [hd1]; rfl) hd2 ?_
                    have hff := (hof.kt (kt_row hfr ds31) (by decide) (by decide)).at
                    have hfv := held_rowSelf hfr ds31
                    replace hS := below_setRow hS lhfr ds31
                    clear hof hfr
                    generalize World.setRow _ _ ds31 = Wst at *
                    refine hK.out _ _ hS (fun _ => ?_)
                    clear hK K
                    (try simp only [Act.put, List.getElem_toArray, List.getElem_cons_succ, List.getElem_cons_zero, List.setIfInBounds_toArray, List.set_cons_zero, List.set_cons_succ])
                    refine wpAnyH_takeS HNS (i := 11) (v := .bool true) rfl (by kernel_rfl) (by kernel_rfl) (fun _ _ _ h => h) (Or.inl ⟨by kernel_rfl, fun W hW => ?_⟩) hS ?_
                    · go_simp
                    simp only [Act.put, List.getElem_toArray, List.getElem_cons_succ, List.getElem_cons_zero, List.setIfInBounds_toArray, List.set_cons_zero, List.set_cons_succ]
                    refine wpAnyH_done (by kernel_rfl) ?_ _
                    go_wp2_with fail
                    go_meet
                    case rel => exact ⟨_, _, rfl, rfl, ⟨hfv, hd1, hd2, hff⟩, Below.step HDR.out hS⟩
            case rest =>
              obtain ⟨k13, ds13, rfl, rfl, v13, hwc⟩ := hcut
              obtain ⟨s4, s3, hb2⟩ := HR9.out
              have hR9 := range_keep s4 (hwc.block b2 hb2)
              have hF9 := (s3.below hwc (Nat.le_refl _)).more hwc.size
              replace hb2 := Nat.lt_of_lt_of_le hb2 hwc.size
              have HWC := Lib.hid hwc
              clear s4 s3 hwc v5 y0 y1 hbl
              go_upto_region 20 with (fail)
              have hdr := (Below.refl wc.heap.size wc).drew
              have HDR := Lib.hid hdr
              replace v13 := v13.below hdr
              replace hR9 := range_keep hR9 (hdr.block b2 hb2)
              replace hF9 := (hF9.below hdr (Nat.le_refl _)).more hdr.size
              replace hb2 : b2 < wc.drew.heap.size := hb2
              clear hdr
              refine wp_region_held_drew (S := fun W => Below wc.drew.heap.size wc.drew W) (by kernel_rfl) (Below.refl _ _) (fun hS => ?_)
              generalize wc.drew = W6 at *
              show wpAnyH _ _ _ _ _ 11 #[false, false, false, false, false, false, false, false, false, false, false] _ _
              refine wpAnyH_begin (by kernel_rfl) (fun HNS => ?_)
              refine wpAnyH_takeS HNS (i := 0) (v := .bool true) rfl (by kernel_rfl) (by kernel_rfl) (fun _ _ _ h => h) (Or.inl ⟨by kernel_rfl, fun W hW => ?_⟩) hS ?_
              · go_simp
              simp only [Act.put, List.getElem_toArray, List.getElem_cons_succ, List.getElem_cons_zero, List.setIfInBounds_toArray, List.set_cons_zero, List.set_cons_succ]
              refine wpAnyH_takeS HNS (i := 1) (v := .bool false) rfl (by kernel_rfl) (by kernel_rfl) (fun _ _ _ h => h) (Or.inl ⟨by kernel_rfl, fun W hW => ?_⟩) hS ?_
              · go_simp
              simp only [Act.put, List.getElem_toArray, List.getElem_cons_succ, List.getElem_cons_zero, List.setIfInBounds_toArray, List.set_cons_zero, List.set_cons_succ]
              refine wpAnyH_takeS HNS (i := 2) (v := .bool false) rfl (by kernel_rfl) (by kernel_rfl) (fun _ _ _ h => h) (Or.inl ⟨by kernel_rfl, fun W hW => ?_⟩) hS ?_
              · go_simp
              simp only [Act.put, List.getElem_toArray, List.getElem_cons_succ, List.getElem_cons_zero, List.setIfInBounds_toArray, List.set_cons_zero, List.set_cons_succ]
              refine wpAnyH_takeS HNS (i := 3) (v := .agg ds13) rfl (by kernel_rfl) (by kernel_rfl) (fun _ _ _ h => h) (yieldsIf_load_midA (by kernel_rfl) 35 _ rfl k13 0 (by rfl) ds13 _ (fun W hW => range_held (Held.below v13.x hW)) Try.underlying35 rfl (by rw [v13.s]; kernel_rfl)) hS ?_
              simp only [Act.put, List.getElem_toArray, List.getElem_cons_succ, List.getElem_cons_zero, List.setIfInBounds_toArray, List.set_cons_zero, List.set_cons_succ]
              refine wpAnyH_takeS HNS (i := 4) (v := .slice (some ⟨b2, off2, none⟩) nl cl) rfl (by kernel_rfl) (by kernel_rfl) (fun _ _ _ h => h) (Or.inl ⟨by kernel_rfl, fun W hW => ?_⟩) hS ?_
              · go_simp
              simp only [Act.put, List.getElem_toArray, List.getElem_cons_succ, List.getElem_cons_zero, List.setIfInBounds_toArray, List.set_cons_zero, List.set_cons_succ]
              refine wpAnyH_takeS HNS (i := 5) (v := .int .i64 j) rfl (by kernel_rfl) (by kernel_rfl) (fun _ _ _ h => h) (Or.inl ⟨by kernel_rfl, fun W hW => ?_⟩) hS ?_
              · go_simp
              simp only [Act.put, List.getElem_toArray, List.getElem_cons_succ, List.getElem_cons_zero, List.setIfInBounds_toArray, List.set_cons_zero, List.set_cons_succ]
              refine wpAnyH_takeS HNS (i := 6) (v := .pointer (some ⟨b2, off2 + j * 16, none⟩)) rfl (by kernel_rfl) (by kernel_rfl) (fun _ _ _ h => h) (Or.inl ⟨by kernel_rfl, fun W hW => ?_⟩) hS ?_
              · go_simp
              simp only [Act.put, List.getElem_toArray, List.getElem_cons_succ, List.getElem_cons_zero, List.setIfInBounds_toArray, List.set_cons_zero, List.set_cons_succ]
              refine wpAnyH_takeS HNS (i := 7) (v := .agg fs) rfl (by kernel_rfl) (by kernel_rfl) (fun _ _ _ h => h) (yieldsIf_load_midA (by kernel_rfl) 35 _ rfl b2 (off2 + j * 16) (by rfl) fs _ (fun W hW => range_keep hR9 (hW.block b2 hb2)) Try.underlying35 rfl (by rw [S1.out]; kernel_rfl)) hS ?_
              simp only [Act.put, List.getElem_toArray, List.getElem_cons_succ, List.getElem_cons_zero, List.setIfInBounds_toArray, List.set_cons_zero, List.set_cons_succ]
              refine wpAnyH_ready (rs := [8]) (by kernel_rfl) (by simp) ?_
              refine (AllReadyH.cons rfl (fun K hK => ?_) AllReadyH.nil)
              · rw [if_pos (by kernel_rfl)]
                go_simp
                go_at_call 23
                (with_reducible refine (rsamef_c (decide_eq_true rfl) LFj LFj _ (v13.below hS).p ((hF9.below hS (Nat.le_refl _)).more hS.size)).mono ?_)
                rintro _ u1 ⟨rfl, hb1⟩
                replace hS := Below.step hS hb1
                (repeat (first | go_skip | go_guarded | go_step | go_upon))
                refine hK.out _ _ hS (fun _ => ?_)
                clear hK K
                (try simp only [Act.put, List.getElem_toArray, List.getElem_cons_succ, List.getElem_cons_zero, List.setIfInBounds_toArray, List.set_cons_zero, List.set_cons_succ])
                refine wpAnyH_takeS HNS (i := 9) (v := .bool false) rfl (by kernel_rfl) (by kernel_rfl) (fun _ _ _ h => h) (Or.inl ⟨by kernel_rfl, fun W hW => ?_⟩) hS ?_
                · go_simp
                simp only [Act.put, List.getElem_toArray, List.getElem_cons_succ, List.getElem_cons_zero, List.setIfInBounds_toArray, List.set_cons_zero, List.set_cons_succ]
                refine wpAnyH_takeS HNS (i := 10) (v := .bool false) rfl (by kernel_rfl) (by kernel_rfl) (fun _ _ _ h => h) (Or.inl ⟨by kernel_rfl, fun W hW => ?_⟩) hS ?_
                · go_simp
                simp only [Act.put, List.getElem_toArray, List.getElem_cons_succ, List.getElem_cons_zero, List.setIfInBounds_toArray, List.set_cons_zero, List.set_cons_succ]
                refine wpAnyH_done (by kernel_rfl) ?_ _
                (repeat (first | go_skip | go_guarded | go_step | go_upon))
                go_wp2_with fail
                go_roundw
                case rel => exact ⟨j + 1, by go_num, by omega, Below.step HWR.out (Below.step HWC.out (Below.step HDR.out hS))⟩
                case measure => simp [intOf]; omega
          · have hltI : ¬ ((j : Int) < (mm : Int)) := by omega
            obtain ⟨v5, w7, fl, hW⟩ := HV.out
            replace v5 := v5.below hw
            replace w7 := own_later w7 hw
            replace hW := Below.step hW hw
            have hwr : IntKind.i64.wrap ((mm : Int) - 1) = (mm : Int) - 1 := by rw [IntKind.wrap_i64]; omega
            go_upto_region 23 with (fail)
            clear hlt hltI hw fl HV HWR hwr
            go_loopw [15] (fun iv W => ∃ (v : Int) (t : Nat) (P : Zp) (A c A2 c2 : _), iv = .int .i64 v ∧ v = (mm : Int) - 1 - 2 * t ∧ -2 ≤ v ∧ t ≤ mm ∧ PV W g5 A c A2 c2 P ∧ Left P mt (mm - t) ∧ (∀ k : Nat, (k : Int) ≤ v → hasZ P ((k : Int), 0) = true) ∧ SmP P (30 + t) ∧ OwnR W w.heap.size (.slice A7 mm c7) (rm mm) ∧ Below w.heap.size w W) (fun iv _ => (intOf iv + 2).toNat)
            case atStart =>
              have hL0 : Left (Mn (mt : Int) (l.take mm)) mt (l.take mm).length := mn_left HM1.out.2.2.1 HM1.out.2.2.2 (by rw [HLm.out]; omega)
              rw [HLm.out] at hL0
              exact ⟨_, 0, Mn (mt : Int) (l.take mm), _, _, _, _, rfl, by omega, by omega, by omega, v5, hL0, fun k hk => mn_has (by rw [HLm.out]; omega), mn_sm (by rw [HLm.out]; omega) (fun f hf => HF.out f (List.take_subset_take_left l hml.1 hf)), w7, hW⟩
            case round =>
              clear v5 w7 hW
              obtain ⟨v, tt, P, A3, c3, A4, c4, rfl, hv, hv2, htm, v5, hLf, hH, hSm, w7, hW⟩ := hrel
              have HV1 := Lib.hid hv
              by_cases hge : 0 ≤ v
              · obtain ⟨k, rfl⟩ : ∃ k : Nat, v = k := ⟨v.toNat, by omega⟩
                have hkm : k < mm := by omega
                obtain ⟨S, hD, hn1, hLS, hHS, hSS⟩ := left_drop (i := k) hLf (fun q hq => hH q (by omega)) hSm
                have LP := hSm.len (by omega)
                have hpr := own2_at w7
                obtain ⟨b, off, rfl, -, hc7⟩ := hpr (by rw [rm_len]; omega)
                obtain ⟨y0, y1⟩ := hc7 k (by rw [rm_len]; exact hkm)
                rw [rm_at] at y0 y1
                have hbl : b < wr.heap.size := block_lt_of_cell y0
                have HD := Lib.hid hD
                have HLS := Lib.hid (And.intro hLS (And.intro hHS (And.intro hSS hn1)))
                have hk2 : (k : Int) ≤ 30 := by omega
                clear hD hLS hHS hSS hn1 hLf hH hSm hc7 hpr hv
                go_upto_region 25 with (fail)
                go_cut [16, 17] from 116 to 127 (fun vb ve wx => ∃ k16 A16 c16 B16 d16, vb = .pointer (some ⟨k16, 0, none⟩) ∧ ve = .int .i64 0 ∧ PV wx k16 A16 c16 B16 d16 S ∧ Below wr.heap.size wr wx)
                case first =>
                  have hdr := (Below.refl wr.heap.size wr).drew
                  have HDR := Lib.hid hdr
                  replace v5 := v5.below hdr
                  replace y0 := (hdr.cell (p := ⟨b, _, none⟩) hbl).trans y0
                  replace y1 := (hdr.cell (p := ⟨b, _, none⟩) hbl).trans y1
                  replace hbl : b < wr.drew.heap.size := hbl
                  clear hdr
                  refine wp_region_held_drew (S := fun W => Below wr.drew.heap.size wr.drew W) (by kernel_rfl) (Below.refl _ _) (fun hS => ?_)
                  generalize wr.drew = Wq at *
                  show wpAnyH _ _ _ _ _ 12 #[false, false, false, false, false, false, false, false, false, false, false, false] _ _
                  refine wpAnyH_begin (by kernel_rfl) (fun HNS => ?_)
                  refine wpAnyH_takeS HNS (i := 0) (v := .agg (pc A3 P.cells.length c3 A4 P.free.length c4 P.most)) rfl (by kernel_rfl) (by kernel_rfl) (fun _ _ _ h => h) (Or.inl ⟨by kernel_rfl, fun W hW => ?_⟩) hS ?_
                  · (have hz := Held.below v5.x hW; have z0 := hz.cell 0; have z1 := hz.cell 1; have z2 := hz.cell 2; simp at z0 z1 z2; go_simp)
                  simp only [Act.put, List.getElem_toArray, List.getElem_cons_succ, List.getElem_cons_zero, List.setIfInBounds_toArray, List.set_cons_zero, List.set_cons_succ]
                  refine wpAnyH_takeS HNS (i := 1) (v := .slice (some ⟨b, off, none⟩) mm c7) rfl (by kernel_rfl) (by kernel_rfl) (fun _ _ _ h => h) (Or.inl ⟨by kernel_rfl, fun W hW => ?_⟩) hS ?_
                  · go_simp
                  simp only [Act.put, List.getElem_toArray, List.getElem_cons_succ, List.getElem_cons_zero, List.setIfInBounds_toArray, List.set_cons_zero, List.set_cons_succ]
                  refine wpAnyH_takeS HNS (i := 2) (v := .int .i64 k) rfl (by kernel_rfl) (by kernel_rfl) (fun _ _ _ h => h) (Or.inl ⟨by kernel_rfl, fun W hW => ?_⟩) hS ?_
                  · go_simp
                  simp only [Act.put, List.getElem_toArray, List.getElem_cons_succ, List.getElem_cons_zero, List.setIfInBounds_toArray, List.set_cons_zero, List.set_cons_succ]
                  refine wpAnyH_takeS HNS (i := 3) (v := .pointer (some ⟨b, off + k * 2, none⟩)) rfl (by kernel_rfl) (by kernel_rfl) (fun _ _ _ h => h) (Or.inl ⟨by kernel_rfl, fun W hW => ?_⟩) hS ?_
                  · go_simp
                  simp only [Act.put, List.getElem_toArray, List.getElem_cons_succ, List.getElem_cons_zero, List.setIfInBounds_toArray, List.set_cons_zero, List.set_cons_succ]
                  refine wpAnyH_takeS HNS (i := 4) (v := .agg #[.int .i64 k, .int .i64 0]) rfl (by kernel_rfl) (by kernel_rfl) (fun _ _ _ h => h) (Or.inl ⟨by kernel_rfl, fun W hW => ?_⟩) hS ?_
                  · (have z0 := (hW.cell (p := ⟨b, _, none⟩) hbl).trans y0; have z1 := (hW.cell (p := ⟨b, _, none⟩) hbl).trans y1; go_simp)
                  simp only [Act.put, List.getElem_toArray, List.getElem_cons_succ, List.getElem_cons_zero, List.setIfInBounds_toArray, List.set_cons_zero, List.set_cons_succ]
                  refine wpAnyH_ready (rs := [5, 9]) (by kernel_rfl) (by simp) ?_
                  refine (AllReadyH.cons rfl (fun K hK => ?_) (AllReadyH.cons rfl (fun K hK => ?_) AllReadyH.nil))
                  · rw [if_pos (by kernel_rfl)]
                    go_simp
                    go_at_call 16
                    (with_reducible refine (drop_c (r := ((k : Int), 0)) HD.out LP _ _ _ (v5.below hS).p).mono ?_)
                    rintro _ u32 ⟨A32, c32, B32, d32, rfl, ho32, hb32⟩
                    replace hS := Below.step hS hb32
                    have hoz := OwnZ.mono ho32 (Nat.zero_le _)
                    (repeat (first | go_skip | go_guarded | go_step | go_upon))
                    refine hK.out _ _ hS (fun _ => ?_)
                    clear hK K
                    (try simp only [Act.put, List.getElem_toArray, List.getElem_cons_succ, List.getElem_cons_zero, List.setIfInBounds_toArray, List.set_cons_zero, List.set_cons_succ])
                    refine wpAnyH_takeS HNS (i := 6) (v := .tuple #[.agg (pc A32 S.cells.length c32 B32 S.free.length d32 S.most), .int .i64 0]) rfl (by kernel_rfl) (by kernel_rfl) (fun _ _ _ h => h) (Or.inl ⟨by kernel_rfl, fun W hW => ?_⟩) hS ?_
                    · go_simp
                    simp only [Act.put, List.getElem_toArray, List.getElem_cons_succ, List.getElem_cons_zero, List.setIfInBounds_toArray, List.set_cons_zero, List.set_cons_succ]
                    refine wpAnyH_takeS HNS (i := 7) (v := .agg (pc A32 S.cells.length c32 B32 S.free.length d32 S.most)) rfl (by kernel_rfl) (by kernel_rfl) (fun _ _ _ h => h) (Or.inl ⟨by kernel_rfl, fun W hW => ?_⟩) hS ?_
                    · go_simp
                    simp only [Act.put, List.getElem_toArray, List.getElem_cons_succ, List.getElem_cons_zero, List.setIfInBounds_toArray, List.set_cons_zero, List.set_cons_succ]
                    refine wpAnyH_takeS HNS (i := 8) (v := .int .i64 0) rfl (by kernel_rfl) (by kernel_rfl) (fun _ _ _ h => h) (Or.inl ⟨by kernel_rfl, fun W hW => ?_⟩) hS ?_
                    · go_simp
                    simp only [Act.put, List.getElem_toArray, List.getElem_cons_succ, List.getElem_cons_zero, List.setIfInBounds_toArray, List.set_cons_zero, List.set_cons_succ]
                    refine wpAnyH_ready (rs := [9]) (by kernel_rfl) (by simp) ?_
                    refine (AllReadyH.cons rfl (fun K hK => ?_) AllReadyH.nil)
                    · rw [if_pos (by kernel_rfl)]
                      refine wp_alloc_R 25 rfl pz0 (by kernel_rfl) ?_
                      have hbA := ((Below.refl _ _).alloc (Nat.le_refl _) _ : Below u32.heap.size u32 (u32.alloc (.cells pz0 25)))
                      replace hoz := OwnZ.below hoz hbA
                      have hfr := Held.new u32 25 pz0
                      have lhfr := hS.size
                      replace hS := Below.step hS hbA
                      clear hbA
                      generalize u32.alloc (.cells pz0 25) = Wd33 at *
                      refine hK.out _ _ hS (fun _ => ?_)
                      clear hK K
                      (try simp only [Act.put, List.getElem_toArray, List.getElem_cons_succ, List.getElem_cons_zero, List.setIfInBounds_toArray, List.set_cons_zero, List.set_cons_succ])
                      refine wpAnyH_ready (rs := [10]) (by kernel_rfl) (by simp) ?_
                      refine (AllReadyH.cons rfl (fun K hK => ?_) AllReadyH.nil)
                      · rw [if_pos (by kernel_rfl)]
                        refine wp_store_row 25 _ _ rfl _ (pc A32 S.cells.length c32 B32 S.free.length d32 S.most) (by rfl) (by rfl) _ _ hfr (by kernel_rfl) (by rfl) (by simp [Value.oneCell']) ?_
                        have hpv := over_p hfr hoz
                        replace hS := below_setRow hS lhfr (pc A32 S.cells.length c32 B32 S.free.length d32 S.most)
                        clear hoz hfr
                        generalize World.setRow _ _ (pc A32 S.cells.length c32 B32 S.free.length d32 S.most) = Wst at *
                        refine hK.out _ _ hS (fun _ => ?_)
                        clear hK K
                        (try simp only [Act.put, List.getElem_toArray, List.getElem_cons_succ, List.getElem_cons_zero, List.setIfInBounds_toArray, List.set_cons_zero, List.set_cons_succ])
                        refine wpAnyH_takeS HNS (i := 11) (v := .int .i64 0) rfl (by kernel_rfl) (by kernel_rfl) (fun _ _ _ h => h) (Or.inl ⟨by kernel_rfl, fun W hW => ?_⟩) hS ?_
                        · go_simp
                        simp only [Act.put, List.getElem_toArray, List.getElem_cons_succ, List.getElem_cons_zero, List.setIfInBounds_toArray, List.set_cons_zero, List.set_cons_succ]
                        refine wpAnyH_done (by kernel_rfl) ?_ _
                        go_wp2_with fail
                        go_meet
                        case rel => exact ⟨_, _, _, _, _, rfl, rfl, hpv, Below.step HDR.out hS⟩
                  · rw [if_pos (by kernel_rfl)]
                    refine wp_alloc_R 25 rfl pz0 (by kernel_rfl) ?_
                    have hbA := ((Below.refl _ _).alloc (Nat.le_refl _) _ : Below Wq.heap.size Wq (Wq.alloc (.cells pz0 25)))
                    have hfr := Held.new Wq 25 pz0
                    have lhfr := hS.size
                    replace hS := Below.step hS hbA
                    clear hbA
                    generalize Wq.alloc (.cells pz0 25) = Wd34 at *
                    refine hK.out _ _ hS (fun _ => ?_)
                    clear hK K
                    (try simp only [Act.put, List.getElem_toArray, List.getElem_cons_succ, List.getElem_cons_zero, List.setIfInBounds_toArray, List.set_cons_zero, List.set_cons_succ])
                    refine wpAnyH_ready (rs := [5]) (by kernel_rfl) (by simp) ?_
                    refine (AllReadyH.cons rfl (fun K hK => ?_) AllReadyH.nil)
                    · rw [if_pos (by kernel_rfl)]
                      go_simp
                      go_at_call 16
                      (with_reducible refine (drop_c (r := ((k : Int), 0)) HD.out LP _ _ _ (v5.below hS).p).mono ?_)
                      rintro _ u35 ⟨A35, c35, B35, d35, rfl, ho35, hb35⟩
                      replace hfr := Held.below hfr hb35
                      replace hS := Below.step hS hb35
                      have hoz := OwnZ.mono ho35 (Nat.zero_le _)
                      (repeat (first | go_skip | go_guarded | go_step | go_upon))
                      refine hK.out _ _ hS (fun _ => ?_)
                      clear hK K
                      (try simp only [Act.put, List.getElem_toArray, List.getElem_cons_succ, List.getElem_cons_zero, List.setIfInBounds_toArray, List.set_cons_zero, List.set_cons_succ])
                      refine wpAnyH_takeS HNS (i := 6) (v := .tuple #[.agg (pc A35 S.cells.length c35 B35 S.free.length d35 S.most), .int .i64 0]) rfl (by kernel_rfl) (by kernel_rfl) (fun _ _ _ h => h) (Or.inl ⟨by kernel_rfl, fun W hW => ?_⟩) hS ?_
                      · go_simp
                      simp only [Act.put, List.getElem_toArray, List.getElem_cons_succ, List.getElem_cons_zero, List.setIfInBounds_toArray, List.set_cons_zero, List.set_cons_succ]
                      refine wpAnyH_takeS HNS (i := 7) (v := .agg (pc A35 S.cells.length c35 B35 S.free.length d35 S.most)) rfl (by kernel_rfl) (by kernel_rfl) (fun _ _ _ h => h) (Or.inl ⟨by kernel_rfl, fun W hW => ?_⟩) hS ?_
                      · go_simp
                      simp only [Act.put, List.getElem_toArray, List.getElem_cons_succ, List.getElem_cons_zero, List.setIfInBounds_toArray, List.set_cons_zero, List.set_cons_succ]
                      refine wpAnyH_takeS HNS (i := 8) (v := .int .i64 0) rfl (by kernel_rfl) (by kernel_rfl) (fun _ _ _ h => h) (Or.inl ⟨by kernel_rfl, fun W hW => ?_⟩) hS ?_
                      · go_simp
                      simp only [Act.put, List.getElem_toArray, List.getElem_cons_succ, List.getElem_cons_zero, List.setIfInBounds_toArray, List.set_cons_zero, List.set_cons_succ]
                      refine wpAnyH_ready (rs := [10]) (by kernel_rfl) (by simp) ?_
                      refine (AllReadyH.cons rfl (fun K hK => ?_) AllReadyH.nil)
                      · rw [if_pos (by kernel_rfl)]
                        refine wp_store_row 25 _ _ rfl _ (pc A35 S.cells.length c35 B35 S.free.length d35 S.most) (by rfl) (by rfl) _ _ hfr (by kernel_rfl) (by rfl) (by simp [Value.oneCell']) ?_
                        have hpv := over_p hfr hoz
                        replace hS := below_setRow hS lhfr (pc A35 S.cells.length c35 B35 S.free.length d35 S.most)
                        clear hoz hfr
                        generalize World.setRow _ _ (pc A35 S.cells.length c35 B35 S.free.length d35 S.most) = Wst at *
                        refine hK.out _ _ hS (fun _ => ?_)
                        clear hK K
                        (try simp only [Act.put, List.getElem_toArray, List.getElem_cons_succ, List.getElem_cons_zero, List.setIfInBounds_toArray, List.set_cons_zero, List.set_cons_succ])
                        refine wpAnyH_takeS HNS (i := 11) (v := .int .i64 0) rfl (by kernel_rfl) (by kernel_rfl) (fun _ _ _ h => h) (Or.inl ⟨by kernel_rfl, fun W hW => ?_⟩) hS ?_
                        · go_simp
                        simp only [Act.put, List.getElem_toArray, List.getElem_cons_succ, List.getElem_cons_zero, List.setIfInBounds_toArray, List.set_cons_zero, List.set_cons_succ]
                        refine wpAnyH_done (by kernel_rfl) ?_ _
                        go_wp2_with fail
                        go_meet
                        case rel => exact ⟨_, _, _, _, _, rfl, rfl, hpv, Below.step HDR.out hS⟩
                case rest =>
                  obtain ⟨k16, A16, c16, B16, d16, rfl, rfl, v16, hwc⟩ := hcut
                  replace v5 := v5.below hwc
                  replace w7 := own_later w7 hwc
                  replace hW := Below.step hW hwc
                  have w8 : OwnR (wc.setRow g5 (pc A16 S.cells.length c16 B16 S.free.length d16 S.most)) w.heap.size (.slice (some ⟨b, off, none⟩) mm c7) (rm mm) := row_kt w7 (kt_row v5.x _) (by decide)
                  have v5' := over_p v5.x v16.o
                  have hW' := below_setRow hW HG5.out (pc A16 S.cells.length c16 B16 S.free.length d16 S.most)
                  have FIN := Lib.hid (And.intro w8 (And.intro v5' hW'))
                  have X5 := Lib.hid v5.x
                  have hwr : IntKind.i64.wrap ((k : Int) - 2) = (k : Int) - 2 := by rw [IntKind.wrap_i64]; omega
                  clear w8 v5' hW' w7 hW v5 y0 y1 hbl hwc
                  go_wp2_with (first
                    | (guard_target = wpList _ _ _ (Oper.mk (some 127) _ _ _ _ none :: _) _ _; refine wpList_load_row rfl 25 _ rfl k16 rfl _ _ _ _ v16.x Try.underlying25 rfl (by kernel_rfl) ?_)
                    | (guard_target = wpList _ _ _ (Oper.mk _ (Op.store 25 (.tmp 5) _) _ _ _ none :: _) _ _; refine wpList_store_row rfl 25 _ _ rfl g5 (pc A16 S.cells.length c16 B16 S.free.length d16 S.most) rfl rfl _ _ X5.out (by kernel_rfl) rfl (by simp [Value.oneCell']) ?_))
                  go_roundw
                  case rel =>
                    have := HV1.out
                    have := HLS.out.2.2.2
                    exact ⟨(k : Int) - 2, tt + 1, S, A16, c16, B16, d16, by first | rfl | go_num, by omega, by omega, by omega, FIN.out.2.1, HLS.out.1, fun q hq => HLS.out.2.1 q (by omega), HLS.out.2.2.1, FIN.out.1, FIN.out.2.2⟩
                  case measure => simp [intOf]; omega
              · have hhalf : mm - tt = mm / 2 := by omega
                obtain ⟨lR, hlR⟩ : ∃ l, refsZ P = l := ⟨_, rfl⟩
                have hlen := hLf.len
                rw [hlR, hhalf] at hlen
                rw [hhalf, ← hlen] at hLf
                have HLR := Lib.hid hlR
                have HLEN := Lib.hid hlen
                have LP := hSm.len (by omega)
                have HLF := Lib.hid hLf
                have hS60 := hSm.up (show 30 + tt ≤ 60 + lR.length by omega)
                have HSM := Lib.hid hS60
                have hl30 : lR.length ≤ 30 := by omega
                have hlmt : lR.length ≤ mt := by omega
                have hgeI : ¬ (0 ≤ v) := hge
                clear hlR hlen hhalf hLf hH hSm hS60 hv hv2 w7
                go_upto_region 30 with (first
                  | (guard_target = wpList _ _ _ (Oper.mk (some 128) _ _ _ _ none :: _) _ _; refine wpList_load_row rfl 25 _ rfl g5 rfl _ _ _ _ v5.x Try.underlying25 rfl (by kernel_rfl) ?_)
                  | (go_at_call 25; (with_reducible refine (refs_c HLR.out LP _ _ _ v5.p).mono ?_); rintro _ ur ⟨Ar, cr, rfl, -, hbr⟩; replace v5 := v5.below hbr; replace hW := Below.step hW hbr))
                clear hge hgeI
                go_upto_region 31 with (fail)
                go_loopw [19] (fun iv W => ∃ (n : Nat) (P : Zp) (A c A2 c2 : _), iv = .int .i64 n ∧ n ≤ mt ∧ PV W g5 A c A2 c2 P ∧ Left P mt n ∧ SmP P (60 + n) ∧ Below w.heap.size w W) (fun iv _ => mt - (intOf iv).toNat)
                case atStart => exact ⟨lR.length, P, _, _, _, _, rfl, hlmt, v5, HLF.out, HSM.out, hW⟩
                case round =>
                  clear v5 hW LP
                  obtain ⟨n, P5, A5, c5, A6, c6, rfl, hn, v5, hLf, hSm, hW⟩ := hrel
                  have hn0 : (0 : Int) ≤ n := by omega
                  have hmt30 : mt ≤ 30 := HM1.out.2.1
                  have LP := hSm.len (by omega)
                  by_cases hlt : n < mt
                  · have hltI : (n : Int) < (mt : Int) := by omega
                    obtain ⟨S, r, hLY, hLS, hSS⟩ := left_lay (f := frm0) hLf frm0_len hSm hltI
                    have HLY := Lib.hid hLY
                    have HLS := Lib.hid (And.intro hLS hSS)
                    clear hLY hLS hSS hLf hSm
                    go_upto_region 34 with (first
                      | (guard_target = wpList _ _ _ (Oper.mk (some 138) _ _ _ _ none :: _) _ _; refine wpList_load_row rfl 25 _ rfl g5 rfl _ _ _ _ v5.x Try.underlying25 rfl (by kernel_rfl) ?_)
                      | (go_at_call 12; (with_reducible refine (lay_c (fs := fzc) HLY.out LP frm0_len _ _ _ v5.p (by kernel_rfl) (frm0_at _ _)).mono ?_); rintro _ u ⟨A20, c20, B20, d20, rfl, ho, hb⟩; have hn := (Held.new u 25 pz0).alloc (.cells (refc 0 0) 27); have hm := Held.new1 u (.cells pz0 25) 27 (refc 0 0))
                      | (guard_target = wpList _ _ _ (Oper.mk _ (Op.store 25 (.tmp 20) _) _ _ _ none :: _) _ _; refine wpList_store_row rfl 25 _ _ rfl u.heap.size (pc A20 S.cells.length c20 B20 S.free.length d20 S.most) rfl rfl _ _ hn (by kernel_rfl) rfl (by simp [Value.oneCell']) ?_; have hm2 := held_row hm (Nat.succ_ne_self u.heap.size) (pc A20 S.cells.length c20 B20 S.free.length d20 S.most))
                      | (guard_target = wpList _ _ _ (Oper.mk _ (Op.store 27 (.tmp 21) _) _ _ _ none :: _) _ _; refine wpList_store_row rfl 27 _ _ rfl (u.heap.size + 1) (refc r.1 r.2) rfl rfl _ _ hm2 (by kernel_rfl) rfl (by simp [Value.oneCell']) ?_))
                    obtain ⟨v20, v21, hbW⟩ := new_p2 (c := c20) (c2 := d20) (P := S) (x := r.1) (y := r.2) hb ho
                    have hs_v20 := hb.size
                    have hs_v20r := (show _ < u.heap.size + 1 from Nat.lt_succ_of_le hb.size)
                    clear hb ho hn hm hm2
                    replace v5 := v5.below hbW
                    replace hW := Below.step hW hbW
                    clear hbW
                    generalize World.setRow _ (u.heap.size + 1) _ = W20 at *
                    generalize u.heap.size + 1 = g20r at *
                    generalize u.heap.size = g20 at *
                    have v5' := over_p v5.x v20.o
                    have hW' := below_setRow hW HG5.out (pc A20 S.cells.length c20 B20 S.free.length d20 S.most)
                    have FIN := Lib.hid (And.intro v5' hW')
                    have X5 := Lib.hid v5.x
                    clear v5' hW' v5 hW v21
                    go_wp2_with (first
                      | (guard_target = wpList _ _ _ (Oper.mk (some 146) _ _ _ _ none :: _) _ _; refine wpList_load_row rfl 25 _ rfl g20 rfl _ _ _ _ v20.x Try.underlying25 rfl (by kernel_rfl) ?_)
                      | (guard_target = wpList _ _ _ (Oper.mk _ (Op.store 25 (.tmp 5) _) _ _ _ none :: _) _ _; refine wpList_store_row rfl 25 _ _ rfl g5 (pc A20 S.cells.length c20 B20 S.free.length d20 S.most) rfl rfl _ _ X5.out (by kernel_rfl) rfl (by simp [Value.oneCell']) ?_))
                    go_roundw
                    case rel => exact ⟨n + 1, S, A20, c20, B20, d20, by go_num, by omega, FIN.out.1, HLS.out.1, HLS.out.2, FIN.out.2⟩
                    case measure => simp [intOf]; omega
                  · have hltI : ¬ ((n : Int) < (mt : Int)) := by omega
                    obtain ⟨r, hLY⟩ := left_full frm0 hLf (by omega)
                    have HLY := Lib.hid hLY
                    clear hLY hLf hSm
                    go_upto_region 37 with (fail)
                    clear hlt hltI
                    go_upto_region 38 with (first
                      | (guard_target = wpList _ _ _ (Oper.mk (some 148) _ _ _ _ none :: _) _ _; refine wpList_load_row rfl 25 _ rfl g5 rfl _ _ _ _ v5.x Try.underlying25 rfl (by kernel_rfl) ?_)
                      | (go_at_call 12; (with_reducible refine (lay_c (fs := fzc) HLY.out LP frm0_len _ _ _ v5.p (by kernel_rfl) (frm0_at _ _)).mono ?_); rintro _ u ⟨A23, c23, B23, d23, rfl, ho, hb⟩; have hn := (Held.new u 25 pz0).alloc (.cells (refc 0 0) 27); have hm := Held.new1 u (.cells pz0 25) 27 (refc 0 0))
                      | (guard_target = wpList _ _ _ (Oper.mk _ (Op.store 25 (.tmp 23) _) _ _ _ none :: _) _ _; refine wpList_store_row rfl 25 _ _ rfl u.heap.size (pc A23 P5.cells.length c23 B23 P5.free.length d23 P5.most) rfl rfl _ _ hn (by kernel_rfl) rfl (by simp [Value.oneCell']) ?_; have hm2 := held_row hm (Nat.succ_ne_self u.heap.size) (pc A23 P5.cells.length c23 B23 P5.free.length d23 P5.most))
                      | (guard_target = wpList _ _ _ (Oper.mk _ (Op.store 27 (.tmp 24) _) _ _ _ none :: _) _ _; refine wpList_store_row rfl 27 _ _ rfl (u.heap.size + 1) (refc r.1 r.2) rfl rfl _ _ hm2 (by kernel_rfl) rfl (by simp [Value.oneCell']) ?_))
                    obtain ⟨v23, v24, hbW⟩ := new_p2 (c := c23) (c2 := d23) (P := P5) (x := r.1) (y := r.2) hb ho
                    have hs_v23 := hb.size
                    have hs_v23r := (show _ < u.heap.size + 1 from Nat.lt_succ_of_le hb.size)
                    clear hb ho hn hm hm2
                    replace v5 := v5.below hbW
                    replace hW := Below.step hW hbW
                    clear hbW
                    generalize World.setRow _ (u.heap.size + 1) _ = W23 at *
                    generalize u.heap.size + 1 = g23r at *
                    generalize u.heap.size = g23 at *
                    have hq : Int.tdiv (mm : Int) 2 = (lR.length : Int) := by
                      have := HLEN.out
                      rw [Int.tdiv_eq_ediv_of_nonneg (by omega)]
                      omega
                    have hw2 : IntKind.i64.wrap (lR.length : Int) = (lR.length : Int) := by rw [IntKind.wrap_i64]; omega
                    clear v23 v24 v5
                    go_wp2_with fail
                    go_ret
                    exact ⟨rfl, hW⟩
end Go.Proofs.Ytkpjlobpaippdaa.penMany
