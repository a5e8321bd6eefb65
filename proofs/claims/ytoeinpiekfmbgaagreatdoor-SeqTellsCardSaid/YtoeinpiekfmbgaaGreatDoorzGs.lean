/- Layer 8's code: the checker's check; Check, Depths. -/
import Derived.Test.YtoeinpiekfmbgaaGreatDoorzGr
import Derived.Test.YtoeinpiekfmbgaaGreatDoorzKm
namespace Go.Proofs.YtoeinpiekfmbgaaGreatDoor
set_option linter.unusedVariables false
set_option linter.unusedSimpArgs false
open Go.RowKit Go.ChangeShapes Go.WideShapes Go.ChangeAt Go.Sort

theorem firstI_cons (p : List Fun) (f : Fun) (x : Int × Int × Int) (l : List (Int × Int × Int)) (k : Int) : firstI p f (x :: l) k = if fieldI p f x = 0 then firstI p f l (k + 1) else (k, fieldI p f x) := rfl
theorem first_all {p : List Fun} {f : Fun} : ∀ (l : List (Int × Int × Int)) (k : Int), (∀ x ∈ l, fieldI p f x = 0) → firstI p f l k = (0, 0)
  | [], _, _ => rfl
  | x :: l, k, h => by
    unfold firstI
    rw [if_pos (h x (by simp))]
    exact first_all l _ fun y hy => h y (by simp [hy])
theorem first_zero {p : List Fun} {f : Fun} : ∀ (l : List (Int × Int × Int)) (k : Int), (firstI p f l k).2 = 0 → ∀ x ∈ l, fieldI p f x = 0
  | [], _, _, x, hx => by simp at hx
  | y :: l, k, h, x, hx => by
    unfold firstI at h
    split at h
    · rcases List.mem_cons.1 hx with rfl | hx
      · assumption
      · exact first_zero l _ h x hx
    · contradiction
theorem CkAt.drewN {B g d v : Nat} {Ap : Option Addr} {cp : Nat} {p : List Fun} {f : Fun} {Ac : Option Addr} {cc : Nat} {D : List Int} {V : List Bool} {w : World} (h : CkAt B g d v Ap cp p f Ac cc D V w) (n : Nat) : CkAt B g d v Ap cp p f Ac cc D V (w.drewN n) :=
  h.below (below_drewN (Below.refl _ _) n)

set_option maxHeartbeats 2000000 in
set_option maxRecDepth 100000 in
theorem ccheck_any {B g d v : Nat} {Ap : Option Addr} {cp : Nat} {p : List Fun} {f : Fun} {Ac : Option Addr} {cc : Nat} (hm : ∀ f ∈ p, mayF f = true) (hf : mayF f = true) (w : World) (h : CkAt B g d v Ap cp p f Ac cc (fillD f.code.length f.code.length) (List.replicate f.code.length false) w) :
    Calls Tryz.prog 19 #[.pointer (some ⟨g, 0, none⟩)] w fun x w' => x = .returned (.tuple #[.int .i64 (funE p f).1, .int .i64 (funE p f).2]) ∧ Only d v w w' := by
  obtain ⟨hh, hn1, hn, _⟩ := (mayF_iff f).1 hf
  obtain ⟨c0, c1, c2, c3, c4, c5, c6, hgl⟩ := h.cells
  have H := Lib.hid h
  by_cases h1 : f.lo < f.ar
  · have hE : funE p f = (0, 80) := by unfold funE; rw [if_pos h1]
    rw [hE]
    clear h c0 c3 c4 c5 c6 hm hf hh hE
    go_enter Tryz.func19, Tryz.ntmps19
    go_wp2_with fail
    go_quiet (fail)
    go_wp2_with fail
    go_returns
    exact ⟨rfl, (Only.refl d v w).drewN _⟩
  · have HH1 := Lib.hid h1
    have hgt : ¬ f.ar > f.lo := by omega
    generalize hG : funE p f = R
    have HG := Lib.hid hG
    have HM := Lib.hid hm
    have HF := Lib.hid hf
    clear h c0 c3 c4 c5 c6 hm hf hh hG h1
    go_enter Tryz.func19, Tryz.ntmps19
    go_wp2_with fail
    go_quiet (fail)
    have H2 := Lib.hid (H.out.drewN nq)
    have HO := Lib.hid ((Only.refl d v w).drewN nq)
    generalize w.drewN nq = w1 at *
    obtain ⟨c0, c1, c2, c3, c4, c5, c6, hgl⟩ := H2.out.cells
    clear c0 c1 c2 c3 c5 c6
    go_wp2_with fail
    clear c4 hgl
    go_loopw [4, 5, 6, 24] (fun _ _ _ iv W => ∃ k : Nat, iv = .int .i64 k ∧ k ≤ f.code.length ∧ CkAt B g d v Ap cp p f Ac cc (fillD f.code.length f.code.length) (List.replicate f.code.length false) W ∧ Only d v w W ∧ (∀ x ∈ f.code.take k, fieldI p f x = 0) ∧ firstI p f f.code 0 = firstI p f (f.code.drop k) k) (fun _ _ _ iv _ => f.code.length - (intOf iv).toNat)
    case atStart => exact ⟨0, rfl, by omega, H2.out, HO.out, by simp, by simp⟩
    case round =>
      obtain ⟨k, rfl, hk, hck, hon, hall, hfi⟩ := hrel
      by_cases hlt : k < f.code.length
      · obtain ⟨bb, off, rfl, hbl, a0, a1, a2⟩ := hck.ins hlt
        have hbw := hck.lt
        have htk : f.code.take (k + 1) = f.code.take k ++ [f.code[k]] := List.take_succ_eq_append_getElem hlt
        have CF := fun W h => Lib.hid (cfields_any f.code[k].1 f.code[k].2.1 f.code[k].2.2 W (D := (fillD f.code.length f.code.length)) (V := (List.replicate f.code.length false)) (B := B) (g := g) (d := d) (v := v) (Ap := Ap) (cp := cp) (p := p) (f := f) (Ac := some ⟨bb, off, none⟩) (cc := cc) h)
        change ∀ W h, Hid (Calls Tryz.prog 38 #[.pointer (some ⟨g, 0, none⟩), .agg #[.int .i64 f.code[k].1, .int .i64 f.code[k].2.1, .int .i64 f.code[k].2.2]] W fun e w' => e = .returned (.int .i64 (fieldI p f f.code[k])) ∧ Below W.heap.size W w') at CF
        rw [List.drop_eq_getElem_cons hlt] at hfi
        rw [firstI_cons] at hfi
        have HCK := Lib.hid hck
        have HON := Lib.hid hon
        have HALL := Lib.hid hall
        have HFI := Lib.hid hfi
        have HTK := Lib.hid htk
        have hfe : fieldI p f f.code[k] = fieldI p f f.code[k] := rfl
        generalize hee : fieldI p f f.code[k] = ee at CF HFI
        have HEE := Lib.hid hee
        clear hfe hee hck hon hall hfi htk
        generalize f.code[k] = x at *
        by_cases he : ee = 0
        · subst he
          go_wp2_with (go_at_call 38; (with_reducible refine (CF _ (HCK.out.below (by go_grown))).out.mono ?_); rintro _ u ⟨rfl, hb⟩; have hbw2 := below_laid hb)
          go_roundw
          case rel =>
            refine ⟨k + 1, by go_num, by omega, HCK.out.below hbw2, HON.out.trans (Only.of_below hbw2), fun y hy => ?_, ?_⟩
            · rw [HTK.out] at hy
              rcases List.mem_append.1 hy with hy | hy
              · exact HALL.out y hy
              · simp only [List.mem_singleton] at hy
                subst hy
                exact HEE.out
            · simpa using HFI.out
          case measure => simp [intOf]; omega
        · have hne : (ee != 0) = true := by simpa using he
          have hR : R = ((k : Int), ee) := by
            have h1 := HFI.out
            rw [if_neg he] at h1
            have h2 := HG.out
            unfold funE at h2
            rw [if_neg (Int.not_lt.2 HH1.out), h1, if_neg he] at h2
            exact h2.symm
          subst hR
          clear he
          go_wp2_with (go_at_call 38; (with_reducible refine (CF _ (HCK.out.below (by go_grown))).out.mono ?_); rintro _ u ⟨rfl, hb⟩; have hbw2 := below_laid hb)
          go_returns
          exact ⟨rfl, HON.out.trans (Only.of_below hbw2)⟩
      · obtain rfl : k = f.code.length := by omega
        rw [List.take_length] at hall
        have hok := fun_ok HM.out HF.out hall
        have hR : R = (flowF p f.code).2 := by
          have h2 := HG.out
          unfold funE at h2
          rw [if_neg (Int.not_lt.2 HH1.out), first_all _ _ hall, if_pos rfl] at h2
          exact h2.symm
        have FL := Lib.hid (cflow_any hok wr hck)
        have HON := Lib.hid hon
        clear hck hon hall hfi hok
        subst hR
        go_wp2_with (go_at_call 39; (with_reducible refine FL.out.mono ?_); rintro _ u ⟨rfl, _, ho2⟩)
        go_returns
        exact ⟨rfl, HON.out.trans ho2⟩
end Go.Proofs.YtoeinpiekfmbgaaGreatDoor

/- Layer 8's code: Check. -/
namespace Go.Proofs.YtoeinpiekfmbgaaGreatDoor
set_option linter.unusedVariables false
set_option linter.unusedSimpArgs false
open Go.RowKit Go.ChangeShapes Go.WideShapes Go.ChangeAt Go.Sort

theorem firstF_cons (p : List Fun) (f : Fun) (l : List Fun) (k : Int) : firstF p (f :: l) k = if (funE p f).2 = 0 then firstF p l (k + 1) else (k, funE p f) := rfl
theorem fill_len (n : Nat) : (fillD n n).length = n := fillD_len (Nat.le_refl _)
theorem ck_new {wr u : World} {d v : Nat} {Ap : Option Addr} {cp : Nat} {p : List Fun} {f : Fun} {Ac : Option Addr} {cc : Nat} (hT : Otab wr) (hp : ProgAt wr wr.heap.size Ap p) (hc : CodeAt wr wr.heap.size Ac f.code) (hb : Below wr.heap.size wr u)
    (hd : wr.heap.size ≤ d) (hv : wr.heap.size ≤ v) (hdv : d ≠ v) (hhd : Held u d 3 (intA (fillD f.code.length f.code.length))) (hhv : Held u v 4 (boolA (List.replicate f.code.length false))) :
    CkAt wr.heap.size u.heap.size d v Ap cp p f Ac cc (fillD f.code.length f.code.length) (List.replicate f.code.length false) (u.alloc (.cells #[.slice Ap p.length cp, .int .i64 f.ar, .int .i64 f.lo, .int .i64 f.sl, .slice Ac f.code.length cc, .slice (some ⟨d, 0, none⟩) f.code.length f.code.length, .slice (some ⟨v, 0, none⟩) f.code.length f.code.length] 63)) := by
  have hb2 : Below wr.heap.size wr (u.alloc (.cells #[.slice Ap p.length cp, .int .i64 f.ar, .int .i64 f.lo, .int .i64 f.sl, .slice Ac f.code.length cc, .slice (some ⟨d, 0, none⟩) f.code.length f.code.length, .slice (some ⟨v, 0, none⟩) f.code.length f.code.length] 63)) := hb.alloc hb.size _
  have h1 := hhd.lt
  have h2 := hhv.lt
  exact ⟨hT.below hb2, hT.lt, hb.size, hd, hv, by omega, by omega, hdv, Held.new _ _ _, hhd.alloc _, hhv.alloc _, fill_len _, by simp, hp.below hb2 (Nat.le_refl _), hc.below hb2 (Nat.le_refl _)⟩
set_option maxHeartbeats 4000000 in
set_option maxRecDepth 100000 in
theorem check_any {B : Nat} {A : Option Addr} {p : List Fun} (c : Nat) (w : World) (hT : Otab w) (h : ProgAt w B A p) (hz : SizedP p) (hB : B ≤ w.heap.size) :
    Calls Tryz.prog 10 #[.slice A p.length c] w fun x w' => x = .returned (.tuple #[.int .i64 (checkP p).1, .int .i64 (checkP p).2.1, .int .i64 (checkP p).2.2]) ∧ Below w.heap.size w w' := by
  have MY := Lib.hid (cmay_any c w hT h hz hB)
  have HA := Lib.hid h
  have HT := Lib.hid hT
  generalize hR : checkP p = R
  have HR := Lib.hid hR
  clear h hT hR
  cases hm : mayP p with
  | false =>
    have hR := HR.out
    unfold checkP at hR
    rw [if_neg (by rw [hm]; simp)] at hR
    subst hR
    rw [hm] at MY
    clear hm
    go_enter Tryz.func10, Tryz.ntmps10
    go_wp2_with (go_at_call 17; (with_reducible refine MY.out.mono ?_); rintro _ u ⟨rfl, hb⟩)
    go_returns
    exact ⟨rfl, hb⟩
  | true =>
    have hR := HR.out
    unfold checkP at hR
    rw [if_pos hm] at hR
    obtain ⟨hp1, hp2, hmf⟩ := (mayP_iff p).1 hm
    rw [hm] at MY
    have HR2 := Lib.hid hR
    have HMF := Lib.hid hmf
    clear hm hmf hR
    go_enter Tryz.func10, Tryz.ntmps10
    go_wp2_with (go_at_call 17; (with_reducible refine MY.out.mono ?_); rintro _ u ⟨rfl, hb⟩)
    have HB := Lib.hid hb
    clear hb
    go_loopw [5, 6, 7, 8, 9, 15] (fun _ _ _ _ _ iv W => ∃ k : Nat, iv = .int .i64 k ∧ k ≤ p.length ∧ Below w.heap.size w W ∧ firstF p p 0 = firstF p (p.drop k) k) (fun _ _ _ _ _ iv _ => p.length - (intOf iv).toNat)
    case atStart => exact ⟨0, rfl, by omega, HB.out, by simp⟩
    case round =>
      obtain ⟨k, rfl, hk, hbw, hfi⟩ := hrel
      by_cases hlt : k < p.length
      · obtain ⟨bb, off, rfl, hbl, hc⟩ := (HA.out.below hbw hB) (by omega)
        obtain ⟨f0, f1, f2, Ac, cc, f3, hcode⟩ := hc k hlt
        have hmem := HMF.out _ (List.getElem_mem hlt)
        have hws := hbw.size
        rw [List.drop_eq_getElem_cons hlt, firstF_cons] at hfi
        have hlen := ((mayF_iff _).1 hmem).2
        have BG := fun a l s W => Lib.hid (begin_any (some ⟨bb, off, none⟩) p.length c a l s Ac p[k].code.length cc (by omega) (by omega) W)
        have HPR := Lib.hid (HA.out.below hbw hB)
        have HOT := Lib.hid (HT.out.below hbw)
        have HBW := Lib.hid hbw
        have HFI := Lib.hid hfi
        have HMEM := Lib.hid hmem
        have HCO := Lib.hid (hcode.more (show B ≤ wr.heap.size by omega))
        have HPR2 := Lib.hid (HPR.out.more (show B ≤ wr.heap.size by omega))
        generalize p[k] = f at *
        have CC := fun u2 d v (hb2 : Below (wr.alloc (.cells #[.int .i64 f.ar, .int .i64 f.lo, .int .i64 f.sl, .slice Ac f.code.length cc] 57)).heap.size (wr.alloc (.cells #[.int .i64 f.ar, .int .i64 f.lo, .int .i64 f.sl, .slice Ac f.code.length cc] 57)) u2) (hd : wr.heap.size ≤ d) (hv : wr.heap.size ≤ v) hdv hhd hhv =>
          Lib.hid (ccheck_any HMF.out HMEM.out _ (ck_new (d := d) (v := v) (cp := c) (p := p) (f := f) (cc := cc) HOT.out HPR2.out HCO.out (below_laid hb2) hd hv hdv hhd hhv))
        have hfe : (funE p f) = ((funE p f).1, (funE p f).2) := rfl
        generalize hf1 : (funE p f).1 = e1 at *
        generalize hf2 : (funE p f).2 = e2 at *
        have HF1 := Lib.hid hf1
        have HF2 := Lib.hid hf2
        have HFE := Lib.hid hfe
        clear hc hcode hmem hfi hlen hbw hf1 hf2 hfe
        have hax : wr.heap.size ≤ (wr.alloc (.cells #[.int .i64 f.ar, .int .i64 f.lo, .int .i64 f.sl, .slice Ac f.code.length cc] 57)).heap.size := by simp
        by_cases he : e2 = 0
        · subst he
          go_wp2_with (first
            | (go_at_call 18; (with_reducible refine (BG _ _ _ _).out.mono ?_); rintro _ u2 ⟨d, v, rfl, hd, hv, hdv, hhd, hhv, hb2⟩; have hd2 := Nat.le_trans hax hd; have hv2 := Nat.le_trans hax hv)
            | (go_at_call 19; (with_reducible refine (CC _ _ _ hb2 hd2 hv2 hdv hhd hhv).out.mono ?_); rintro _ u3 ⟨rfl, ho3⟩; have hb3 := ho3.to_below (B := wr.heap.size) (by have := (below_laid hb2).size; simp; omega) hd2 hv2; have hb4 := ((below_laid hb2).alloc (below_laid hb2).size _).trans hb3))
          go_roundw
          case rel => exact ⟨k + 1, by go_num, by omega, Below.step HBW.out hb4, by simpa [HF2.out] using HFI.out⟩
          case measure => simp [intOf]; omega
        · have hne : (e2 != 0) = true := by simpa using he
          have hR : R = ((k : Int), e1, e2) := by
            have h1 := HFI.out
            rw [if_neg he, HFE.out] at h1
            exact HR2.out.symm.trans h1
          subst hR
          clear he
          go_wp2_with (first
            | (go_at_call 18; (with_reducible refine (BG _ _ _ _).out.mono ?_); rintro _ u2 ⟨d, v, rfl, hd, hv, hdv, hhd, hhv, hb2⟩; have hd2 := Nat.le_trans hax hd; have hv2 := Nat.le_trans hax hv)
            | (go_at_call 19; (with_reducible refine (CC _ _ _ hb2 hd2 hv2 hdv hhd hhv).out.mono ?_); rintro _ u3 ⟨rfl, ho3⟩; have hb3 := ho3.to_below (B := wr.heap.size) (by have := (below_laid hb2).size; simp; omega) hd2 hv2; have hb4 := ((below_laid hb2).alloc (below_laid hb2).size _).trans hb3))
          go_returns
          exact ⟨rfl, Below.step HBW.out hb4⟩
      · obtain rfl : k = p.length := by omega
        rw [List.drop_length] at hfi
        have hR : R = (0, 0, 0) := HR2.out.symm.trans hfi
        subst hR
        have HBW := Lib.hid hbw
        clear hbw hfi
        go_wp2_with fail
        go_returns
        exact ⟨rfl, HBW.out⟩
end Go.Proofs.YtoeinpiekfmbgaaGreatDoor

/- Layer 8's code: Depths. -/
namespace Go.Proofs.YtoeinpiekfmbgaaGreatDoor
set_option linter.unusedVariables false
set_option linter.unusedSimpArgs false
open Go.RowKit Go.ChangeShapes Go.WideShapes Go.ChangeAt Go.Sort

theorem fun_facts {p : List Fun} {f : Fun} (h : (funE p f).2 = 0) : f.ar ≤ f.lo ∧ (∀ x ∈ f.code, fieldI p f x = 0) ∧ (flowF p f.code).2.2 = 0 := by
  unfold funE at h
  split at h
  · cases h
  · rename_i h1
    split at h
    · rename_i h2
      exact ⟨by omega, first_zero _ _ h2, h⟩
    · rename_i h2
      exact absurd h h2
theorem firstF_zero {p : List Fun} : ∀ (l : List Fun) (k : Int), (firstF p l k).2.2 = 0 → ∀ f ∈ l, (funE p f).2 = 0
  | [], _, _, x, hx => by simp at hx
  | y :: l, k, h, x, hx => by
    rw [firstF_cons] at h
    split at h
    · rcases List.mem_cons.1 hx with rfl | hx
      · assumption
      · exact firstF_zero l _ h x hx
    · contradiction
theorem check_facts {p : List Fun} (h : (checkP p).2.2 = 0) : mayP p = true ∧ ∀ f ∈ p, (funE p f).2 = 0 := by
  unfold checkP at h
  split at h
  · rename_i hm
    exact ⟨hm, firstF_zero p 0 h⟩
  · cases h
theorem check_ok {p : List Fun} (h : (checkP p).2.2 = 0) {f : Fun} (hf : f ∈ p) : FunOk p f := by
  obtain ⟨hm, h2⟩ := check_facts h
  obtain ⟨_, _, h3⟩ := (mayP_iff p).1 hm
  exact fun_ok h3 (h3 f hf) (fun_facts (h2 f hf)).2.1
theorem depths_at {p : List Fun} (h : (checkP p).2.2 = 0) {k : Nat} (hk : k < p.length) : depthsP p k = (flowF p p[k].code).1 := by
  unfold depthsP
  rw [if_pos ⟨h, by omega⟩, Int.toNat_natCast, List.getElem?_eq_getElem hk]
end Go.Proofs.YtoeinpiekfmbgaaGreatDoor

