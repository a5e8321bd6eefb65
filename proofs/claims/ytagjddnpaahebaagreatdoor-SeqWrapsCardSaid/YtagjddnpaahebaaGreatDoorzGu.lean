/- Layer 8: the document's reach. -/
import Derived.Test.YtagjddnpaahebaaGreatDoorzGt
import Derived.Test.YtagjddnpaahebaaGreatDoorzGr
import Derived.Lib.QuietBelow
namespace Go.Proofs.YtagjddnpaahebaaGreatDoor
set_option linter.unusedVariables false
set_option linter.unusedSimpArgs false
open Go.RowKit Go.ChangeShapes Go.WideShapes Go.ChangeAt Go.Sort

/-- Depths, as far as they were laid: the first place is reached, none else. -/
def fillE (n j : Nat) : List Int := 0 :: (List.replicate (j - 1) (-1) ++ List.replicate (n - j) 0)
theorem fillE_one {n : Nat} (h : 0 < n) : List.replicate n 0 = fillE n 1 := by
  obtain ⟨m, rfl⟩ : ∃ m, n = m + 1 := ⟨n - 1, by omega⟩
  simp [fillE, List.replicate_succ]
theorem fillE_all {n : Nat} (h : 0 < n) : fillE n n = initD n := by simp [fillE, initD]
theorem fillE_len {n j : Nat} (h0 : 1 ≤ j) (h : j ≤ n) : (fillE n j).length = n := by simp [fillE]; omega
theorem fillE_set {n j : Nat} (h0 : 1 ≤ j) (h : j < n) : (fillE n j).set j (-1) = fillE n (j + 1) := by
  unfold fillE
  apply List.ext_getElem?
  intro i
  rw [List.getElem?_set]
  cases i with
  | zero => rw [if_neg (by omega)]; rfl
  | succ i =>
    simp only [List.getElem?_cons_succ, List.getElem?_append, List.getElem?_replicate, List.length_replicate, List.length_append, List.length_cons]
    split <;> (repeat' split) <;> first | rfl | omega
/-- Whoever was gone through is reached. -/
structure RInv (n : Nat) (D : List Int) (Q : List Bool) : Prop where
  dl : D.length = n
  ql : Q.length = n
  low : ∀ (i : Nat) (d : Int), D[i]? = some d → -1 ≤ d
  dn : ∀ i : Nat, Q[i]? = some true → D[i]? ≠ some (-1)
theorem waitV_set {D : List Int} {Q : List Bool} {i : Nat} : (waitV D Q).set i false = waitV D (Q.set i true) := by
  apply List.ext_getElem?
  intro j
  unfold waitV
  rw [List.getElem?_set, List.getElem?_zipWith, List.getElem?_zipWith, List.getElem?_set, List.length_zipWith]
  by_cases hij : i = j
  · subst hij
    rw [if_pos rfl, if_pos rfl]
    by_cases h1 : i < D.length
    · by_cases h2 : i < Q.length
      · rw [if_pos (by omega), if_pos h2, List.getElem?_eq_getElem h1]
        simp
      · rw [if_neg (by omega), if_neg h2]
        cases D[i]? <;> rfl
    · rw [if_neg (by omega), List.getElem?_eq_none (by omega)]
  · rw [if_neg hij, if_neg hij]
theorem RInv.set {n : Nat} {D : List Int} {Q : List Bool} (h : RInv n D Q) {i : Nat} {d : Int} (hd : D[i]? = some d) (hn : d ≠ -1) : RInv n D (Q.set i true) := by
  refine ⟨h.dl, by rw [List.length_set]; exact h.ql, h.low, fun j hj => ?_⟩
  by_cases hij : i = j
  · subst hij
    rw [hd]
    exact fun e => hn (Option.some.inj e)
  · rw [List.getElem?_set_ne hij] at hj
    exact h.dn j hj
theorem rstep_bad {b : Int} {t n : Nat} {D : List Int} {Q : List Bool} (V : List Bool) (h : RInv n D Q) (ht : t < n) {e : Int} (he : D[t]? = some e) (h0 : 0 ≤ e) (hne : e ≠ b) : nextsS b [(t : Int)] D V = (D, V, 84) := by
  have hl := h.dl
  rw [nexts_eq, if_neg (by omega), Int.toNat_natCast, List.getD_eq_getElem?_getD, he, if_neg (by simp; omega), if_neg (by simpa using hne)]
theorem rstep_ok {b : Int} {t n : Nat} {D : List Int} {Q : List Bool} (h : RInv n D Q) (ht : t < n) {e : Int} (he : D[t]? = some e) (hok : ¬ (0 ≤ e ∧ e ≠ b)) (hb : 0 ≤ b) :
    nextsS b [(t : Int)] D (waitV D Q) = (D.set t b, waitV (D.set t b) Q, 0) ∧ RInv n (D.set t b) Q := by
  have hl := h.dl
  have hql := h.ql
  have hlow := h.low t e he
  constructor
  · rw [nexts_eq, if_neg (by omega), Int.toNat_natCast, List.getD_eq_getElem?_getD, he]
    by_cases h1 : e = -1
    · rw [if_pos (by simpa using h1), nexts_nil]
      have hq : Q[t]? = some false := by
        rw [List.getElem?_eq_getElem (by omega)]
        cases hqt : Q[t]'(by omega)
        · rfl
        · exact absurd (by rw [he, h1]) (h.dn t (by rw [List.getElem?_eq_getElem (by omega), hqt]))
      congr 2
      apply List.ext_getElem?
      intro j
      unfold waitV
      rw [List.getElem?_set, List.getElem?_zipWith, List.getElem?_zipWith, List.getElem?_set, List.length_zipWith]
      by_cases hij : t = j
      · subst hij
        rw [if_pos rfl, if_pos rfl, if_pos (by omega), if_pos (by omega), hq]
        simp [hb]
      · rw [if_neg hij, if_neg hij]
    · have heb : e = b := by omega
      rw [if_neg (by simpa using h1), if_pos (by simpa using heb), nexts_nil]
      have hs : D.set t b = D := by
        apply List.ext_getElem?
        intro j
        rw [List.getElem?_set]
        by_cases hij : t = j
        · subst hij
          rw [if_pos rfl, if_pos (by omega), he, heb]
        · rw [if_neg hij]
      rw [hs]
  · refine ⟨by rw [List.length_set]; exact hl, hql, fun j d hd => ?_, fun j hj => ?_⟩
    · rw [List.getElem?_set] at hd
      split at hd
      · split at hd
        · have := Option.some.inj hd
          omega
        · cases hd
      · exact h.low j d hd
    · rw [List.getElem?_set]
      split
      · split
        · exact fun e => by have := Option.some.inj e; omega
        · simp
      · exact h.dn j hj
theorem rinv_init {n : Nat} (hn : 0 < n) : RInv n (initD n) (List.replicate n false) ∧ waitV (initD n) (List.replicate n false) = initW n := by
  obtain ⟨m, rfl⟩ : ∃ m, n = m + 1 := ⟨n - 1, by omega⟩
  constructor
  · refine ⟨by simp [initD], by simp, fun i d h => ?_, fun i h => ?_⟩
    · have := (init_good (fun _ => (0, 0, [])) (n := m + 1) (by omega)).range i d h
      omega
    · rw [List.getElem?_replicate] at h
      split at h
      · cases h
      · cases h
  · simp [waitV, initD, initW, List.replicate_succ]

/-- What lies ready while places are gone through. -/
structure RkAt (B x d q : Nat) (Ap : Option Addr) (p : List Fun) (f : Fun) (Ac : Option Addr) (cc : Nat) (D : List Int) (Q : List Bool) (w : World) : Prop where
  xB : B ≤ x
  dB : B ≤ d
  qB : B ≤ q
  xd : x ≠ d
  xq : x ≠ q
  dq : d ≠ q
  hx : Held w x 41 #[.int .i64 f.ar, .int .i64 f.lo, .int .i64 f.sl, .slice Ac f.code.length cc]
  hd : Held w d 3 (intA D)
  hq : Held w q 4 (boolA Q)
  prog : ProgAt w B Ap p
  code : CodeAt w B Ac f.code
section
variable {B x d q : Nat} {Ap : Option Addr} {p : List Fun} {f : Fun} {Ac : Option Addr} {cc : Nat} {D : List Int} {Q : List Bool} {w w' : World}
theorem RkAt.lt (h : RkAt B x d q Ap p f Ac cc D Q w) : B ≤ w.heap.size := by
  have := h.hx.lt
  have := h.xB
  omega
theorem RkAt.below (h : RkAt B x d q Ap p f Ac cc D Q w) (hb : Below w.heap.size w w') : RkAt B x d q Ap p f Ac cc D Q w' :=
  ⟨h.xB, h.dB, h.qB, h.xd, h.xq, h.dq, h.hx.below hb, h.hd.below hb, h.hq.below hb, h.prog.below hb h.lt, h.code.below hb h.lt⟩
theorem RkAt.setD (h : RkAt B x d q Ap p f Ac cc D Q w) (i : Nat) (y : Int) : RkAt B x d q Ap p f Ac cc (D.set i y) Q (w.setCell ⟨d, i, none⟩ (.int .i64 y)) := by
  have hb : Below B w (w.setCell ⟨d, i, none⟩ (.int .i64 y)) := (Below.refl B w).setCell h.dB _
  exact ⟨h.xB, h.dB, h.qB, h.xd, h.xq, h.dq, h.hx.far h.xd _ _, ints_set h.hd i y, h.hq.far (Ne.symm h.dq) _ _, h.prog.below hb (Nat.le_refl _), h.code.below hb (Nat.le_refl _)⟩
theorem RkAt.setQ (h : RkAt B x d q Ap p f Ac cc D Q w) (i : Nat) (y : Bool) : RkAt B x d q Ap p f Ac cc D (Q.set i y) (w.setCell ⟨q, i, none⟩ (.bool y)) := by
  have hb : Below B w (w.setCell ⟨q, i, none⟩ (.bool y)) := (Below.refl B w).setCell h.qB _
  exact ⟨h.xB, h.dB, h.qB, h.xd, h.xq, h.dq, h.hx.far h.xq _ _, h.hd.far h.dq _ _, bools_set h.hq i y, h.prog.below hb (Nat.le_refl _), h.code.below hb (Nat.le_refl _)⟩
/-- An instruction's cells. -/
theorem RkAt.ins (h : RkAt B x d q Ap p f Ac cc D Q w) {i : Nat} (hi : i < f.code.length) :
    ∃ b off, Ac = some ⟨b, off, none⟩ ∧ b < B ∧ w.cell? ⟨b, off + i * 3, none⟩ = some (.int .i64 f.code[i].1) ∧ w.cell? ⟨b, off + i * 3 + 1, none⟩ = some (.int .i64 f.code[i].2.1) ∧ w.cell? ⟨b, off + i * 3 + 2, none⟩ = some (.int .i64 f.code[i].2.2) := by
  obtain ⟨b, off, h1, h2, h3⟩ := h.code (by omega)
  exact ⟨b, off, h1, h2, h3 i hi⟩
end
theorem rk_new {w : World} {Ap : Option Addr} {p : List Fun} {f : Fun} {Ac : Option Addr} {cc : Nat} {B : Nat} (hp : ProgAt w B Ap p) (hc : CodeAt w B Ac f.code) (hB : B ≤ w.heap.size) (D : List Int) (Q : List Bool) :
    RkAt B w.heap.size (w.heap.size + 1) (w.heap.size + 1 + 1) Ap p f Ac cc D Q (((w.alloc (.cells #[.int .i64 f.ar, .int .i64 f.lo, .int .i64 f.sl, .slice Ac f.code.length cc] 41)).alloc (.cells (intA D) 3)).alloc (.cells (boolA Q) 4)) := by
  have hb := below3 w (.cells #[.int .i64 f.ar, .int .i64 f.lo, .int .i64 f.sl, .slice Ac f.code.length cc] 41) (.cells (intA D) 3) (.cells (boolA Q) 4)
  exact ⟨hB, by omega, by omega, by omega, by omega, by omega, ((Held.new _ _ _).alloc _).alloc _, (Held.new1 _ _ _ _).alloc _, Held.new2 _ _ _ _ _, hp.below hb hB, hc.below hb hB⟩
end Go.Proofs.YtagjddnpaahebaaGreatDoor

/- Layer 8: the document's reach, at every function that may be. -/
namespace Go.Proofs.YtagjddnpaahebaaGreatDoor
set_option linter.unusedVariables false
set_option linter.unusedSimpArgs false
open Go.RowKit Go.ChangeShapes Go.WideShapes Go.ChangeAt Go.Sort

/-- What reach answers, in memory. -/
def ReaR (w : World) (p : List Fun) (f : Fun) (e : Ending) (w' : World) : Prop := ∃ y D, e = .returned (.tuple #[y, .int .i64 (flowF p f.code).2.1, .int .i64 (flowF p f.code).2.2]) ∧
      LstAt w' w.heap.size y D ∧ ((flowF p f.code).2.2 = 0 → D = (flowF p f.code).1) ∧ Below w.heap.size w w'
set_option maxHeartbeats 4000000 in
set_option maxRecDepth 100000 in
theorem rreach_any {B : Nat} {Ap : Option Addr} {p : List Fun} {f : Fun} {Ac : Option Addr} (c cc : Nat) (hok : FunOk p f) (w : World) (hp : ProgAt w B Ap p) (hc : CodeAt w B Ac f.code) (hB : B ≤ w.heap.size) :
    Calls Tryz.prog 70 #[.slice Ap p.length c, .agg #[.int .i64 f.ar, .int .i64 f.lo, .int .i64 f.sl, .slice Ac f.code.length cc]] w fun e w' => ReaR w p f e w' := by
  have hn1 := hok.n1
  have hn2 := hok.n2
  have M1 := fun w => make_ints (n := f.code.length) (by omega) w
  have M2 := fun w => make_bools (n := f.code.length) (by omega) w
  rw [fillE_one hn1] at M1
  have RN := Lib.hid (rk_new (f := f) (cc := cc) hp hc hB (fillE f.code.length 1) (List.replicate f.code.length false))
  have HB0 := Lib.hid (below3 w (.cells #[.int .i64 f.ar, .int .i64 f.lo, .int .i64 f.sl, .slice Ac f.code.length cc] 41) (.cells (intA (fillE f.code.length 1)) 3) (.cells (boolA (List.replicate f.code.length false)) 4))
  have HOK := Lib.hid hok
  have hbig : (f.code.length : Int) ≤ 200 := by omega
  clear hp hc hok
  go_enter Tryz.func70, Tryz.ntmps70
  go_wp2_with fail
  go_loopw [9] (fun iv W => ∃ j : Nat, iv = .int .i64 j ∧ 1 ≤ j ∧ j ≤ f.code.length ∧ RkAt B w.heap.size (w.heap.size + 1) (w.heap.size + 1 + 1) Ap p f Ac cc (fillE f.code.length j) (List.replicate f.code.length false) W ∧ Below w.heap.size w W) (fun iv _ => f.code.length - (intOf iv).toNat)
  case atStart => exact ⟨1, rfl, by omega, by omega, RN.out, HB0.out⟩
  case round =>
    obtain ⟨j, rfl, hj1, hj, hrk, hbw⟩ := hrel
    by_cases hlt : j < f.code.length
    · have hlen := fillE_len hj1 hj
      have c0 := ints_cell hrk.hd (i := j) (by omega)
      have f0 := hrk.hd.fz j
      have hs := hrk.setD j (-1)
      rw [fillE_set hj1 hlt] at hs
      have HS := Lib.hid hs
      have HBW := Lib.hid hbw
      generalize (fillE f.code.length j)[j] = x at *
      clear hs hrk hbw
      go_wp2_with fail
      go_roundw
      case rel => exact ⟨j + 1, by go_num, by omega, by omega, HS.out, HBW.out.setCell (by show _ ≤ w.heap.size + 1; omega) _⟩
      case measure => simp [intOf]; omega
    · obtain rfl : j = f.code.length := by omega
      have HRK := Lib.hid hrk
      have HBW := Lib.hid hbw
      have H00 := Lib.hid (rinv_init hn1)
      rw [fillE_all hn1] at HRK
      clear hrk hbw RN HB0 M1 M2 hj1 hj hlt
      go_wp2_with fail
      go_loopw [10, 11, 12, 13] (fun _ _ _ _ W => ∃ (D : List Int) (Q : List Bool) (K : Nat), RkAt B w.heap.size (w.heap.size + 1) (w.heap.size + 1 + 1) Ap p f Ac cc D Q W ∧ Below w.heap.size w W ∧ RInv f.code.length D Q ∧
        Gone (grF p f.code) f.code.length D (waitV D Q) ∧ muS f.code.length D (waitV D Q) ≤ K ∧ flowS (grF p f.code) K D (waitV D Q) = flowF p f.code) (fun _ _ _ _ W => muS f.code.length (rdI W (w.heap.size + 1)) (waitV (rdI W (w.heap.size + 1)) (rdB W (w.heap.size + 1 + 1))))
      case atStart => exact ⟨initD f.code.length, List.replicate f.code.length false, 201, HRK.out, HBW.out, H00.out.1, by rw [H00.out.2]; exact init_good _ hn1, Nat.le_trans (mu_le _ _ _) (by omega), by rw [H00.out.2]; rfl⟩
      case round =>
        obtain ⟨D, Q, K, hrk, hbw, hri, hgo, hmu, hfl⟩ := hrel
        clear HRK HBW H00
        have HM0 := Lib.hid (rdI_of hrk.hd)
        have HM1 := Lib.hid (rdB_of hrk.hq)
        have hdl := hri.dl
        have hql := hri.ql
        have hwl := waitV_len D Q (by omega)
        have OP := fun W (hb : W = wr) => Lib.hid (ropen_any (D := D) (Q := Q) wr hrk.hd hrk.hq (by omega) (by omega))
        rw [hdl] at OP
        cases ho : openS (waitV D Q) with
        | none =>
          rw [ho] at OP
          have hR : flowF p f.code = (D, 0, 0) := by
            rw [← hfl]
            cases K with
            | zero => rfl
            | succ K => unfold flowS; rw [ho]
          have HR := Lib.hid hR
          have HRK := Lib.hid hrk
          have HBW := Lib.hid hbw
          have HDL := Lib.hid hdl
          simp only at OP
          clear hrk hbw hri hgo hmu hfl hR ho hdl hql hwl
          go_wp2_with (go_at_call 90; (with_reducible refine (OP _ rfl).out.mono ?_); rintro _ u ⟨rfl, rfl⟩)
          go_returns
          unfold ReaR
          rw [HR.out]
          exact ⟨_, D, rfl, .inr ⟨w.heap.size + 1, by rw [HDL.out]; rfl, by omega, HRK.out.hd⟩, fun _ => rfl, HBW.out⟩
        | some i =>
          rw [ho] at OP
          simp only at OP
          obtain ⟨hi, hVi, hV2⟩ := openS_some ho
          clear hV2
          have hi2 : i < f.code.length := by omega
          have hpos := mu_pos (D := D) (n := f.code.length) (i := i) hi2 (by rw [List.getElem?_eq_getElem hi, hVi])
          obtain ⟨K, rfl⟩ : ∃ k, K = k + 1 := ⟨K - 1, by omega⟩
          have HMU := Lib.hid hmu
          have hd0 : D[i]? = some D[i] := List.getElem?_eq_getElem (by omega)
          have hge : D.getD i 0 = D[i] := by rw [List.getD_eq_getElem?_getD, hd0]; rfl
          have hne : D[i] ≠ -1 := fun e => hgo.wait i (by rw [List.getElem?_eq_getElem hi, hVi]) (by rw [hd0, e])
          have hrg := hgo.range i _ hd0
          have hri2 := hri.set hd0 hne
          have q0 := bools_cell hrk.hq (i := i) (by omega)
          have f0 := hrk.hq.fz i
          have hst := fun he => good_step HOK.out.fine hgo ho he
          unfold flowS at hfl
          rw [ho] at hfl
          simp only at hfl
          rw [hge] at hst hfl
          rw [waitV_set, grF_at hi2] at hst hfl
          have hrk1 := Lib.hid (hrk.setQ i true)
          have hbw1 := Lib.hid (hbw.setCell (p := ⟨w.heap.size + 1 + 1, i, none⟩) (by show _ ≤ w.heap.size + 1 + 1; omega) (.bool true))
          have hmem : f.code[i] ∈ f.code := List.getElem_mem hi2
          have hoff := HOK.out.off _ hmem
          have hon := HOK.out.on _ hmem
          have hsp := HOK.out.spawn _ hmem
          have hnx := HOK.out.next i hi2
          have HD0 := Lib.hid hd0
          have hrl := hrk.hq.lt
          generalize Q[i]'(by omega) = qi at *
          generalize Q.set i true = Q1 at *
          generalize D[i] = e at *
          have he0 : 0 ≤ e := by omega
          have he16 := hrg.2
          have HFL := Lib.hid hfl
          have HST := Lib.hid hst
          have HRI := Lib.hid hri2
          clear hrk hbw hri hgo hst hfl hVi ho hd0 hge hne hrg hri2 hwl hql hmem hpos hi hmu
          go_upto_region 11 with (go_at_call 90; (with_reducible refine (OP _ rfl).out.mono ?_); rintro _ u ⟨rfl, rfl⟩)
          clear OP
          generalize wr.setCell ⟨w.heap.size + 1 + 1, i, none⟩ (.bool true) = W1 at *
          clear f0 q0 hrl
          obtain ⟨bb, off, rfl, hbl, a0, a1, a2⟩ := hrk1.out.ins hi2
          have e3 := hrk1.out.hx.cell 3
          have d0 := ints_cell hrk1.out.hd (i := i) (by omega)
          have hde : D[i]'(by omega) = e := by
            have := HD0.out
            rw [List.getElem?_eq_getElem (by omega)] at this
            exact Option.some.inj this
          rw [hde] at d0
          simp at e3
          have BE := fun d os => Lib.hid (rbehind_any c f.code[i].1 f.code[i].2.1 f.code[i].2.2 e (grow (redrawn W1 d) os) (hrk1.out.prog.below (below_regrown W1 d os) hrk1.out.lt) (Nat.le_trans hrk1.out.lt (below_regrown W1 d os).size) hsp hoff hon ⟨he0, he16⟩)
          change ∀ d os, Hid (Calls Tryz.prog 91 #[.slice Ap p.length c, .agg #[.int .i64 f.code[i].1, .int .i64 f.code[i].2.1, .int .i64 f.code[i].2.2], .int .i64 e] (grow (redrawn W1 d) os) fun x w' => x = .returned (.int .i64 (behI (offI p f.code[i]) (rz f.code[i].1).q e)) ∧ Below (grow (redrawn W1 d) os).heap.size (grow (redrawn W1 d) os) w') at BE
          have NX := fun W => Lib.hid (rnext_any f.code[i].1 f.code[i].2.1 f.code[i].2.2 i W (by omega) (by omega))
          change ∀ W, Hid (Calls Tryz.prog 92 #[.agg #[.int .i64 f.code[i].1, .int .i64 f.code[i].2.1, .int .i64 f.code[i].2.2], .int .i64 i] W fun e w' => ∃ x, e = .returned x ∧ LstAt w' W.heap.size x (nextI f.code[i] i) ∧ Below W.heap.size W w') at NX
          have HLEN := Lib.hid (next_len f.code[i] i)
          have HNX := Lib.hid hnx
          have hps : ∀ V, procS (nodeI p f.code[i] i) e D V = if e < offI p f.code[i] ∨ 16 < e - offI p f.code[i] + (rz f.code[i].1).q then (D, V, 84) else nextsS (e - offI p f.code[i] + (rz f.code[i].1).q) (nextI f.code[i] i) D V := fun V => rfl
          have hfl := HFL.out
          have hst := HST.out
          rw [hps] at hfl hst
          clear HFL HST hps hnx hsp hde
          generalize nextI f.code[i] i = l at *
          generalize offI p f.code[i] = q at *
          generalize (rz f.code[i].1).q = r at *
          have A0 := Lib.hid a0
          have A1 := Lib.hid a1
          have A2 := Lib.hid a2
          generalize f.code[i].1 = xo at *
          generalize f.code[i].2.1 = xa at *
          generalize f.code[i].2.2 = xb at *
          obtain ⟨q1, q2⟩ := hoff
          obtain ⟨r1, r2⟩ := hon
          by_cases hbad : e < q ∨ 16 < e - q + r
          · have hbe : behI q r e = -1 := by unfold behI; rw [if_pos hbad]
            rw [hbe] at BE
            rw [if_pos hbad, if_neg (by simp)] at hfl
            have HFL := Lib.hid hfl
            have HDL := Lib.hid hdl
            clear hfl hst hbe hbad
            have e3g := fun d os => cell_regrown e3 d os
            have a0g := fun d os => cell_regrown a0 d os
            have a1g := fun d os => cell_regrown a1 d os
            have a2g := fun d os => cell_regrown a2 d os
            have dg := fun d os => cell_regrown d0 d os
            clear e3 a0 a1 a2 d0
            refine wp_region_quiet_below (by kernel_rfl) (by kernel_rfl) ?_
            repeat (first
              | go_big_quiet_step ((first
                | (go_at_call 91; (with_reducible exact Calls.regrown_of (BE _ _).out))))
              | quiet_step ((first
                | (go_at_call 91; (with_reducible exact Calls.regrown_of (BE _ _).out)))))
            refine wpQuiet_nil ?_
            intro W2 hv
            have hb := below_of_regrown hv
            clear hv e3g a0g a1g a2g dg BE
            have hrk2 := Lib.hid (hrk1.out.below hb)
            have hbw2 := Lib.hid (Below.step hbw1.out hb)
            clear hb hrk1 hbw1
            go_wp2_with fail
            go_returns
            unfold ReaR
            rw [← HFL.out]
            exact ⟨_, D, rfl, .inr ⟨w.heap.size + 1, by rw [HDL.out]; rfl, by omega, hrk2.out.hd⟩, fun h => absurd h (by simp), hbw2.out⟩
          · have hbe : behI q r e = e - q + r := by unfold behI; rw [if_neg hbad]
            rw [hbe] at BE
            rw [if_neg hbad] at hfl hst
            have hb0 : 0 ≤ e - q + r := by omega
            have hb16 : e - q + r ≤ 16 := by omega
            have HFL := Lib.hid hfl
            have HST := Lib.hid hst
            have HDL := Lib.hid hdl
            generalize e - q + r = b at *
            clear hfl hst hbe hbad q1 q2 r1 r2 he0 he16
            have e3g := fun d os => cell_regrown e3 d os
            have a0g := fun d os => cell_regrown a0 d os
            have a1g := fun d os => cell_regrown a1 d os
            have a2g := fun d os => cell_regrown a2 d os
            have dg := fun d os => cell_regrown d0 d os
            clear e3 a0 a1 a2 d0
            refine wp_region_quiet_below (by kernel_rfl) (by kernel_rfl) ?_
            repeat (first
              | go_big_quiet_step ((first
                | (go_at_call 91; (with_reducible exact Calls.regrown_of (BE _ _).out))))
              | quiet_step ((first
                | (go_at_call 91; (with_reducible exact Calls.regrown_of (BE _ _).out)))))
            refine wpQuiet_nil ?_
            intro W2 hv
            have hb := below_of_regrown hv
            clear hv e3g a0g a1g a2g dg BE
            have hrk2 := Lib.hid (hrk1.out.below hb)
            have hbw2 := Lib.hid (Below.step hbw1.out hb)
            have hbs := hrk1.out.lt
            have e3 := hrk2.out.hx.cell 3
            have e0 := hrk2.out.hx.lt
            simp at e3
            have a0 := (hb.cell (p := ⟨bb, off + i * 3, none⟩) (by show bb < _; omega)).trans A0.out
            have a1 := (hb.cell (p := ⟨bb, off + i * 3 + 1, none⟩) (by show bb < _; omega)).trans A1.out
            have a2 := (hb.cell (p := ⟨bb, off + i * 3 + 2, none⟩) (by show bb < _; omega)).trans A2.out
            clear hb hrk1 hbw1
            go_wp2_with (go_at_call 92; (with_reducible refine (NX _).out.mono ?_); rintro _ u2 ⟨x, rfl, hL, hb2⟩; obtain ⟨A, c', rfl, hcell⟩ := hL.slice; clear hL)
            have HC := Lib.hid hcell
            have hs2 := hb2.size
            have hdw := hrk2.out.hd.lt
            have hqw := hrk2.out.hq.lt
            have hrk3 := Lib.hid (hrk2.out.below hb2)
            have hbw3 := Lib.hid (Below.step hbw2.out hb2)
            have hll := HLEN.out
            clear hcell e3 e0 a0 a1 a2 A0 A1 A2 NX hrk2 hbw2 hb2
            go_loopw [13] (fun iv W => ∃ (k : Nat) (D' : List Int), iv = .int .i64 k ∧ k ≤ l.length ∧ RkAt B w.heap.size (w.heap.size + 1) (w.heap.size + 1 + 1) Ap p f (some ⟨bb, off, none⟩) cc D' Q1 W ∧ Below w.heap.size w W ∧ RInv f.code.length D' Q1 ∧
              Only (w.heap.size + 1) (w.heap.size + 1 + 1) u2 W ∧ nextsS b l D (waitV D Q1) = nextsS b (l.drop k) D' (waitV D' Q1)) (fun iv _ => l.length - (intOf iv).toNat)
            case atStart => exact ⟨0, D, rfl, by omega, hrk3.out, hbw3.out, HRI.out, Only.refl _ _ _, by simp⟩
            case round =>
              obtain ⟨k, D', rfl, hk, hrk, hbw, hri, hon, hns⟩ := hrel
              clear hrk3 hbw3
              by_cases hlt : k < l.length
              · obtain ⟨lb, rfl, hlb, hcell⟩ := HC.out k hlt
                have c0 := hon.cell hcell (by omega) (by omega)
                have hlx := HNX.out _ (List.getElem_mem hlt)
                rw [List.drop_eq_getElem_cons hlt, nexts_cons] at hns
                generalize l[k] = t at *
                obtain ⟨t1, t2⟩ := hlx
                have e3 := hrk.hx.cell 3
                have e0 := hrk.hx.lt
                simp at e3
                obtain ⟨t, rfl⟩ := Int.eq_ofNat_of_zero_le t1
                have HON := Lib.hid hon
                have HRK := Lib.hid hrk
                have HBW := Lib.hid hbw
                clear hcell hon hrk hbw
                by_cases htn : f.code.length ≤ t
                · have hd2 := hri.dl
                  rw [next1_out (by omega)] at hns
                  rw [if_neg (by simp)] at hns
                  have hfl := HFL.out
                  rw [hns, if_neg (by simp)] at hfl
                  have HFL2 := Lib.hid hfl
                  have HD2 := Lib.hid hd2
                  have htn2 : (f.code.length : Int) ≤ t := by omega
                  clear hfl hns hri hd2
                  go_wp2_with fail
                  go_quiet (fail)
                  go_wp2_with fail
                  go_returns
                  unfold ReaR
                  rw [← HFL2.out]
                  exact ⟨_, D', rfl, .inr ⟨w.heap.size + 1, by rw [HD2.out]; rfl, by omega, (HRK.out.below (below_drewN (Below.refl _ _) _)).hd⟩, fun h => absurd h (by simp), below_drewN HBW.out _⟩
                · have hd2 := hri.dl
                  have htd : t < D'.length := by omega
                  have he2 : D'[t]? = some D'[t] := List.getElem?_eq_getElem htd
                  have d0 := ints_cell HRK.out.hd htd
                  have f0 := HRK.out.hd.fz t
                  have dl0 := HRK.out.hd.lt
                  have hlow := hri.low t _ he2
                  have hbadS := fun h0 hne => rstep_bad (b := b) (waitV D' Q1) hri (show t < f.code.length by omega) he2 h0 hne
                  have hokS := fun hok => rstep_ok (b := b) hri (show t < f.code.length by omega) he2 hok hb0
                  have hset := HRK.out.setD t b
                  generalize D'[t] = e2 at *
                  have HS := Lib.hid hset
                  have HD2 := Lib.hid hd2
                  clear hset he2 hd2 htd
                  by_cases hb2 : 0 ≤ e2 ∧ e2 ≠ b
                  · rw [hbadS hb2.1 hb2.2] at hns
                    rw [if_neg (by simp)] at hns
                    have hfl := HFL.out
                    rw [hns, if_neg (by simp)] at hfl
                    have HFL2 := Lib.hid hfl
                    obtain ⟨g1, g2⟩ := hb2
                    have g3 : (e2 != b) = true := by simpa using g2
                    clear hfl hns hri hbadS hokS g2
                    go_wp2_with fail
                    go_quiet (fail)
                    go_wp2_with fail
                    go_returns
                    unfold ReaR
                    rw [← HFL2.out]
                    exact ⟨_, D', rfl, .inr ⟨w.heap.size + 1, by rw [HD2.out]; rfl, by omega, (HRK.out.below (below_drewN (Below.refl _ _) _)).hd⟩, fun h => absurd h (by simp), below_drewN HBW.out _⟩
                  · obtain ⟨hn1', hri2⟩ := hokS hb2
                    rw [hn1', if_pos rfl] at hns
                    have HNS := Lib.hid hns
                    have HRI2 := Lib.hid hri2
                    have HST2 := Lib.hid (HS.out.below (below_drewN (Below.refl _ _) 0))
                    have hq' : (0 ≤ e2 ∧ e2 = b) ∨ e2 < 0 := by omega
                    clear hns hri hri2 hbadS hokS hn1' hb2
                    rcases hq' with ⟨g1, rfl⟩ | g1
                    · have g2 : (e2 != e2) = false := by simp
                      go_wp2_with fail
                      go_quiet (fail)
                      have HR2 := Lib.hid ((HRK.out.below (below_drewN (Below.refl _ _) nq)).setD t e2)
                      have HB2 := Lib.hid ((below_drewN HBW.out nq).setCell (p := ⟨w.heap.size + 1, t, none⟩) (by show _ ≤ w.heap.size + 1; omega) (.int .i64 e2))
                      have HO2 := Lib.hid ((HON.out.drewN nq).set (.inl rfl) t (.int .i64 e2))
                      go_wp2_with fail
                      go_roundw
                      case rel => exact ⟨k + 1, D'.set t e2, by go_num, by omega, HR2.out, HB2.out, HRI2.out, HO2.out, HNS.out⟩
                      case measure => simp [intOf]; omega
                    · go_wp2_with fail
                      go_quiet (fail)
                      have HR2 := Lib.hid ((HRK.out.below (below_drewN (Below.refl _ _) nq)).setD t b)
                      have HB2 := Lib.hid ((below_drewN HBW.out nq).setCell (p := ⟨w.heap.size + 1, t, none⟩) (by show _ ≤ w.heap.size + 1; omega) (.int .i64 b))
                      have HO2 := Lib.hid ((HON.out.drewN nq).set (.inl rfl) t (.int .i64 b))
                      go_wp2_with fail
                      go_roundw
                      case rel => exact ⟨k + 1, D'.set t b, by go_num, by omega, HR2.out, HB2.out, HRI2.out, HO2.out, HNS.out⟩
                      case measure => simp [intOf]; omega
              · obtain rfl : k = l.length := by omega
                rw [List.drop_length, nexts_nil] at hns
                have hst := HST.out
                have hfl := HFL.out
                rw [hns] at hst hfl
                rw [if_pos rfl] at hfl
                have HST2 := Lib.hid (hst rfl)
                have HFL2 := Lib.hid hfl
                have HRK := Lib.hid hrk
                have HBW := Lib.hid hbw
                have HRI3 := Lib.hid hri
                clear hrk hbw hri hon hns hst hfl
                have hmk : muS f.code.length D' (waitV D' Q1) ≤ K := by
                  have := HST2.out.2
                  have := HMU.out
                  simp only at *
                  omega
                have HMK := Lib.hid hmk
                clear hmk
                go_wp2_with fail
                go_roundw
                case rel => exact ⟨D', Q1, K, HRK.out, HBW.out, HRI3.out, HST2.out.1, HMK.out, HFL2.out⟩
                case measure =>
                  rw [rdI_of HRK.out.hd, rdB_of HRK.out.hq, HM0.out, HM1.out]
                  exact HST2.out.2
end Go.Proofs.YtagjddnpaahebaaGreatDoor

