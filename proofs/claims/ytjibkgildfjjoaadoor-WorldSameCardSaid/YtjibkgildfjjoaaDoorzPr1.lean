/- Layer 7: the document's Small, Head, May. -/
import Derived.Test.YtjibkgildfjjoaaDoorzPw
import Derived.Test.YtjibkgildfjjoaaDoorzOrm
import Derived.OpenShut
import Derived.Lib.Hide
import Derived.WalkMore
import Derived.Handy
import Derived.BigQuiet
import Derived.Deep.QuietTactic
import Derived.RegionTactic
import Derived.Test.YtjibkgildfjjoaaDoorzFrp
import Derived.Test.YtjibkgildfjjoaaDoorzKit
import Derived.Test.YtjibkgildfjjoaaDoorzYm
import Derived.Test.YtjibkgildfjjoaaDoorzYn
import Derived.Test.YtjibkgildfjjoaaDoorzYo
import Derived.Test.YtjibkgildfjjoaaDoorzRw
import Derived.Deep.DeepCutAuto
import Derived.Deep.CutBlock
import Derived.Deep.RegionHeld3
import Derived.Deep.RegionLaw
import Derived.Deep.AppendLies
import Derived.Test.YtjibkgildfjjoaaDoorzOww
import Derived.Test.YtjibkgildfjjoaaDoorzHd
namespace Go.Proofs.YtjibkgildfjjoaaDoor
set_option linter.unusedVariables false
set_option linter.unusedSimpArgs false
open Go.RowKit Go.ChangeShapes Go.WideShapes Go.ChangeAt Go.Sort

/-- How many instructions there are, as the document's sum tells (it wraps where no memory holds so many). -/
def sumW (p : List Fun) : Int := p.foldl (fun n f => wrap64 (n + f.code.length)) 0
theorem sumW_snoc (p : List Fun) (k : Nat) (h : k < p.length) : sumW (p.take (k + 1)) = wrap64 (sumW (p.take k) + p[k].code.length) := by
  unfold sumW
  rw [List.take_succ_eq_append_getElem h, List.foldl_append]
  rfl
def smallP (p : List Fun) (most : Int) : Bool := decide (p.length ≤ 20) && decide (sumW p ≤ most)
set_option maxHeartbeats 1000000 in
set_option maxRecDepth 100000 in
theorem psmall_any {B : Nat} {A : Option Addr} {p : List Fun} (c : Nat) (most : Int) (w : World) (h : ProgAt w B A p) :
    Calls Tryd.prog 20 #[.slice A p.length c, .int .i64 most] w fun e w' => e = .returned (.bool (smallP p most)) ∧ w = w' := by
  have HA := Lib.hid h
  clear h
  by_cases hl : p.length ≤ 20
  · have hl2 : (p.length : Int) ≤ 20 := by omega
    have hfin : smallP p most = decide (sumW p ≤ most) := by simp [smallP, hl]
    have HF := Lib.hid hfin
    clear hfin
    go_enter Tryd.func20, Tryd.ntmps20
    go_wp2
    go_loop [5, 6] (fun n i => ∃ k : Nat, k ≤ p.length ∧ i = .int .i64 k ∧ n = .int .i64 (sumW (p.take k))) (fun _ i => p.length - (intOf i).toNat)
    case atStart => exact ⟨0, by omega, rfl, rfl⟩
    case round =>
      obtain ⟨k, hk, rfl, rfl⟩ := hrel
      by_cases hlt : k < p.length
      · obtain ⟨b, off, rfl, hbl, hc⟩ := HA.out (by omega)
        obtain ⟨_, _, _, A2, c2, c3, _⟩ := hc k hlt
        clear hc
        have ht := sumW_snoc p k hlt
        have HT := Lib.hid ht
        clear ht
        generalize sumW (p.take k) = m at *
        generalize p[k].code.length = l at *
        go_wp2
        go_round
        case rel => exact ⟨k + 1, by omega, by go_num, by rw [HT.out]⟩
        case measure => simp [intOf]; omega
      · obtain rfl : k = p.length := by omega
        rw [List.take_length] at *
        go_wp2_with fail
        all_goals
          go_ret
          rw [HF.out]
          refine ⟨ret_bool ?_, rfl⟩
          first | rfl | (rw [Bool.eq_iff_iff]; simp; done) | (rw [Bool.eq_iff_iff]; simp; omega)
  · have hl2 : ¬ (p.length : Int) ≤ 20 := by omega
    have hfin : smallP p most = false := by simp [smallP, hl]
    have HF := Lib.hid hfin
    clear hfin
    go_enter Tryd.func20, Tryd.ntmps20
    go_wp2
    go_loop [6] (fun i => i = .int .i64 0) (fun _ => 0)
    case atStart => rfl
    case round =>
      subst hrel
      go_wp2_with fail
      all_goals
        go_ret
        rw [HF.out]
        exact ⟨rfl, rfl⟩

set_option maxHeartbeats 1000000 in
theorem phead_any (a l s : Int) (v : Value) : Ct Tryd.prog 64 #[.agg #[.int .i64 a, .int .i64 l, .int .i64 s, v]] (.bool (headB a l s)) := fun w => by
  have hm := headB_iff a l s
  generalize headB a l s = m at *
  have HM := Lib.hid hm
  clear hm
  go_enter Tryd.func64, Tryd.ntmps64
  go_wp2_with fail
  all_goals
    go_ret
    refine ⟨ret_bool ?_, by go_grown⟩
    rw [Bool.eq_iff_iff, HM.out]
    simp
    try omega

set_option maxHeartbeats 2000000 in
set_option maxRecDepth 100000 in
theorem pmay_any {B : Nat} {A : Option Addr} {p : List Fun} (c : Nat) (w : World) (h : ProgAt w B A p) (hz : SizedP p) (hB : B ≤ w.heap.size) :
    Calls Tryd.prog 46 #[.slice A p.length c] w fun e w' => e = .returned (.bool (mayP p)) ∧ Below w.heap.size w w' := by
  have HA := Lib.hid h
  have HZ := Lib.hid hz.2
  have hzp := hz.1
  unfold maxLen at hzp
  clear h hz
  go_enter Tryd.func46, Tryd.ntmps46
  go_wp2
  go_loopw [3] (fun i W => ∃ k : Nat, k ≤ p.length ∧ i = .int .i64 k ∧ (∀ f ∈ p.take k, mayF f = true) ∧ Below w.heap.size w W) (fun i _ => p.length - (intOf i).toNat)
  case atStart => exact ⟨0, by omega, rfl, by simp, Below.refl _ _⟩
  case round =>
    obtain ⟨k, hk, rfl, hall, hw⟩ := hrel
    have HALL := Lib.hid hall
    clear hall
    by_cases hlt : k < p.length
    · obtain ⟨b, off, rfl, hbl, hc⟩ := (HA.out.below hw hB) (by omega)
      have hF := hc k hlt
      clear hc
      have hmem : p[k] ∈ p := List.getElem_mem hlt
      have hzf := HZ.out _ hmem
      unfold maxLen at hzf
      have htk : p.take (k + 1) = p.take k ++ [p[k]] := List.take_succ_eq_append_getElem hlt
      generalize p[k] = f at *
      have HTK := Lib.hid htk
      have HMEM := Lib.hid hmem
      clear htk hmem
      have HF := Lib.hid hF
      obtain ⟨_, _, _, A2, c2, c3, hcode⟩ := hF
      have HC := Lib.hid hcode
      clear hcode
      have hwz := hw.size
      obtain ⟨wo, rfl⟩ : ∃ wo, wo = wr := ⟨_, rfl⟩
      have hbo : b < wo.heap.size := by omega
      have hBo : B ≤ wo.heap.size := by omega
      go_wp2
      go_loopw [4] (fun i W => ∃ j : Nat, j ≤ f.code.length ∧ i = .int .i64 j ∧ (∀ x ∈ f.code.take j, mayZ x.1 x.2.1 x.2.2 = true) ∧ Below wo.heap.size wo W) (fun i _ => f.code.length - (intOf i).toNat)
      case atStart => exact ⟨0, by omega, rfl, by simp, Below.refl _ _⟩
      case round =>
        obtain ⟨j, hj, rfl, hjall, hwi⟩ := hrel
        have HJ := Lib.hid hjall
        clear hjall
        have hwiz := hwi.size
        have e3 : wr.cell? ⟨b, off + k * 4 + 3, none⟩ = some (.slice A2 f.code.length c2) := (hwi.cell hbo).trans c3
        by_cases hltj : j < f.code.length
        · obtain ⟨b2, off2, rfl, hbl2, hd⟩ := (HC.out.below hwi hBo) (by omega)
          obtain ⟨d0, d1, d2⟩ := hd j hltj
          clear hd
          have hjt : f.code.take (j + 1) = f.code.take j ++ [f.code[j]] := List.take_succ_eq_append_getElem hltj
          have hjm : f.code[j] ∈ f.code := List.getElem_mem hltj
          generalize f.code[j] = x at *
          obtain ⟨xo, xa, xb⟩ := x
          have HJT := Lib.hid hjt
          have HJM := Lib.hid hjm
          clear hjt hjm
          cases hx : mayZ xo xa xb
          · have RM := rmay_any xo xa xb
            rw [hx] at RM
            have hbad : mayP p = false := by
              rw [← Bool.not_eq_true, mayP_iff]
              intro h
              have := ((mayF_iff f).1 (h.2.2 f HMEM.out)).2.2.2 _ HJM.out
              simp only at this
              rw [hx] at this
              cases this
            have HB := Lib.hid hbad
            clear hbad hx
            go_wp2_with (go_at_call 66; (with_reducible refine (RM.go _).mono ?_); rintro e v ⟨rfl, hb⟩; replace hwi := Below.step hwi hb; clear hb)
            go_ret
            rw [HB.out]
            exact ⟨rfl, Below.step hw hwi⟩
          · have RM := rmay_any xo xa xb
            rw [hx] at RM
            have HX := Lib.hid hx
            clear hx
            go_wp2_with (go_at_call 66; (with_reducible refine (RM.go _).mono ?_); rintro e v ⟨rfl, hb⟩; replace hwi := Below.step hwi hb; clear hb)
            go_roundw
            case rel =>
              refine ⟨j + 1, by omega, by go_num, ?_, hwi⟩
              rw [HJT.out]
              intro y hy
              rcases List.mem_append.1 hy with h | h
              · exact HJ.out y h
              · simp only [List.mem_singleton] at h
                subst h
                exact HX.out
            case measure => simp [intOf]; omega
        · obtain rfl : j = f.code.length := by omega
          have hall := HJ.out
          rw [List.take_length] at hall
          have hmf : mayF f = (headB f.ar f.lo f.sl && (decide (1 ≤ f.code.length) && decide (f.code.length ≤ 200))) := by
            rw [Bool.eq_iff_iff, mayF_iff]
            constructor
            · rintro ⟨h1, h2, h3, _⟩
              simp [h1, h2, h3]
            · intro h
              simp at h
              exact ⟨h.1, h.2.1, h.2.2, hall⟩
          clear hall
          have HMF := Lib.hid hmf
          clear hmf
          have PH := phead_any f.ar f.lo f.sl (.slice A2 f.code.length c2)
          have e0 : wr.cell? ⟨b, off + k * 4, none⟩ = some (.int .i64 f.ar) := (hwi.cell hbo).trans HF.out.1
          have e1 : wr.cell? ⟨b, off + k * 4 + 1, none⟩ = some (.int .i64 f.lo) := (hwi.cell hbo).trans HF.out.2.1
          have e2 : wr.cell? ⟨b, off + k * 4 + 2, none⟩ = some (.int .i64 f.sl) := (hwi.cell hbo).trans HF.out.2.2.1
          have hbr : b < wr.heap.size := by omega
          generalize headB f.ar f.lo f.sl = hd at *
          have fin : mayF f = false → mayP p = false := fun h => by
            rw [← Bool.not_eq_true, mayP_iff]
            intro h2
            rw [h2.2.2 f HMEM.out] at h
            cases h
          have FIN := Lib.hid fin
          clear fin hltj
          cases hd
          · have hb := FIN.out (by rw [HMF.out]; rfl)
            have HB := Lib.hid hb
            clear hb
            go_wp2_with (go_at_call 64; (with_reducible refine (PH.go _).mono ?_); rintro e v ⟨rfl, hb⟩; replace hwi := Below.step hwi hb; clear hb)
            go_ret
            rw [HB.out]
            exact ⟨rfl, Below.step hw hwi⟩
          · rcases (show f.code.length < 1 ∨ 200 < f.code.length ∨ (1 ≤ f.code.length ∧ f.code.length ≤ 200) by omega) with hl | hl | ⟨hl1, hl2⟩
            · have hb := FIN.out (by rw [HMF.out]; simp; omega)
              have HB := Lib.hid hb
              have hl' : (f.code.length : Int) < 1 := by omega
              clear hb
              go_wp2_with (go_at_call 64; (with_reducible refine (PH.go _).mono ?_); rintro e v ⟨rfl, hb⟩; replace e3 := (hb.cell hbr).trans e3; replace hwi := Below.step hwi hb; clear hb)
              go_ret
              rw [HB.out]
              exact ⟨rfl, Below.step hw hwi⟩
            · have hb := FIN.out (by rw [HMF.out]; simp; omega)
              have HB := Lib.hid hb
              have hl' : (200 : Int) < f.code.length := by omega
              clear hb
              go_wp2_with (go_at_call 64; (with_reducible refine (PH.go _).mono ?_); rintro e v ⟨rfl, hb⟩; replace e3 := (hb.cell hbr).trans e3; replace hwi := Below.step hwi hb; clear hb)
              go_ret
              rw [HB.out]
              exact ⟨rfl, Below.step hw hwi⟩
            · have hg : mayF f = true := by rw [HMF.out]; simp; omega
              have HG := Lib.hid hg
              have hl1' : (1 : Int) ≤ f.code.length := by omega
              have hl2' : (f.code.length : Int) ≤ 200 := by omega
              clear hg
              go_wp2_with (go_at_call 64; (with_reducible refine (PH.go _).mono ?_); rintro e v ⟨rfl, hb⟩; replace e3 := (hb.cell hbr).trans e3; replace hwi := Below.step hwi hb; clear hb)
              go_roundw
              case rel =>
                refine ⟨k + 1, by omega, by go_num, ?_, Below.step hw hwi⟩
                rw [HTK.out]
                intro y hy
                rcases List.mem_append.1 hy with h | h
                · exact HALL.out y h
                · simp only [List.mem_singleton] at h
                  subst h
                  exact HG.out
              case measure => simp [intOf]; omega
    · obtain rfl : k = p.length := by omega
      have hm : mayP p = (decide (1 ≤ p.length) && decide (p.length ≤ 16)) := by
        have := HALL.out
        rw [List.take_length] at this
        rw [Bool.eq_iff_iff, mayP_iff]
        constructor
        · rintro ⟨h1, h2, _⟩
          simp [h1, h2]
        · intro h
          simp at h
          exact ⟨h.1, h.2, this⟩
      have HM := Lib.hid hm
      clear hm
      go_wp2_with fail
      all_goals
        go_ret
        rw [HM.out]
        refine ⟨ret_bool ?_, hw⟩
        rw [Bool.eq_iff_iff]
        simp
        try omega
end Go.Proofs.YtjibkgildfjjoaaDoor

/- Layer 13, plain: worlds. -/
namespace Go.Proofs.YtjibkgildfjjoaaDoor
set_option linter.unusedVariables false
set_option linter.unusedSimpArgs false
open Go.RowKit

def noV : V := (-1, 0)
/-- A world: a program, limits, frames, rings, current ones, the first task, counts. -/
structure Wld where
  prog : List Fun
  lf : Int
  lm : Int
  lr : Int
  pen : Zp
  rings : List Rng
  cur : List V
  root : V
  used : Int
  st : Int
  otr : Int
  ore : Int
  oim : Int
  err : Int
  stl : Int
  mis : Int
def wld0 : Wld := ⟨[], 0, 0, 0, zp0, [], [], (0, 0), 0, 0, 0, 0, 0, 0, 0, 0⟩
def rng1 (t : Int) : Rng := ⟨[(0, 0)], 0, 0, t⟩
theorem newR_1 (t : Int) : newR 1 t = if 1 ≤ t ∧ t ≤ 1024 then (rng1 t, true) else (⟨[], 0, 0, 0⟩, false) := by
  unfold newR
  by_cases h : 1 ≤ t ∧ t ≤ 1024
  · rw [if_pos ⟨h.1, h.2, by decide, h.1⟩, if_pos h]
    rfl
  · rw [if_neg fun e => h ⟨e.1, e.2.1⟩, if_neg h]
/-- Fresh workers may be. -/
def mayFr (k r : Int) : Bool := decide (1 ≤ k) && decide (k ≤ 64) && (decide (1 ≤ r) && decide (r ≤ 1024))
theorem mayFr_iff (k r : Int) : mayFr k r = true ↔ (1 ≤ k ∧ k ≤ 64) ∧ 1 ≤ r ∧ r ≤ 1024 := by simp [mayFr, and_assoc]
def freshR (k r : Int) : List Rng × List V := if mayFr k r = true then (List.replicate k.toNat (rng1 r), List.replicate k.toNat noV) else ([], [])
theorem freshR_no {k r : Int} (h : mayFr k r = false) : freshR k r = ([], []) := by
  unfold freshR
  rw [if_neg (by rw [h]; decide)]
theorem freshR_yes {k : Nat} {r : Int} (h : mayFr k r = true) : freshR k r = (List.replicate k (rng1 r), List.replicate k noV) := by
  unfold freshR
  rw [if_pos h, Int.toNat_natCast]
/-- A new world may be. -/
noncomputable def mayW (p : List Fun) (args : List V) (s k lf lm lr : Int) : Bool :=
  ((checkP p).2.2 == 0) && (newF p 0 args s).2 && (decide (1 ≤ lm) && decide (lm ≤ 1024)) && mayFr k lr && (decide (1 ≤ lf) && decide (lf ≤ 100000))
noncomputable def newW (p : List Fun) (args : List V) (s k lf lm lr : Int) : Wld × Int :=
  if mayW p args s k lf lm lr = true then (⟨p, lf, lm, lr, ⟨[⟨0, true, (newF p 0 args s).1⟩], [], lm⟩, List.replicate k.toNat (rng1 lr), (0, 0) :: List.replicate (k.toNat - 1) noV, (0, 0), 0, 0, 0, 0, 0, 0, 0, 0⟩, 0) else (wld0, 1)
/-- Who is ready. -/
def curL (c : V) : List V := if c = noV then [] else [c]
def readyN (rs : List Rng) (cs : List V) : Nat → List V
  | 0 => []
  | k + 1 => readyN rs cs k ++ (curL (cs.getD k noV) ++ itemsR (rs.getD k ⟨[], 0, 0, 0⟩))
def readyW (w : Wld) : List V := readyN w.rings w.cur w.rings.length
theorem readyN_at {rs : List Rng} {cs : List V} {k : Nat} (h : k < rs.length) : readyN rs cs (k + 1) = readyN rs cs k ++ (curL (cs.getD k noV) ++ itemsR rs[k]) := by
  show readyN rs cs k ++ _ = _
  rw [show rs.getD k ⟨[], 0, 0, 0⟩ = rs[k] by rw [List.getD_eq_getElem?_getD, List.getElem?_eq_getElem h, Option.getD_some]]
theorem itemsR_le (r : Rng) : (itemsR r).length ≤ 1024 := by
  by_cases h : mayR r = true
  · have h1 := items_len h
    obtain ⟨b, hd, m, t, rfl, q1, q2, q3, q4, q5, q6⟩ := ring_nat h
    simp only at h1
    omega
  · unfold itemsR
    rw [if_neg h]
    simp
theorem curL_le (c : V) : (curL c).length ≤ 1 := by unfold curL; split <;> simp
theorem readyN_le (rs : List Rng) (cs : List V) : ∀ k, (readyN rs cs k).length ≤ k * 1025
  | 0 => by simp [readyN]
  | k + 1 => by
    have h1 := readyN_le rs cs k
    have h2 := curL_le (cs.getD k noV)
    have h3 := itemsR_le (rs.getD k ⟨[], 0, 0, 0⟩)
    simp only [readyN, List.length_append]
    omega
/-- Worlds that are the same. -/
noncomputable def sameW (a b : Wld) : Bool := @decide (a = b) (Classical.propDecidable _)
theorem sameW_iff (a b : Wld) : sameW a b = true ↔ a = b := by unfold sameW; exact @decide_eq_true_iff _ (Classical.propDecidable _)
theorem sameW_refl (a : Wld) : sameW a a = true := (sameW_iff a a).2 rfl
theorem sameW_no {a b : Wld} (h : a ≠ b) : sameW a b = false := by
  rw [← Bool.not_eq_true, sameW_iff]
  exact h
/-- A world is small. -/
def smW (w : Wld) : Bool := w.rings.all (fun r => decide (r.buf.length ≤ 60)) && decide (w.rings.length ≤ 70) && decide (w.cur.length ≤ 70) && smZ w.pen 30 && smallP w.prog 300
end Go.Proofs.YtjibkgildfjjoaaDoor

/- Layer 13: lists of rings, and worlds, in memory. -/
namespace Go.Proofs.YtjibkgildfjjoaaDoor
set_option linter.unusedVariables false
set_option linter.unusedSimpArgs false
open Go.RowKit Go.ChangeShapes Go.WideShapes Go.ChangeAt Go.Sort

/-! Lists of rings. -/
abbrev RF := Option Addr → Nat → Rng → Prop
def RgsOf (F : RF) (xs : List Value) (l : List Rng) : Prop :=
  xs.length = l.length * 4 ∧ ∀ j (h : j < l.length), ∃ A c, F A c l[j] ∧ ∀ i, i < 4 → xs[j * 4 + i]? = (rgc A l[j].buf.length c l[j].head l[j].many l[j].most).toList[i]?
theorem RgsOf.mono {F G : RF} {xs : List Value} {l : List Rng} (h : RgsOf F xs l) (hF : ∀ A c r, F A c r → G A c r) : RgsOf G xs l :=
  ⟨h.1, fun j hj => by
    obtain ⟨A, c, h1, h2⟩ := h.2 j hj
    exact ⟨A, c, hF _ _ _ h1, h2⟩⟩
theorem rgsOf_nil (F : RF) : RgsOf F [] [] := ⟨rfl, fun j h => absurd h (by simp)⟩
theorem rgsOf_one {F : RF} {A : Option Addr} {c : Nat} {r : Rng} (h : F A c r) : RgsOf F (rgc A r.buf.length c r.head r.many r.most).toList [r] :=
  ⟨rfl, fun j hj => by
    obtain rfl : j = 0 := by simpa using hj
    exact ⟨A, c, h, fun i hi => by rw [Nat.zero_mul, Nat.zero_add]; rfl⟩⟩
theorem rgsOf_app {F : RF} {xs ys : List Value} {l k : List Rng} (h : RgsOf F xs l) (h' : RgsOf F ys k) : RgsOf F (xs ++ ys) (l ++ k) := by
  have hx := h.1
  have hy := h'.1
  refine ⟨by rw [List.length_append, List.length_append]; omega, fun j hj => ?_⟩
  rw [List.length_append] at hj
  by_cases e : j < l.length
  · obtain ⟨A, c, d3, d4⟩ := h.2 j e
    refine ⟨A, c, by rw [List.getElem_append_left e]; exact d3, fun i hi => ?_⟩
    rw [List.getElem_append_left e, List.getElem?_append_left (by omega)]
    exact d4 i hi
  · obtain ⟨A, c, d3, d4⟩ := h'.2 (j - l.length) (by omega)
    refine ⟨A, c, ?_, fun i hi => ?_⟩
    · rw [List.getElem_append_right (by omega)]
      exact d3
    · rw [List.getElem_append_right (by omega), List.getElem?_append_right (by omega), show j * 4 + i - xs.length = (j - l.length) * 4 + i by omega]
      exact d4 i hi
theorem rgsOf_oneCell {F : RF} {xs : List Value} {l : List Rng} (h : RgsOf F xs l) : ∀ u ∈ xs, u.oneCell' = true := fun u hu => by
  obtain ⟨i, hi, rfl⟩ := List.mem_iff_getElem.1 hu
  have hl := h.1
  have hd : i = i / 4 * 4 + i % 4 := by omega
  have hm : i % 4 < 4 := by omega
  obtain ⟨A, c, _, h4⟩ := h.2 (i / 4) (by omega)
  have e := h4 (i % 4) hm
  rw [← hd, List.getElem?_eq_getElem hi] at e
  have hmem : xs[i] ∈ (rgc A l[i / 4].buf.length c l[i / 4].head l[i / 4].many l[i / 4].most).toList := List.mem_of_getElem? e.symm
  simp only [List.mem_cons, List.not_mem_nil, or_false] at hmem
  rcases hmem with e | e | e | e <;> rw [e] <;> rfl
/-- The slice at A holds these rings, below block B. -/
def GAt (w : World) (B : Nat) (A : Option Addr) (l : List Rng) : Prop := 0 < l.length → ∃ b off xs, A = some ⟨b, off, none⟩ ∧ b < B ∧ w.rangeAt b off xs ∧ RgsOf (fun A _ r => PAt w B A r.buf) xs l
theorem GAt.nil (w : World) (B : Nat) (A : Option Addr) : GAt w B A [] := fun h => absurd h (by simp)
theorem GAt.below {w w' : World} {B : Nat} {A : Option Addr} {l : List Rng} (h : GAt w B A l) {C : Nat} (hb : Below C w w') (hC : B ≤ C) : GAt w' B A l := fun h0 => by
  obtain ⟨b, off, xs, e, hlt, hr, hc⟩ := h h0
  exact ⟨b, off, xs, e, hlt, range_keep hr (hb.block b (by omega)), hc.mono fun _ _ _ k => k.below hb hC⟩
theorem GAt.more {w : World} {B C : Nat} {A : Option Addr} {l : List Rng} (h : GAt w B A l) (hC : B ≤ C) : GAt w C A l := fun h0 => by
  obtain ⟨b, off, xs, e, hlt, hr, hc⟩ := h h0
  exact ⟨b, off, xs, e, by omega, hr, hc.mono fun _ _ _ k => k.more hC⟩
theorem GAt.later {w w' : World} {A : Option Addr} {l : List Rng} (h : GAt w w.heap.size A l) (hb : Below w.heap.size w w') : GAt w' w'.heap.size A l := (h.below hb (Nat.le_refl _)).more hb.size
/-- What a walk reads of a ring. -/
theorem GAt.rng {w : World} {B : Nat} {A : Option Addr} {l : List Rng} (h : GAt w B A l) {j : Nat} (hj : j < l.length) : ∃ b off, A = some ⟨b, off, none⟩ ∧ b < B ∧ ∃ Ab cb, PAt w B Ab l[j].buf ∧
    w.cell? ⟨b, off + j * 4, none⟩ = some (.slice Ab l[j].buf.length cb) ∧ w.cell? ⟨b, off + j * 4 + 1, none⟩ = some (.int .i64 l[j].head) ∧ w.cell? ⟨b, off + j * 4 + 2, none⟩ = some (.int .i64 l[j].many) ∧ w.cell? ⟨b, off + j * 4 + 3, none⟩ = some (.int .i64 l[j].most) := by
  obtain ⟨b, off, xs, e, hlt, hr, hc⟩ := h (by omega)
  obtain ⟨Ab, cb, h3, h4⟩ := hc.2 j hj
  have hR : ∀ i v, i < 4 → (rgc Ab l[j].buf.length cb l[j].head l[j].many l[j].most).toList[i]? = some v → w.cell? ⟨b, off + j * 4 + i, none⟩ = some v := fun i v hi hv => by
    rw [Nat.add_assoc]
    exact hr (j * 4 + i) v (by rw [h4 i hi]; exact hv)
  exact ⟨b, off, e, hlt, Ab, cb, h3, hR 0 _ (by omega) rfl, hR 1 _ (by omega) rfl, hR 2 _ (by omega) rfl, hR 3 _ (by omega) rfl⟩
/-- A list of rings of one's own. -/
def OwnG (w : World) (B : Nat) (v : Value) (l : List Rng) : Prop := ∃ xs, w.ownsRow B 46 4 v l.length xs ∧ RgsOf (fun A c r => OwnR w B (.slice A r.buf.length c) r.buf) xs l
theorem OwnG.nil (w : World) (B : Nat) : OwnG w B (.slice none 0 0) [] := ⟨[], World.ownsRow_nil _ _ _ _, rgsOf_nil _⟩
theorem OwnG.made (w : World) : OwnG (w.alloc (.cells #[] 46)) w.heap.size (.slice (some ⟨w.heap.size, 0, none⟩) 0 0) [] := ⟨[], World.ownsRow_made w #[] 0 (Nat.le_refl _) (by decide) rfl, rgsOf_nil _⟩
theorem OwnG.lies {w : World} {B : Nat} {v : Value} {l : List Rng} (h : OwnG w B v l) : ∃ A c, v = .slice A l.length c ∧ GAt w w.heap.size A l := by
  obtain ⟨xs, h1, h2⟩ := h
  obtain ⟨A, c, e, k⟩ := row_lies h1
  refine ⟨A, c, e, fun h0 => ?_⟩
  obtain ⟨b, e2, _, hlt, hr⟩ := k h0
  exact ⟨b, 0, xs, e2, hlt, hr, h2.mono fun _ _ _ k => own2_at k⟩
theorem OwnG.at {w : World} {B n c : Nat} {A : Option Addr} {l : List Rng} (h : OwnG w B (.slice A n c) l) : GAt w w.heap.size A l := by
  obtain ⟨A', c', e, k⟩ := h.lies
  simp only [Value.slice.injEq] at e
  obtain ⟨rfl, _, rfl⟩ := e
  exact k
theorem OwnG.below {w w' : World} {B : Nat} {v : Value} {l : List Rng} (h : OwnG w B v l) (hb : Below w.heap.size w w') : OwnG w' B v l := by
  obtain ⟨xs, k1, k2⟩ := h
  exact ⟨xs, r_later k1 hb, k2.mono fun _ _ _ k => r_later k hb⟩
theorem OwnG.mono {w : World} {B C : Nat} {v : Value} {l : List Rng} (h : OwnG w B v l) (hC : C ≤ B) : OwnG w C v l := by
  obtain ⟨xs, k1, k2⟩ := h
  exact ⟨xs, row_mono k1 hC, k2.mono fun _ _ _ k => row_mono k hC⟩
theorem OwnG.kt {w w' : World} {B : Nat} {v : Value} {l : List Rng} {t : TypeId} (h : OwnG w B v l) (hk : KTy w w' t) (h1 : 46 ≠ t) (h2 : 33 ≠ t) : OwnG w' B v l := by
  obtain ⟨xs, k1, k2⟩ := h
  exact ⟨xs, row_kt k1 hk h1, k2.mono fun _ _ _ k => row_kt k hk h2⟩
theorem OwnG.len {w : World} {B n c : Nat} {A : Option Addr} {l : List Rng} (h : OwnG w B (.slice A n c) l) : l.length = n := by
  obtain ⟨xs, k1, k2⟩ := h
  obtain ⟨A', c', e, k⟩ := row_lies k1
  simp only [Value.slice.injEq] at e
  exact e.2.1.symm
theorem infoG : (Tryd.prog.info? 46).map (fun i => (i.zero, i.size, i.bytes)) = some (some (.agg rz0), 4, 48) := by kernel_rfl
def ApN (N : Option Nat) (v : Value) : Prop := ∀ b, v.ownBlock = some b → N ≠ some b
def OwnGx (N : Option Nat) (w : World) (B : Nat) (v : Value) (l : List Rng) : Prop := ∃ xs, w.ownsRow B 46 4 v l.length xs ∧ RgsOf (fun A c r => OwnR w B (.slice A r.buf.length c) r.buf ∧ ApN N (.slice A r.buf.length c)) xs l
theorem OwnGx.own {N : Option Nat} {w : World} {B : Nat} {v : Value} {l : List Rng} (h : OwnGx N w B v l) : OwnG w B v l := by
  obtain ⟨xs, k1, k2⟩ := h
  exact ⟨xs, k1, k2.mono fun _ _ _ k => k.1⟩
theorem OwnGx.nil (N : Option Nat) (w : World) (B : Nat) : OwnGx N w B (.slice none 0 0) [] := ⟨[], World.ownsRow_nil _ _ _ _, rgsOf_nil _⟩
theorem OwnGx.made (N : Option Nat) (w : World) : OwnGx N (w.alloc (.cells #[] 46)) w.heap.size (.slice (some ⟨w.heap.size, 0, none⟩) 0 0) [] := ⟨[], World.ownsRow_made w #[] 0 (Nat.le_refl _) (by decide) rfl, rgsOf_nil _⟩
theorem OwnGx.below {N : Option Nat} {w w' : World} {B : Nat} {v : Value} {l : List Rng} (h : OwnGx N w B v l) (hb : Below w.heap.size w w') : OwnGx N w' B v l := by
  obtain ⟨xs, k1, k2⟩ := h
  exact ⟨xs, r_later k1 hb, k2.mono fun _ _ _ k => ⟨r_later k.1 hb, k.2⟩⟩
theorem OwnGx.mono {N : Option Nat} {w : World} {B C : Nat} {v : Value} {l : List Rng} (h : OwnGx N w B v l) (hC : C ≤ B) : OwnGx N w C v l := by
  obtain ⟨xs, k1, k2⟩ := h
  exact ⟨xs, row_mono k1 hC, k2.mono fun _ _ _ k => ⟨row_mono k.1 hC, k.2⟩⟩
/-- That block is turned, and may be another one then. -/
theorem OwnGx.turn {N N' : Option Nat} {w w' : World} {B : Nat} {v : Value} {l : List Rng} (h : OwnGx N w B v l) (hg : w.grownBy w' N) (hk : KTy w w' 33) (hN : ∀ b, N' = some b → N = some b ∨ w.heap.size ≤ b) : OwnGx N' w' B v l := by
  obtain ⟨xs, k1, k2⟩ := h
  refine ⟨xs, row_kt k1 hk (by decide), k2.mono fun A c r k => ⟨?_, fun b hb e => ?_⟩⟩
  · have k9 := k.1
    exact r_same k9 fun g e => hg.block g (World.ownsRow.lt k9 g e).2 (Ne.symm (k.2 g e))
  · have k9 := k.1
    rcases hN b e with h1 | h1
    · exact k.2 b hb h1
    · have := (World.ownsRow.lt k9 b hb).2
      omega
theorem run_none_r (w : World) (A A2 : Option Addr) (n c c2 : Nat) (ty : TypeId) (h : n ≤ c) : (Builtin.append_ #[31, 31] ty #[.slice A n c, .slice A2 0 c2]).run Tryd.prog w = .ok (.slice A n c) w := by
  obtain ⟨i, hi, hz0, hz1, hz2⟩ := info_parts infoR
  cases A <;> cases A2 <;> simp [Builtin.append_, run_underlying Tryd.underlying31, sizeOf, typeInfo, hi, storeCells, loadCellsFrom, Builtin.lenOf, Builtin.firstCells, loadCells, h]
theorem ownr_cap {w : World} {B : Nat} {v : Value} {l : List P2} (h : OwnR w B v l) : ∃ A c, v = .slice A l.length c ∧ l.length ≤ c := by
  rcases h.2 with ⟨rfl, h0⟩ | ⟨g, cap, cur, rfl, _, _, hle, _⟩
  · exact ⟨none, 0, by rw [h0], by omega⟩
  · exact ⟨_, cap, rfl, hle⟩
theorem wpList_append_rsE {w : World} {ops : Array Oper} {rest : List Oper} {o : Oper} {a : Act} {Q : Exit → Act → World → Prop}
    (hg : o.guard = none) (s x : Operand) (hop : o.op = Op.call { callee := Callee.builtin Builtin.append, args := #[s, x], argTypes := #[31, 31] })
    (B : Nat) (v : Value) (l : List P2) (hs : a.eval s = v) (own : OwnR w B v l) {A : Option Addr} {k : List P2} {n c C : Nat} (hn : k.length = n) (hx : a.eval x = .slice A n c) (hc : PAt w C A k)
    (hlen : l.length + n ≤ 1000000) (hB : B ≤ w.heap.size)
    (h : ∀ v' w', OwnR w' B v' (l ++ k) → w.grownBy w' v.ownBlock → (∀ b, v'.ownBlock = some b → v.ownBlock = some b ∨ w.heap.size ≤ b) → wpList Tryd.prog ops Q rest (a.put o.dst v') w') : wpList Tryd.prog ops Q (o :: rest) a w := by
  by_cases hk : k = []
  · subst hk
    obtain ⟨A9, c9, rfl, hle⟩ := ownr_cap own
    have hx2 : a.eval x = .slice A 0 c := by rw [hx, ← hn]; rfl
    refine wpList_plain hg fun K hK' => ?_
    have hr := fun ty => run_none_r w A9 A l.length c9 c ty hle
    unfold Oper.wp execOp
    simp only [hop, resolve, invoke, builtin, Sem.run_bind, Sem.run_pure, Result.andThen_ok, List.map_toArray, List.map_cons, List.map_nil, hs, hx2, hr]
    exact hK' _ _ (h _ _ (by rw [List.append_nil]; exact own) ⟨rfl, rfl, rfl, Nat.le_refl _, fun _ _ _ => rfl⟩ (fun b hb => .inl hb))
  · have h1 : 1 ≤ n := by
      rw [← hn]
      cases k with
      | nil => exact absurd rfl hk
      | cons y ys => simp
    exact wpList_append_rs hg s x hop B v l hs own hn hx hc h1 hlen hB h

/-! Worlds. -/
/-- Where a world's lists lie. -/
structure WA where
  ap : Option Addr
  cp : Nat
  ac : Option Addr
  cc : Nat
  af : Option Addr
  cf : Nat
  ar : Option Addr
  cr : Nat
  aq : Option Addr
  cq : Nat
abbrev wcs (a : WA) (W : Wld) : Array Value := #[.slice a.ap W.prog.length a.cp, .int .i64 W.lf, .int .i64 W.lm, .int .i64 W.lr, .slice a.ac W.pen.cells.length a.cc, .slice a.af W.pen.free.length a.cf, .int .i64 W.pen.most, .slice a.ar W.rings.length a.cr, .slice a.aq W.cur.length a.cq, .int .i64 W.root.1, .int .i64 W.root.2, .int .i64 W.used, .int .i64 W.st, .int .i64 W.otr, .int .i64 W.ore, .int .i64 W.oim, .int .i64 W.err, .int .i64 W.stl, .int .i64 W.mis]
abbrev wz0 : Array Value := #[.slice none 0 0, .int .i64 0, .int .i64 0, .int .i64 0, .slice none 0 0, .slice none 0 0, .int .i64 0, .slice none 0 0, .slice none 0 0, .int .i64 0, .int .i64 0, .int .i64 0, .int .i64 0, .int .i64 0, .int .i64 0, .int .i64 0, .int .i64 0, .int .i64 0, .int .i64 0]
/-- A world's lists can be read. -/
structure WAt (w : World) (B : Nat) (a : WA) (W : Wld) : Prop where
  prog : ProgAt w B a.ap W.prog
  pen : PAtZ w B a.ac a.af W.pen
  rings : GAt w B a.ar W.rings
  cur : PAt w B a.aq W.cur
theorem WAt.below {w w' : World} {B : Nat} {a : WA} {W : Wld} (h : WAt w B a W) {C : Nat} (hb : Below C w w') (hC : B ≤ C) : WAt w' B a W := ⟨h.prog.below hb hC, h.pen.below hb hC, h.rings.below hb hC, h.cur.below hb hC⟩
theorem WAt.more {w : World} {B C : Nat} {a : WA} {W : Wld} (h : WAt w B a W) (hC : B ≤ C) : WAt w C a W := ⟨h.prog.more hC, h.pen.more hC, h.rings.more hC, h.cur.more hC⟩
theorem WAt.later {w w' : World} {a : WA} {W : Wld} (h : WAt w w.heap.size a W) (hb : Below w.heap.size w w') : WAt w' w'.heap.size a W := (h.below hb (Nat.le_refl _)).more hb.size
/-- What a walk may know of a world's sizes. -/
structure LenW (W : Wld) : Prop where
  prog : SizedP W.prog
  pen : LenZ W.pen
  rings : W.rings.length ≤ 900
  buf : ∀ r ∈ W.rings, r.buf.length ≤ 100000
  cur : W.cur.length ≤ 1000
end Go.Proofs.YtjibkgildfjjoaaDoor

/- Layer 7: the document's lay: a line's words and numbers. -/
namespace Go.Proofs.YtjibkgildfjjoaaDoor
set_option linter.unusedVariables false
set_option linter.unusedSimpArgs false
open Go.RowKit Go.ChangeShapes Go.WideShapes Go.ChangeAt Go.Sort

theorem addQ_bad {p : List Fun} {l w0 : List UInt8} {rest : List (List UInt8)} (h : splitL 32 l = w0 :: rest) (hb : ¬ (rest.length ≤ 3 ∧ ∀ w ∈ rest, 0 ≤ numV w)) : addQ p l = none := by
  unfold addQ lineOf
  rw [h]
  simp only
  rw [show numsW rest = none by unfold numsW; rw [if_neg hb]]
  rfl
theorem addQ_nums {p : List Fun} {l w0 : List UInt8} {rest : List (List UInt8)} (h : splitL 32 l = w0 :: rest) (hb : rest.length ≤ 3 ∧ ∀ w ∈ rest, 0 ≤ numV w) : addQ p l = (lineC (w0, rest.map numV)).bind (layL p) := by
  unfold addQ lineOf lineC
  rw [h]
  simp only
  rw [show numsW rest = some (rest.map numV) by unfold numsW; rw [if_pos hb]]
/-- The numbers as they lie. -/
def nArr (ns : List Int) : Array Value := #[.int .i64 (ns.getD 0 0), .int .i64 (ns.getD 1 0), .int .i64 (ns.getD 2 0)]
theorem nArr_get (ns : List Int) {m : Nat} (h : m < 3) : (nArr ns)[m]? = some (.int .i64 (ns.getD m 0)) := by
  match m, h with
  | 0, _ => rfl
  | 1, _ => rfl
  | 2, _ => rfl
theorem nArr_snoc (ns : List Int) (n : Int) (h : ns.length < 3) : (nArr ns).setIfInBounds ns.length (.int .i64 n) = nArr (ns ++ [n]) := by
  match ns, h with
  | [], _ => rfl
  | [a], _ => rfl
  | [a, b], _ => rfl
/-- What a line more makes of a program of the call's own. -/
def LayR (B : Nat) (w : World) (p : List Fun) (l : List UInt8) (e : Ending) (w' : World) : Prop :=
  ∃ v' b L', e = .returned (.tuple #[v', .bool b]) ∧ Below B w w' ∧ OwnL w' B v' L' ∧ (∀ q, addQ p l = some q → b = true ∧ L'.map (·.1) = q) ∧ (addQ p l = none → b = false)
theorem LayR.no {B : Nat} {w w' : World} {v : Value} {L : List (Fun × Value)} {p : List Fun} {l : List UInt8} (h : OwnL w B v L) (hB : B ≤ w.heap.size) (hb : Below w.heap.size w w') (hq : addQ p l = none) : LayR B w p l (.returned (.tuple #[v, .bool false])) w' :=
  ⟨v, false, L, rfl, hb.mono hB, h.below hb, fun q h => (by rw [hq] at h; cases h), fun _ => rfl⟩

theorem psplit_cells {l w0 : List UInt8} {rest : List (List UInt8)} (c : UInt8) (h : splitL c l = w0 :: rest) (hl : l.length ≤ 1000000) (w : World) :
    Calls Tryd.prog 44 #[.string ⟨l.toArray⟩, .int .u8 (c.toNat : Int)] w fun e w' => ∃ g cs, e = .returned (.slice (some ⟨g, 0, none⟩) (rest.length + 1) cs) ∧ w.heap.size ≤ g ∧ g < w'.heap.size ∧
      (∀ j (hj : j < (w0 :: rest).length), w'.cell? ⟨g, j, none⟩ = some (.string ⟨((w0 :: rest)[j]).toArray⟩)) ∧ Below w.heap.size w w' := by
  have S := psplit_any ⟨l.toArray⟩ c w (by rw [strb_size]; exact hl)
  rw [show (⟨l.toArray⟩ : ByteArray).data.toList = l by simp, h] at S
  refine S.mono fun e w' ⟨v, he, hv, hb⟩ => ?_
  subst he
  obtain ⟨A, cs, rfl, hcs⟩ := hv.form
  obtain ⟨g, rfl, hg1, hg2, hcell⟩ := hcs (by simp)
  refine ⟨g, cs, by rw [List.length_map]; rfl, hg1, hg2, fun j hj => ?_, hb⟩
  rw [hcell j (by rw [List.length_map]; exact hj), List.getElem_map]
  rfl

/-- What is kept on the way: the numbers, the first word. -/
theorem keepL {W0 W : World} {N g : Nat} {t : TypeId} {a b c x : Value} (hN : Held W0 N t #[a, b, c]) (hg : W0.cell? ⟨g, 0, none⟩ = some x) (hb : Below W0.heap.size W0 W) :
    Below W0.heap.size W0 W ∧ W.cell? ⟨N, 0, none⟩ = some a ∧ W.cell? ⟨N, 1, none⟩ = some b ∧ W.cell? ⟨N, 2, none⟩ = some c ∧ W.cell? ⟨g, 0, none⟩ = some x :=
  ⟨hb, (hN.below hb).cell 0, (hN.below hb).cell 1, (hN.below hb).cell 2, (hb.cell (p := ⟨g, 0, none⟩) (block_lt_of_cell hg)).trans hg⟩
/-- Behind 'x := ..': where the instruction lies, and what it holds. -/
def MidI (W0 : World) (o a b : Int) (v : Value) (wx : World) : Prop :=
  ∃ k : Nat, v = .pointer (some ⟨k, 0, none⟩) ∧ wx.cell? ⟨k, 0, none⟩ = some (.int .i64 o) ∧ wx.cell? ⟨k, 1, none⟩ = some (.int .i64 a) ∧ wx.cell? ⟨k, 2, none⟩ = some (.int .i64 b) ∧ Below W0.heap.size W0 wx

/-- The last function has a code more: how it is stored whole. -/
theorem own_lay {B gp capp : Nat} {L0 : List (Fun × Value)} {f : Fun} {cf cv' : Value} {x : Ins} {u w2 : World} (h : OwnL u B (.slice (some ⟨gp, 0, none⟩) (L0.length + 1) capp) (L0 ++ [(f, cf)])) (hB : B ≤ u.heap.size)
    (ho : OwnC w2 B cv' (f.code ++ [x])) (hg : u.grownBy w2 cf.ownBlock) (hl : ∀ b, cv'.ownBlock = some b → cf.ownBlock = some b ∨ u.heap.size ≤ b) :
    (w2.cell? ⟨gp, L0.length * 4, none⟩ = some (.int .i64 f.ar) ∧ w2.cell? ⟨gp, L0.length * 4 + 1, none⟩ = some (.int .i64 f.lo) ∧ w2.cell? ⟨gp, L0.length * 4 + 2, none⟩ = some (.int .i64 f.sl) ∧ w2.cell? ⟨gp, L0.length * 4 + 3, none⟩ = some cf ∧ (∀ i, w2.frozen? ⟨gp, i, none⟩ = false) ∧ gp < u.heap.size) ∧
      OwnL ((((w2.setCell ⟨gp, L0.length * 4, none⟩ (.int .i64 f.ar)).setCell ⟨gp, L0.length * 4 + 1, none⟩ (.int .i64 f.lo)).setCell ⟨gp, L0.length * 4 + 2, none⟩ (.int .i64 f.sl)).setCell ⟨gp, L0.length * 4 + 3, none⟩ cv') B (.slice (some ⟨gp, 0, none⟩) (L0.length + 1) capp) (L0 ++ [(⟨f.ar, f.lo, f.sl, f.code ++ [x]⟩, cv')]) ∧
      Below B u ((((w2.setCell ⟨gp, L0.length * 4, none⟩ (.int .i64 f.ar)).setCell ⟨gp, L0.length * 4 + 1, none⟩ (.int .i64 f.lo)).setCell ⟨gp, L0.length * 4 + 2, none⟩ (.int .i64 f.sl)).setCell ⟨gp, L0.length * 4 + 3, none⟩ cv') := by
  obtain ⟨hCo, hcf, hdis⟩ := h.2.init
  have hrow := h.1
  rw [List.length_append, List.length_singleton] at hrow
  obtain ⟨gp', capp', e, hgB, hgl, k0, k1, k2, k3, kf⟩ := h.last
  simp only [Value.slice.injEq, Option.some.injEq, Addr.mk.injEq, and_true, true_and] at e
  obtain ⟨rfl, rfl⟩ := e
  have hne : cf.ownBlock ≠ some gp := fun e => own_ne hcf hrow gp e rfl
  have hrow2 := hrow.kept hg (.inr (fun e => hne e.symm))
  have hc2 : Codes w2 B L0 := hCo.grown hg fun y hy b hb e => hdis y hy b hb e
  have hd2 : ∀ y ∈ L0, ∀ b, y.2.ownBlock = some b → cv'.ownBlock ≠ some b := fun y hy b hb e => by
    rcases hl b e with h1 | h1
    · exact hdis y hy b hb h1
    · have := ((hCo.1 y hy).lt b hb).2
      omega
  have hm := OwnL.set (f' := ⟨f.ar, f.lo, f.sl, f.code ++ [x]⟩) hrow2 hc2 ho hd2
  have hfar : some gp ≠ cf.ownBlock := fun e => hne e.symm
  refine ⟨⟨hg.cell k0 hfar, hg.cell k1 hfar, hg.cell k2 hfar, hg.cell k3 hfar, fun i => ?_, hgl⟩, hm, ?_⟩
  · have := kf i
    rw [World.frozen?_of_block (a := ⟨gp, i, none⟩) (hg.block gp hgl hfar)]
    exact this
  · exact (((((Below.refl B u).grown hg hB (fun b hb => (hcf.lt b hb).1)).setCell (by show B ≤ gp; omega) _).setCell (by show B ≤ gp; omega) _).setCell (by show B ≤ gp; omega) _).setCell (by show B ≤ gp; omega) _
/-- Slices that are the same. -/
theorem slice_inj {A A' : Option Addr} {n n' c c' : Nat} (h : Value.slice A n c = .slice A' n' c') : A = A' ∧ n = n' ∧ c = c' := by
  cases h
  exact ⟨rfl, rfl, rfl⟩

set_option maxHeartbeats 8000000 in
set_option maxRecDepth 100000 in
theorem play_any {B : Nat} {v : Value} {L : List (Fun × Value)} {l : List UInt8} (hl : l.length ≤ 1000000) (w : World) (h : OwnL w B v L) (hB : B ≤ w.heap.size) (hn : L.length ≤ 16) (hc : ∀ x ∈ L, x.1.code.length ≤ 200) :
    Calls Tryd.prog 45 #[v, .string ⟨l.toArray⟩] w fun e w' => LayR B w (L.map (·.1)) l e w' := by
  obtain ⟨Av, cv, rfl, _⟩ := h.prog
  have HO := Lib.hid h
  have HC := Lib.hid hc
  cases hs : splitL 32 l with
  | nil => exact absurd hs (splitL_ne 32 l)
  | cons w0 rest =>
    have hlen : (w0 :: rest).length ≤ 1000001 := by
      rw [← hs]
      have h1 := joinC_len 32 (splitL 32 l)
      rw [join_split] at h1
      omega
    have S := Lib.hid (psplit_cells 32 hs hl w)
    rw [show ((32 : UInt8).toNat : Int) = 32 from rfl] at S
    have HB := Lib.hid (fun h => addQ_bad (p := L.map (·.1)) hs h)
    have HG := Lib.hid (fun h => addQ_nums (p := L.map (·.1)) hs h)
    generalize hnL : L.length = nL at *
    have HNL0 := Lib.hid hnL
    clear h hc hs hnL
    go_enter Tryd.func45, Tryd.ntmps45
    go_wp2_with (go_at_call 44; (with_reducible refine S.out.mono ?_); rintro e u ⟨g, cs, rfl, hg1, hg2, hcell, hbu⟩)
    have HCE := Lib.hid hcell
    clear hcell
    go_loopw [8] (fun iv wr => ∃ (m : Nat) (ns : List Int), iv = .int .i64 ((m : Int) + 1) ∧ m ≤ rest.length ∧ ns.length = m ∧ ns = (rest.take m).map numV ∧ m ≤ 3 ∧ (∀ n ∈ ns, 0 ≤ n) ∧ Below u.heap.size u wr ∧ Held wr u.heap.size 3 (nArr ns)) (fun iv _ => rest.length + 1 - (intOf iv).toNat)
    case atStart => exact ⟨0, [], rfl, by omega, rfl, rfl, by omega, by simp, (Below.refl _ _).alloc (Nat.le_refl _) _, Held.new u 3 (nArr [])⟩
    case round =>
      obtain ⟨m, ns, rfl, hm, hnl, hns, hm3, hpos, hbr, hH⟩ := hrel
      have hgr : g < u.heap.size := hg2
      by_cases hlt : m < rest.length
      · have c0 : wr.cell? ⟨g, m + 1, none⟩ = some (.string ⟨(rest[m]).toArray⟩) := (hbr.cell (p := ⟨g, m + 1, none⟩) hgr).trans (HCE.out (m + 1) (by simpa using hlt))
        have NB := pnumber_any ⟨(rest[m]).toArray⟩
        rw [show (⟨(rest[m]).toArray⟩ : ByteArray).data.toList = rest[m] by simp] at NB
        have htk : rest.take (m + 1) = rest.take m ++ [rest[m]] := List.take_succ_eq_append_getElem hlt
        have hmem : rest[m] ∈ rest := List.getElem_mem hlt
        have hbad : ¬ (0 ≤ numV rest[m] ∧ m < 3) → addQ (L.map (·.1)) l = none := fun h => HB.out (fun h2 => h ⟨h2.2 _ hmem, by omega⟩)
        have HBAD := Lib.hid hbad
        have HTK := Lib.hid htk
        generalize rest[m] = x at *
        have hsz := hbr.size
        have hNl := hH.lt
        have hz0 := hbu.size
        clear htk hmem hbad
        by_cases hx : 0 ≤ numV x ∧ m < 3
        · obtain ⟨hx0, hx3⟩ := hx
          have c1 : wr.cell? ⟨u.heap.size, m, none⟩ = some (.int .i64 (ns.getD m 0)) := (hH.cell m).trans (nArr_get ns hx3)
          have f1 := hH.fz m
          have HH := Lib.hid hH
          have HNS := Lib.hid hns
          have HPOS := Lib.hid hpos
          have HNL := Lib.hid hnl
          generalize ns.getD m 0 = y at c1
          generalize hnv : numV x = nv at *
          have HNV := Lib.hid hnv
          clear hH hns hpos hnl hnv
          go_wp2_with (go_at_call 63; (with_reducible refine (NB.go _).mono ?_); rintro e v2 ⟨rfl, hb2⟩; have c2 := (hb2.cell (p := ⟨u.heap.size, m, none⟩) hNl).trans c1; have f2 := (hb2.frozen (p := ⟨u.heap.size, m, none⟩) hNl).trans f1; have hz2 := hb2.size)
          go_roundw
          case rel =>
            refine ⟨m + 1, ns ++ [nv], by go_num, by omega, by rw [List.length_append, HNL.out]; rfl, by rw [HTK.out, List.map_append, ← HNS.out, ← HNV.out]; rfl, by omega, fun n hn => ?_, (Below.step hbr hb2).setCell (by show u.heap.size ≤ u.heap.size; omega) _, ?_⟩
            · rcases List.mem_append.1 hn with h | h
              · exact HPOS.out n h
              · simp only [List.mem_singleton] at h
                omega
            · have := (HH.out.below hb2).set_at m (.int .i64 nv)
              rw [← HNL.out, nArr_snoc ns nv (by rw [HNL.out]; exact hx3), HNL.out] at this
              exact this
          case measure => simp [intOf]; omega
        · have hq := HBAD.out hx
          have HQ := Lib.hid hq
          have hm4 : numV x < 0 ∨ (0 ≤ numV x ∧ m = 3) := by omega
          clear hq hx hns hpos hnl hH
          rcases hm4 with h1 | ⟨h1, rfl⟩
          all_goals
            go_wp2_with (go_at_call 63; (with_reducible refine (NB.go _).mono ?_); rintro e v2 ⟨rfl, hb2⟩)
            go_returns
            exact LayR.no HO.out hB (Below.step (Below.step hbu hbr) hb2) HQ.out
      · obtain rfl : m = rest.length := by omega
        rw [List.take_length] at hns
        have hok : rest.length ≤ 3 ∧ ∀ w ∈ rest, 0 ≤ numV w := ⟨hm3, fun w hw => hpos _ (by rw [hns]; exact List.mem_map.2 ⟨w, hw, rfl⟩)⟩
        have hq := HG.out hok
        rw [← hns] at hq
        have hbw : Below w.heap.size w wr := Below.step hbu hbr
        have c0 : wr.cell? ⟨g, 0, none⟩ = some (.string ⟨w0.toArray⟩) := (hbr.cell (p := ⟨g, 0, none⟩) hgr).trans (HCE.out 0 (by simp))
        have HOr := Lib.hid (HO.out.below hbw)
        have hBr : B ≤ wr.heap.size := Nat.le_trans hB hbw.size
        have HNo := Lib.hid (fun w' (h : Below wr.heap.size wr w') h2 => LayR.no HO.out hB (Below.step hbw h) (h2 : addQ (L.map (·.1)) l = none))
        clear hok hns hpos hbr HG HB HCE S
        by_cases hf : w0 = funcW
        · subst hf
          rw [lineC_head rfl] at hq
          rw [show (⟨funcW.toArray⟩ : ByteArray) = ⟨#[102, 117, 110, 99]⟩ from rfl] at c0
          have hH2 : Held wr u.heap.size 3 #[.int .i64 (ns.getD 0 0), .int .i64 (ns.getD 1 0), .int .i64 (ns.getD 2 0)] := hH
          rw [hnl] at hq
          have HQ := Lib.hid hq
          have n0 := hH2.cell 0
          have n1 := hH2.cell 1
          have n2 := hH2.cell 2
          simp at n0 n1 n2
          generalize ns.getD 0 0 = xa at *
          generalize ns.getD 1 0 = xb at *
          generalize ns.getD 2 0 = xc at *
          have HX := Lib.hid hH2
          have C0 := Lib.hid c0
          clear hq hH hH2
          go_upto_region 12 with (fail)
          clear n0 n1 n2 c0
          go_region_held3 (fun W => Below wr.heap.size wr W ∧ W.cell? ⟨u.heap.size, 0, none⟩ = some (.int .i64 xa) ∧ W.cell? ⟨u.heap.size, 1, none⟩ = some (.int .i64 xb) ∧ W.cell? ⟨u.heap.size, 2, none⟩ = some (.int .i64 xc) ∧ W.cell? ⟨g, 0, none⟩ = some (.string ⟨#[102, 117, 110, 99]⟩))
            (first
              | exact keepL HX.out C0.out (Below.refl _ _).drew
              | exact keepL HX.out C0.out ((Below.refl _ _).alloc (Nat.le_refl _) _).drew
              | exact keepL HX.out C0.out (Below.step (And.left (by assumption)) (by assumption))
              | exact keepL HX.out C0.out (Below.drew (And.left (by assumption)))
              | exact keepL HX.out C0.out (Below.alloc (And.left (by assumption)) (Below.size (And.left (by assumption))) _)
              | go_keep)
            (fail)
          have hF : Held (wr.alloc (.cells #[.int .i64 xa, .int .i64 xb, .int .i64 xc, .slice none 0 0] 89)).drew wr.heap.size 89 #[.int .i64 xa, .int .i64 xb, .int .i64 xc, .slice none 0 0] := held_drew (Held.new wr _ _)
          have hbx : Below wr.heap.size wr (wr.alloc (.cells #[.int .i64 xa, .int .i64 xb, .int .i64 xc, .slice none 0 0] 89)).drew := ((Below.refl wr.heap.size wr).alloc (Nat.le_refl _) _).drew
          generalize (wr.alloc (.cells #[.int .i64 xa, .int .i64 xb, .int .i64 xc, .slice none 0 0] 89)).drew = wc at *
          have f0 := hF.cell 0
          have f1 := hF.cell 1
          have f2 := hF.cell 2
          have f3 := hF.cell 3
          have fl := hF.lt
          simp at f0 f1 f2 f3
          have HOx := Lib.hid (HOr.out.below hbx)
          have hwx := hbw.trans (hbx.mono hbw.size)
          have CH := phead_any xa xb xc (.slice none 0 0)
          by_cases h3 : rest.length = 3
          · have e1 : (((rest.length + 1 : Nat) : Int) != 4) = false := by simp; omega
            have e2 : ((rest.length : Int) + 1 != 4) = false := by simp; omega
            have hq := HQ.out
            clear HQ
            cases hhd : headB xa xb xc with
            | false =>
              rw [hhd] at CH hq
              rw [if_neg (fun h => by cases h.2)] at hq
              have HQ2 := Lib.hid hq
              clear hq hnl h3 hhd
              go_wp2_with (go_at_call 64; (with_reducible refine (CH.go _).mono ?_); rintro e v3 ⟨rfl, hb3⟩)
              go_returns
              exact HNo.out _ (Below.step hbx hb3) HQ2.out
            | true =>
              rw [hhd] at CH hq
              rw [if_pos ⟨h3, rfl⟩] at hq
              have hq : addQ (L.map (·.1)) l = layH (L.map (·.1)) xa xb xc := hq
              clear hnl h3 hhd
              have hBc := Nat.le_trans hBr hbx.size
              rcases own_split L with rfl | ⟨L0, ⟨f, cf⟩, rfl⟩
              · have h0 := HNL0.out
                simp only [List.length_nil] at h0
                subst h0
                have hq2 : addQ (([] : List (Fun × Value)).map (·.1)) l = some [⟨xa, xb, xc, []⟩] := by rw [hq]; rfl
                have HQ2 := Lib.hid hq2
                clear hq hq2
                go_wp2_with (first
                  | (go_at_call 64; (with_reducible refine (CH.go _).mono ?_); rintro e v3 ⟨rfl, hb3⟩; have y0 := (hb3.cell (p := ⟨wr.heap.size, 0, none⟩) fl).trans f0; have y1 := (hb3.cell (p := ⟨wr.heap.size, 1, none⟩) fl).trans f1; have y2 := (hb3.cell (p := ⟨wr.heap.size, 2, none⟩) fl).trans f2; have y3 := (hb3.cell (p := ⟨wr.heap.size, 3, none⟩) fl).trans f3; have HO3 := Lib.hid (HOx.out.below hb3); have hB3 := Nat.le_trans hBc hb3.size)
                  | (at_builtin; refine wpList_append_fun2 _ Tryd.underlying23 rfl _ _ rfl B _ _ [] ⟨xa, xb, xc, []⟩ (.slice none 0 0) rfl rfl HO3.out (OwnC.nil _ _) (fun _ _ _ _ => by simp [Value.ownBlock]) (by show Value.slice (some ⟨_, 0, none⟩) 1 1 = _; simp) (by simp) hB3 ?_; intro v' w2 ho2 hg2; have HF2 := Lib.hid (And.intro ho2 hg2); clear ho2 hg2))
                go_returns
                refine ⟨_, true, _, rfl, ((hwx.mono hB).trans (hb3.mono hBc)).trans ((Below.refl B v3).grown HF2.out.2 hB3 (fun b e => (HO3.out.1.lt b e).1)), HF2.out.1, fun q h => ?_, fun h => ?_⟩
                · rw [HQ2.out] at h
                  cases h
                  exact ⟨rfl, rfl⟩
                · rw [HQ2.out] at h
                  cases h
              · have h0 := HNL0.out
                rw [List.length_append, List.length_singleton] at h0
                subst h0
                rw [List.map_append] at hq
                have hq : addQ ((L0 ++ [(f, cf)]).map (·.1)) l = layH (L0.map (·.1) ++ [f]) xa xb xc := by rw [List.map_append]; exact hq
                obtain ⟨gp, cap, e, _⟩ := HOx.out.last
                obtain ⟨rfl, _, rfl⟩ := slice_inj e
                have hoc : OwnC wc B cf f.code := HOx.out.2.1 (f, cf) (by simp)
                obtain ⟨Ac, cc, rfl, _⟩ := hoc.code
                have eL : ((L0.length + 1 : Nat) : Int) - 1 = (L0.length : Int) := by omega
                rw [eL]
                obtain ⟨_, _, e3, _, hgl, _, _, _, k3, _⟩ := HOx.out.last
                obtain ⟨e3, _, _⟩ := slice_inj e3
                cases e3
                clear e eL hoc
                have hlm := hn
                by_cases hc0 : f.code = []
                · have hq2 : addQ ((L0 ++ [(f, Value.slice Ac f.code.length cc)]).map (·.1)) l = none := by
                    rw [hq]
                    exact layH_no (.inl (by rw [openR_snoc, hc0]; rfl))
                  have HQ2 := Lib.hid hq2
                  have hz : (f.code.length : Int) = 0 := by rw [hc0]; rfl
                  have hz2 : ((f.code.length : Int) == 0) = true := by simp [hz]
                  clear hq hq2 hc0 hz
                  go_wp2_with (go_at_call 64; (with_reducible refine (CH.go _).mono ?_); rintro e v3 ⟨rfl, hb3⟩; have k4 := (hb3.cell (p := ⟨gp, L0.length * 4 + 3, none⟩) hgl).trans k3; have hg4 := block_lt_of_cell k4)
                  go_returns
                  exact HNo.out _ (Below.step hbx hb3) HQ2.out
                · have hz : 0 < f.code.length := by
                    rcases Nat.eq_zero_or_pos f.code.length with h | h
                    · exact absurd (List.eq_nil_of_length_eq_zero h) hc0
                    · exact h
                  have hz2 : ((f.code.length : Int) == 0) = false := by simp; omega
                  by_cases h16 : L0.length + 1 = 16
                  · have hq2 : addQ ((L0 ++ [(f, Value.slice Ac f.code.length cc)]).map (·.1)) l = none := by
                      rw [hq]
                      exact layH_no (.inr (by rw [List.length_append, List.length_map]; exact h16))
                    have HQ2 := Lib.hid hq2
                    have hz3 : (((L0.length + 1 : Nat) : Int) == 16) = true := by simp; omega
                    have hz4 : ((L0.length : Int) + 1 == 16) = true := by simp; omega
                    clear hq hq2 hc0 hz h16
                    go_wp2_with (go_at_call 64; (with_reducible refine (CH.go _).mono ?_); rintro e v3 ⟨rfl, hb3⟩; have k4 := (hb3.cell (p := ⟨gp, L0.length * 4 + 3, none⟩) hgl).trans k3; have hg4 := block_lt_of_cell k4)
                    go_returns
                    exact HNo.out _ (Below.step hbx hb3) HQ2.out
                  · have hq2 : addQ ((L0 ++ [(f, Value.slice Ac f.code.length cc)]).map (·.1)) l = some ((L0.map (·.1) ++ [f]) ++ [⟨xa, xb, xc, []⟩]) := by
                      rw [hq]
                      unfold layH
                      rw [if_pos ⟨by rw [openR_snoc]; simpa using hc0, by rw [List.length_append, List.length_map]; exact h16⟩]
                    have HQ2 := Lib.hid hq2
                    have hz3 : (((L0.length + 1 : Nat) : Int) == 16) = false := by simp; omega
                    have hz4 : ((L0.length : Int) + 1 == 16) = false := by simp; omega
                    clear hq hq2 hc0 hz h16
                    go_wp2_with (first
                      | (go_at_call 64; (with_reducible refine (CH.go _).mono ?_); rintro e v3 ⟨rfl, hb3⟩; have k4 := (hb3.cell (p := ⟨gp, L0.length * 4 + 3, none⟩) hgl).trans k3; have hg4 := block_lt_of_cell k4; have y0 := (hb3.cell (p := ⟨wr.heap.size, 0, none⟩) fl).trans f0; have y1 := (hb3.cell (p := ⟨wr.heap.size, 1, none⟩) fl).trans f1; have y2 := (hb3.cell (p := ⟨wr.heap.size, 2, none⟩) fl).trans f2; have y3 := (hb3.cell (p := ⟨wr.heap.size, 3, none⟩) fl).trans f3; have HO3 := Lib.hid (HOx.out.below hb3); have hB3 := Nat.le_trans hBc hb3.size)
                      | (at_builtin; refine wpList_append_fun2 _ Tryd.underlying23 rfl _ _ rfl B _ _ (L0 ++ [(f, Value.slice Ac f.code.length cc)]) ⟨xa, xb, xc, []⟩ (.slice none 0 0) rfl rfl HO3.out (OwnC.nil _ _) (fun _ _ _ _ => by simp [Value.ownBlock]) (by show Value.slice (some ⟨_, 0, none⟩) 1 1 = _; simp) (by rw [List.length_append, List.length_singleton]; omega) hB3 ?_; intro v' w2 ho2 hg2; have HF2 := Lib.hid (And.intro ho2 hg2); clear ho2 hg2))
                    go_returns
                    refine ⟨_, true, _, rfl, ((hwx.mono hB).trans (hb3.mono hBc)).trans ((Below.refl B v3).grown HF2.out.2 hB3 (fun b e => (HO3.out.1.lt b e).1)), HF2.out.1, fun q h => ?_, fun h => ?_⟩
                    · rw [HQ2.out] at h
                      cases h
                      exact ⟨rfl, by simp⟩
                    · rw [HQ2.out] at h
                      cases h
          · have e1 : (((rest.length + 1 : Nat) : Int) != 4) = true := by simp; omega
            have e2 : ((rest.length : Int) + 1 != 4) = true := by simp; omega
            have hq := HQ.out
            rw [if_neg (fun h => h3 h.1)] at hq
            have HQ2 := Lib.hid hq
            clear hq HQ hnl h3
            go_wp2_with fail
            go_returns
            exact HNo.out _ hbx HQ2.out
        · rw [lineC_ins hf] at hq
          have hne : (w0 == [102, 117, 110, 99]) = false := by simpa [funcW] using hf
          have hH2 : Held wr u.heap.size 3 #[.int .i64 (ns.getD 0 0), .int .i64 (ns.getD 1 0), .int .i64 (ns.getD 2 0)] := hH
          have RF := rfind_any ⟨w0.toArray⟩
          have RM := rmay_any (rfnd ⟨w0.toArray⟩) (ns.getD 0 0) (ns.getD 1 0)
          have RX := rfields_any (rfnd ⟨w0.toArray⟩)
          rw [hnl] at hq
          have HQ := Lib.hid hq
          have HX := Lib.hid hH2
          have n0 := hH2.cell 0
          have n1 := hH2.cell 1
          have n2 := hH2.cell 2
          simp at n0 n1 n2
          generalize rfnd ⟨w0.toArray⟩ = o at *
          generalize ns.getD 0 0 = xa at *
          generalize ns.getD 1 0 = xb at *
          generalize ns.getD 2 0 = xc at *
          have C0 := Lib.hid c0
          clear hq hH hH2 hf
          go_upto_region 16 with (fail)
          clear n0 n1 n2 c0
          go_cut [12] (fun v12 wx => MidI wr o xa xb v12 wx)
          case first =>
            go_region_held3 (fun W => Below wr.heap.size wr W ∧ W.cell? ⟨u.heap.size, 0, none⟩ = some (.int .i64 xa) ∧ W.cell? ⟨u.heap.size, 1, none⟩ = some (.int .i64 xb) ∧ W.cell? ⟨u.heap.size, 2, none⟩ = some (.int .i64 xc) ∧ W.cell? ⟨g, 0, none⟩ = some (.string ⟨w0.toArray⟩))
              (first
                | exact keepL HX.out C0.out (Below.refl _ _).drew
                | exact keepL HX.out C0.out (Below.step (And.left (by assumption)) (by assumption))
                | exact keepL HX.out C0.out (Below.drew (And.left (by assumption)))
                | exact keepL HX.out C0.out (Below.alloc (And.left (by assumption)) (Below.size (And.left (by assumption))) _)
                | exact keepL HX.out C0.out (below_set3 (And.left (by assumption)) (by first | omega | (simp; omega)))
                | exact keepL HX.out C0.out (below_set3 (Below.drew (And.left (by assumption))) (by first | omega | (simp; omega)))
                | go_keep)
              (first
                | (go_at_call 65; (with_reducible refine (RF.go _).mono ?_); rintro e v2 ⟨rfl, hb⟩; have hq := keepL HX.out C0.out (Below.step (Below.refl _ _).drew hb); have hz := hq.1.size)
                | (go_at_call 65; (with_reducible refine (RF.go _).mono ?_); rintro e v2 ⟨rfl, hb⟩; have hq := keepL HX.out C0.out (Below.step (And.left (by assumption)) hb); have hz := hq.1.size
                   (try (first | replace n3 := n3.below hb | replace n3 := (n3.alloc _).below hb); try (obtain ⟨_, _, _, _, _, _⟩ := n3.three; have := n3.lt; have := Nat.ne_of_lt n3.lt))
                   (first
                     | (have n3 := (held_drew (Held.new _ _ _)).below hb; obtain ⟨_, _, _, _, _, _⟩ := n3.three; have := n3.lt; have := Nat.ne_of_lt n3.lt)
                     | (have n3 := (Held.new _ _ _).below hb; obtain ⟨_, _, _, _, _, _⟩ := n3.three; have := n3.lt; have := Nat.ne_of_lt n3.lt)
                     | skip)))
            all_goals
              go_wp2_with fail
              go_meet
              case rel =>
                refine ⟨_, rfl, ?_, ?_, ?_, And.left (by assumption)⟩
                all_goals first | (simp [go_sem]; done) | (simp [go_sem, *]; done)
          case rest =>
            obtain ⟨k, rfl, x0, x1, x2, hbx⟩ := hcut
            have xl := block_lt_of_cell x0
            simp at xl
            have hf2 : 0 ≤ (rz o).f ∧ (rz o).f ≤ 2 := by
              rcases okZ_cases o with ⟨j, hj, e⟩ | h
              · rw [e, rz_in hj]
                have := row_ok j hj
                omega
              · rw [rz_out h]
                decide
            generalize (rz o).f = ff at *
            have HOx := Lib.hid (HOr.out.below hbx)
            have hwx := hbw.trans (hbx.mono hbw.size)
            cases hm : mayZ o xa xb with
            | false =>
              rw [hm] at RM HQ
              have hq := HQ.out
              rw [if_neg (fun h => by cases h.1)] at hq
              have HQ2 := Lib.hid hq
              clear hq HQ
              go_wp2_with (go_at_call 66; (with_reducible refine (RM.go _).mono ?_); rintro e v3 ⟨rfl, hb3⟩)
              go_returns
              exact HNo.out _ (Below.step hbx hb3) HQ2.out
            | true =>
              rw [hm] at RM HQ
              by_cases hlf : (rest.length : Int) = ff
              · have hq := HQ.out
                rw [if_pos ⟨rfl, hlf⟩] at hq
                have hq : addQ (L.map (·.1)) l = layI (L.map (·.1)) o xa xb := hq
                have e1 : (((rest.length + 1 : Nat) : Int) != 1 + ff) = false := by simp; omega
                have e2 : ((rest.length : Int) + 1 != 1 + ff) = false := by simp; omega
                clear HQ hlf hnl
                rcases own_split L with rfl | ⟨L0, ⟨f, cf⟩, rfl⟩
                · have h0 := HNL0.out
                  simp only [List.length_nil] at h0
                  subst h0
                  have HQ2 := Lib.hid (show addQ (([] : List (Fun × Value)).map (·.1)) l = none from hq)
                  clear hq
                  go_wp2_with (first
                    | (go_at_call 66; (with_reducible refine (RM.go _).mono ?_); rintro e v3 ⟨rfl, hb3⟩; have y0 := (hb3.cell (p := ⟨k, 0, none⟩) xl).trans x0)
                    | (go_at_call 67; (with_reducible refine (RX.go _).mono ?_); rintro e v4 ⟨rfl, rfl⟩))
                  go_returns
                  exact HNo.out _ (Below.step hbx hb3) HQ2.out
                · have h0 := HNL0.out
                  rw [List.length_append, List.length_singleton] at h0
                  subst h0
                  rw [List.map_append] at hq
                  have hq : addQ ((L0 ++ [(f, cf)]).map (·.1)) l = layI (L0.map (·.1) ++ [f]) o xa xb := by rw [List.map_append]; exact hq
                  rw [layI_snoc] at hq
                  have hfl := HC.out (f, cf) (by simp)
                  simp only at hfl
                  obtain ⟨gp, cap, e, _⟩ := HOx.out.last
                  obtain ⟨rfl, _, rfl⟩ := slice_inj e
                  have hoc : OwnC wc B cf f.code := HOx.out.2.1 (f, cf) (by simp)
                  obtain ⟨Ac, cc, rfl, _⟩ := hoc.code
                  have hm16 : L0.length ≤ 16 := by omega
                  have eL : ((L0.length + 1 : Nat) : Int) - 1 = (L0.length : Int) := by omega
                  rw [eL]
                  obtain ⟨_, _, e3, _, hgl, k0, k1, k2, k3, kf⟩ := HOx.out.last
                  obtain ⟨e3, _, _⟩ := slice_inj e3
                  cases e3
                  clear e eL
                  by_cases h200 : f.code.length = 200
                  · rw [if_pos h200] at hq
                    have HQ2 := Lib.hid hq
                    have hq2 : ((f.code.length : Int) == 200) = true := by simp; omega
                    clear hq
                    go_wp2_with (first
                      | (go_at_call 66; (with_reducible refine (RM.go _).mono ?_); rintro e v3 ⟨rfl, hb3⟩; have y0 := (hb3.cell (p := ⟨k, 0, none⟩) xl).trans x0; have k4 := (hb3.cell (p := ⟨gp, L0.length * 4 + 3, none⟩) hgl).trans k3; have hg4 := block_lt_of_cell k4)
                      | (go_at_call 67; (with_reducible refine (RX.go _).mono ?_); rintro e v4 ⟨rfl, rfl⟩))
                    go_returns
                    exact HNo.out _ (Below.step hbx hb3) HQ2.out
                  · rw [if_neg h200] at hq
                    have HQ2 := Lib.hid hq
                    have hq2 : ((f.code.length : Int) == 200) = false := by simp; omega
                    have HOC := Lib.hid hoc
                    clear hq hoc
                    go_wp2_with (first
                      | (go_at_call 66; (with_reducible refine (RM.go _).mono ?_); rintro e v3 ⟨rfl, hb3⟩; have y0 := (hb3.cell (p := ⟨k, 0, none⟩) xl).trans x0; have y1 := (hb3.cell (p := ⟨k, 1, none⟩) xl).trans x1; have y2 := (hb3.cell (p := ⟨k, 2, none⟩) xl).trans x2; have xl3 := block_lt_of_cell y0; have k4 := (hb3.cell (p := ⟨gp, L0.length * 4 + 3, none⟩) hgl).trans k3; have j0 := (hb3.cell (p := ⟨gp, L0.length * 4, none⟩) hgl).trans k0; have j1 := (hb3.cell (p := ⟨gp, L0.length * 4 + 1, none⟩) hgl).trans k1; have j2 := (hb3.cell (p := ⟨gp, L0.length * 4 + 2, none⟩) hgl).trans k2; have hg4 := block_lt_of_cell k4; have HO3 := Lib.hid (HOx.out.below hb3); have HC3 := Lib.hid (HOC.out.below hb3); have hB3 := Nat.le_trans hBr (Below.step hbx hb3).size)
                      | (go_at_call 67; (with_reducible refine (RX.go _).mono ?_); rintro e v4 ⟨rfl, rfl⟩)
                      | (at_builtin; refine wpList_append_ins rfl _ _ rfl B _ _ f.code (o, xa, xb) rfl rfl (HC3.out.below ((Below.refl _ _).alloc (Nat.le_refl _) _)) (by show Value.slice (some ⟨_, 0, none⟩) 1 1 = _; simp) (by omega) (by simp; omega) ?_; intro v' w2 ho2 hg2 hl2; obtain ⟨A3, c3, rfl, _⟩ := ho2.code; have hrl := fun b e => (HC3.out.lt b e).2; have hFw := (Held.new v3 89 #[.int .i64 f.ar, .int .i64 f.lo, .int .i64 f.sl, .slice Ac f.code.length cc]).grown hg2 (fun e => Nat.lt_irrefl _ (hrl _ e)); have hg3 := grown_trans (grown_of_below ((Below.refl v3.heap.size v3).alloc (Nat.le_refl _) (.cells #[.int .i64 f.ar, .int .i64 f.lo, .int .i64 f.sl, .slice Ac f.code.length cc] 89)) _) hg2; have hl3 : ∀ b, Value.ownBlock (.slice A3 (f.code ++ [(o, xa, xb)]).length c3) = some b → Value.ownBlock (.slice Ac f.code.length cc) = some b ∨ v3.heap.size + 1 ≤ b := (fun b e => (hl2 b e).imp id (fun h => by simpa using h)); obtain ⟨⟨q0, q1, q2, q3, q4, _⟩, _⟩ := own_lay HO3.out hB3 ho2 hg3 (fun b e => (hl3 b e).imp id (fun h => by omega)); have fr0 := q4 (L0.length * 4); have fr1 := q4 (L0.length * 4 + 1); have fr2 := q4 (L0.length * 4 + 2); have fr3 := q4 (L0.length * 4 + 3); have s0 := hFw.cell 0; have s1 := hFw.cell 1; have s2 := hFw.cell 2; have s3 := hFw.cell 3; have s4 := hFw.fz 3; have sl := hFw.lt; have hgn := Nat.ne_of_lt hg4; have FIN := Lib.hid (own_lay HO3.out hB3 (ho2.grown (grown_set1 w2 v3.heap.size 3 (.slice A3 (f.code ++ [(o, xa, xb)]).length c3)) (fun b hb e => by cases e; rcases hl3 _ hb with h | h; exact Nat.lt_irrefl _ (hrl _ h); omega)) (grown_far hg3 (Nat.le_refl _) 3 (.slice A3 (f.code ++ [(o, xa, xb)]).length c3)) (fun b e => (hl3 b e).imp id (fun h => by omega))).2; clear ho2 hg2 hl2 hFw hg3 hl3 q4))
                    have hF := FIN.out
                    rw [show (f.code ++ [(o, xa, xb)]).length = f.code.length + 1 by simp] at hF
                    clear FIN
                    go_returns
                    refine ⟨_, true, _, rfl, ((hwx.mono hB).trans (hb3.mono (Nat.le_trans hBr hbx.size))).trans hF.2, hF.1, fun q h => ?_, fun h => ?_⟩
                    · rw [HQ2.out] at h
                      cases h
                      exact ⟨rfl, by simp⟩
                    · rw [HQ2.out] at h
                      cases h
              · have hq := HQ.out
                rw [if_neg (fun h => hlf h.2)] at hq
                have HQ2 := Lib.hid hq
                have e1 : (((rest.length + 1 : Nat) : Int) != 1 + ff) = true := by simp; omega
                have e2 : ((rest.length : Int) + 1 != 1 + ff) = true := by simp; omega
                clear hq HQ
                go_wp2_with (first
                  | (go_at_call 66; (with_reducible refine (RM.go _).mono ?_); rintro e v3 ⟨rfl, hb3⟩; have y0 := (hb3.cell (p := ⟨k, 0, none⟩) xl).trans x0)
                  | (go_at_call 67; (with_reducible refine (RX.go _).mono ?_); rintro e v4 ⟨rfl, rfl⟩))
                go_returns
                exact HNo.out _ (Below.step hbx hb3) HQ2.out
end Go.Proofs.YtjibkgildfjjoaaDoor

/- Layer 7: the document's Parse at every input. -/
namespace Go.Proofs.YtjibkgildfjjoaaDoor
set_option linter.unusedVariables false
set_option linter.unusedSimpArgs false
open Go.RowKit Go.ChangeShapes Go.WideShapes Go.ChangeAt Go.Sort

theorem word_len {c : UInt8} : ∀ (ws : List (List UInt8)), ∀ w ∈ ws, w.length ≤ (joinC c ws).length
  | [], w, h => by simp at h
  | [x], w, h => by simp at h; subst h; simp [joinC]
  | x :: y :: ws, w, h => by
    have ih := word_len (c := c) (y :: ws)
    rw [joinC, List.length_append, List.length_cons]
    rcases List.mem_cons.1 h with rfl | h
    · omega
    · have := ih w h
      omega
theorem split_len {c : UInt8} {l : List UInt8} : ∀ w ∈ splitL c l, w.length ≤ l.length := fun w h => by
  have := word_len (c := c) _ w h
  rwa [join_split] at this
/-- What comes of a text, when its lines were laid, or one was not. -/
theorem parse_end {l w0 : List UInt8} {rest : List (List UInt8)} (h : splitL 10 l = w0 :: rest) {p : List Fun} (hr : runL [] (w0 :: rest).dropLast = (p, rest.length, true)) :
    parseP l = if (w0 :: rest)[rest.length] = [] ∧ mayP p = true then (p, rest.length, 0) else ([], rest.length, 70) := by
  unfold parseP
  simp only
  rw [h, hr]
  have e : (w0 :: rest).getLast? = some ((w0 :: rest)[rest.length]) := by
    rw [List.getLast?_eq_getElem?, List.getElem?_eq_getElem (by simp)]
    simp
  rw [e]
  simp
theorem parse_stop {l w0 : List UInt8} {rest : List (List UInt8)} (h : splitL 10 l = w0 :: rest) {p : List Fun} {n : Nat} (hr : runL [] (w0 :: rest).dropLast = (p, n, false)) : parseP l = ([], n, 70) := by
  unfold parseP
  simp only
  rw [h, hr]
  simp
theorem drop_last_cons {ws : List (List UInt8)} {k n : Nat} (hn : ws.length = n + 1) (hk : k < n) : ws.dropLast.drop k = (ws[k]'(by omega)) :: ws.dropLast.drop (k + 1) := by
  have hl : k < ws.dropLast.length := by simp; omega
  rw [List.drop_eq_getElem_cons hl, List.getElem_dropLast]

/-- What the document's Parse answers, in memory. -/
def ParQ (w : World) (l : List UInt8) (e : Ending) (w' : World) : Prop :=
  ∃ A c, e = .returned (.tuple #[.slice A (parseP l).1.length c, .int .i64 (parseP l).2.1, .int .i64 (parseP l).2.2]) ∧ ProgAt w' w'.heap.size A (parseP l).1 ∧ Below w.heap.size w w'

set_option maxHeartbeats 4000000 in
set_option maxRecDepth 100000 in
theorem pparse_any (l : List UInt8) (w : World) (hl : l.length ≤ 1000000) :
    Calls Tryd.prog 29 #[.string ⟨l.toArray⟩] w fun e w' => ParQ w l e w' := by
  cases hs : splitL 10 l with
  | nil => exact absurd hs (splitL_ne 10 l)
  | cons w0 rest =>
    have S := Lib.hid (psplit_cells 10 hs hl w)
    rw [show ((10 : UInt8).toNat : Int) = 10 from rfl] at S
    have hwl : ∀ x ∈ w0 :: rest, x.length ≤ 1000000 := fun x hx => by
      have := split_len (c := 10) (l := l) x (by rw [hs]; exact hx)
      omega
    have HWL := Lib.hid hwl
    have HE := Lib.hid (fun (p : List Fun) h => parse_end hs (p := p) h)
    have HS := Lib.hid (fun (p : List Fun) n h => parse_stop hs (p := p) (n := n) h)
    have hlen : rest.length ≤ 1000000 := by
      have h1 := joinC_len 10 (splitL 10 l)
      rw [join_split, hs, List.length_cons] at h1
      omega
    clear hs hwl
    go_enter Tryd.func29, Tryd.ntmps29
    go_wp2_with (go_at_call 44; (with_reducible refine S.out.mono ?_); rintro e u ⟨g, cs, rfl, hg1, hg2, hcell, hbu⟩; have HCE := Lib.hid hcell; clear hcell)
    go_loopw [6, 7] (fun v iv wr => ∃ (k : Nat) (L : List (Fun × Value)), iv = .int .i64 k ∧ k ≤ rest.length ∧ OwnL wr u.heap.size v L ∧ L.length ≤ 16 ∧ (∀ x ∈ L, x.1.code.length ≤ 200) ∧ Below u.heap.size u wr ∧
      runL [] (w0 :: rest).dropLast = ((runL (L.map (·.1)) ((w0 :: rest).dropLast.drop k)).1, k + (runL (L.map (·.1)) ((w0 :: rest).dropLast.drop k)).2.1, (runL (L.map (·.1)) ((w0 :: rest).dropLast.drop k)).2.2)) (fun _ iv _ => rest.length - (intOf iv).toNat)
    case atStart => exact ⟨0, [], rfl, by omega, OwnL.made u, by simp, by simp, (Below.refl _ _).alloc (Nat.le_refl _) _, by simp⟩
    case round =>
      obtain ⟨k, L, rfl, hk, hO, h16, hc, hbr, hrun⟩ := hrel
      obtain ⟨Av, cv, rfl, hp⟩ := hO.prog
      by_cases hlt : k < rest.length
      · have hkk : k < (w0 :: rest).length := by simp; omega
        have c0 : wr.cell? ⟨g, k, none⟩ = some (.string ⟨((w0 :: rest)[k]).toArray⟩) := (hbr.cell (p := ⟨g, k, none⟩) hg2).trans (HCE.out k hkk)
        have hxl := HWL.out _ (List.getElem_mem hkk)
        rw [drop_last_cons (n := rest.length) (by simp) hlt] at hrun
        have hst : ∀ q, addQ (L.map (·.1)) ((w0 :: rest)[k]) = some q → runL [] (w0 :: rest).dropLast = ((runL q ((w0 :: rest).dropLast.drop (k + 1))).1, (k + 1) + (runL q ((w0 :: rest).dropLast.drop (k + 1))).2.1, (runL q ((w0 :: rest).dropLast.drop (k + 1))).2.2) := fun q hq => by
          rw [hrun, runL_some _ hq]
          simp only
          congr 2
          omega
        have hno : addQ (L.map (·.1)) ((w0 :: rest)[k]) = none → parseP l = ([], k, 70) := fun hq => by
          rw [runL_none _ hq] at hrun
          exact HS.out _ _ hrun
        have HST := Lib.hid hst
        have HNO := Lib.hid hno
        have P := play_any (l := (w0 :: rest)[k]) hxl wr hO hbr.size h16 hc
        have hsm := fun q (hq : addQ (L.map (·.1)) ((w0 :: rest)[k]) = some q) => addQ_small hq (by rw [List.length_map]; exact h16) (fun f hf => by
          obtain ⟨x, hx, rfl⟩ := List.mem_map.1 hf
          exact hc x hx)
        have HSM := Lib.hid hsm
        generalize (w0 :: rest)[k] = x at *
        have HP := Lib.hid P
        clear hst hno hrun hp P hsm hO hc hxl
        cases hq : addQ (L.map (·.1)) x with
        | none =>
          have HQ := Lib.hid hq
          have hpe := HNO.out hq
          clear hq
          go_wp2_with (go_at_call 45; (with_reducible refine HP.out.mono ?_); rintro e u2 ⟨v2, b, L2, rfl, hb2, ho2, _, hn2⟩; obtain rfl := hn2 HQ.out; obtain ⟨A2, c2, rfl, _⟩ := ho2.prog; have HPE := Lib.hid hpe; clear hn2 ho2 hpe)
          go_returns
          unfold ParQ
          rw [HPE.out]
          exact ⟨none, 0, rfl, ProgAt.nil _ _ _, Below.step hbu (hbr.trans hb2)⟩
        | some q =>
          have HQ := Lib.hid hq
          clear hq
          go_wp2_with (go_at_call 45; (with_reducible refine HP.out.mono ?_); rintro e u2 ⟨v2, b, L2, rfl, hb2, ho2, hs2, _⟩; obtain ⟨rfl, hm2⟩ := hs2 q HQ.out; obtain ⟨A2, c2, rfl, _⟩ := ho2.prog; have HO2 := Lib.hid ho2; have HM2 := Lib.hid hm2; clear hs2 ho2 hm2)
          go_round
          case rel =>
            obtain ⟨s1, s2⟩ := HSM.out q HQ.out
            rw [← HM2.out] at s1 s2
            refine ⟨k + 1, L2, by go_num, by omega, HO2.out, by rwa [List.length_map] at s1, fun y hy => s2 y.1 (List.mem_map.2 ⟨y, hy, rfl⟩), hbr.trans hb2, ?_⟩
            rw [HM2.out]
            exact HST.out q HQ.out
          case measure => simp [intOf]; omega
      · obtain rfl : k = rest.length := by omega
        rw [List.drop_of_length_le (by simp), runL_nil] at hrun
        have hpe := HE.out _ hrun
        have c0 : wr.cell? ⟨g, rest.length, none⟩ = some (.string ⟨((w0 :: rest)[rest.length]).toArray⟩) := (hbr.cell (p := ⟨g, rest.length, none⟩) hg2).trans (HCE.out rest.length (by simp))
        generalize (w0 :: rest)[rest.length] = x at *
        have hpl : (L.map (·.1)).length = L.length := List.length_map _
        have hsz : SizedP (L.map (·.1)) := ⟨by rw [hpl]; unfold maxLen; omega, fun f hf => by
          obtain ⟨y, hy, rfl⟩ := List.mem_map.1 hf
          have := hc y hy
          unfold maxLen
          omega⟩
        have PM := pmay_any cv wr hp hsz (Nat.le_refl _)
        rw [hpl] at PM
        have HP := Lib.hid hp
        have HPL := Lib.hid hpl
        have hwb := Below.step hbu hbr
        clear hrun hp hsz hpl hO hc
        by_cases hx : x = []
        · subst hx
          cases hm : mayP (L.map (·.1)) with
          | true =>
            rw [hm] at PM
            rw [if_pos ⟨rfl, hm⟩] at hpe
            have HPE := Lib.hid hpe
            clear hpe hm
            go_wp2_with (go_at_call 46; (with_reducible refine PM.mono ?_); rintro e u2 ⟨rfl, hb2⟩)
            go_returns
            unfold ParQ
            rw [HPE.out]
            exact ⟨Av, cv, by rw [HPL.out]; rfl, (HP.out.below hb2 (Nat.le_refl _)).more hb2.size, Below.step hwb hb2⟩
          | false =>
            rw [hm] at PM
            rw [if_neg (fun h => by rw [hm] at h; cases h.2)] at hpe
            have HPE := Lib.hid hpe
            clear hpe hm
            go_wp2_with (go_at_call 46; (with_reducible refine PM.mono ?_); rintro e u2 ⟨rfl, hb2⟩)
            go_returns
            unfold ParQ
            rw [HPE.out]
            exact ⟨none, 0, rfl, ProgAt.nil _ _ _, Below.step hwb hb2⟩
        · rw [if_neg (fun h => hx h.1)] at hpe
          have HPE := Lib.hid hpe
          have hne : (x == ([] : List UInt8)) = false := by simpa using hx
          clear hpe hx
          go_wp2_with fail
          go_returns
          unfold ParQ
          rw [HPE.out]
          exact ⟨none, 0, rfl, ProgAt.nil _ _ _, hwb⟩
end Go.Proofs.YtjibkgildfjjoaaDoor

/- Layer 13, plain: who is ready in worlds that differ a little; worlds that are not the same. -/
namespace Go.Proofs.YtjibkgildfjjoaaDoor
set_option linter.unusedVariables false
set_option linter.unusedSimpArgs false
open Go.RowKit

theorem curL_noV : curL noV = [] := by simp [curL]
theorem curL_yes {c : V} (h : c ≠ noV) : curL c = [c] := by simp [curL, h]
theorem items_one1 : itemsR (rng1 1) = [] := rfl
/-- The answer reads the first k rings and current ones alone. -/
theorem readyN_cong {rs qs : List Rng} {cs ds : List V} : ∀ k, (∀ j, j < k → rs[j]? = qs[j]?) → (∀ j, j < k → cs[j]? = ds[j]?) → readyN rs cs k = readyN qs ds k
  | 0, _, _ => rfl
  | k + 1, h1, h2 => by
    simp only [readyN]
    rw [readyN_cong k (fun j hj => h1 j (by omega)) (fun j hj => h2 j (by omega)), List.getD_eq_getElem?_getD, List.getD_eq_getElem?_getD, h1 k (by omega), h2 k (by omega), List.getD_eq_getElem?_getD, List.getD_eq_getElem?_getD]
/-- How many are ready, a ring more. -/
theorem readyN_len {rs : List Rng} {cs : List V} {k : Nat} (h : k < rs.length) (h2 : k < cs.length) : (readyN rs cs (k + 1)).length = (readyN rs cs k).length + (itemsR rs[k]).length + (if cs[k] = noV then 0 else 1) := by
  rw [readyN_at h, List.length_append, List.length_append, List.getD_eq_getElem?_getD, List.getElem?_eq_getElem h2, Option.getD_some]
  unfold curL
  split <;> simp <;> omega
/-- A worker more that has nothing. -/
theorem ready_more {w : Wld} (h : w.cur.length = w.rings.length) : readyW { w with rings := w.rings ++ [rng1 1], cur := w.cur ++ [noV] } = readyW w := by
  show readyN (w.rings ++ [rng1 1]) (w.cur ++ [noV]) (w.rings ++ [rng1 1]).length = readyN w.rings w.cur w.rings.length
  rw [List.length_append]
  show readyN (w.rings ++ [rng1 1]) (w.cur ++ [noV]) (w.rings.length + 1) = _
  simp only [readyN]
  rw [readyN_cong (qs := w.rings) (ds := w.cur) w.rings.length (fun j hj => List.getElem?_append_left hj) (fun j hj => List.getElem?_append_left (by omega))]
  rw [List.getD_eq_getElem?_getD, List.getD_eq_getElem?_getD, List.getElem?_append_right (by omega), List.getElem?_append_right (by omega), h, Nat.sub_self]
  simp [curL_noV, items_one1]
/-- Without a worker's current one. -/
theorem readyN_less {rs : List Rng} {cs : List V} {a : Nat} (ha : a < cs.length) (hn : cs[a] ≠ noV) : ∀ k, a < k → ∃ X Y, readyN rs cs k = X ++ cs[a] :: Y ∧ readyN rs (cs.set a noV) k = X ++ Y ∧ X.length = (readyN rs cs a).length
  | 0, h => absurd h (by omega)
  | k + 1, h => by
    by_cases e : a = k
    · subst e
      refine ⟨readyN rs cs a, itemsR (rs.getD a ⟨[], 0, 0, 0⟩), ?_, ?_, rfl⟩
      · simp only [readyN]
        rw [List.getD_eq_getElem?_getD (l := cs), List.getElem?_eq_getElem ha, Option.getD_some, curL_yes hn]
        rfl
      · simp only [readyN]
        rw [readyN_cong (qs := rs) (cs := cs.set a noV) (ds := cs) a (fun _ _ => rfl) (fun j hj => List.getElem?_set_ne (by omega)), List.getD_eq_getElem?_getD (l := cs.set a noV), List.getElem?_set_self ha, Option.getD_some, curL_noV, List.nil_append]
    · obtain ⟨X, Y, h1, h2, h3⟩ := readyN_less ha hn k (by omega)
      refine ⟨X, Y ++ (curL (cs.getD k noV) ++ itemsR (rs.getD k ⟨[], 0, 0, 0⟩)), ?_, ?_, h3⟩
      · simp only [readyN]
        rw [h1]
        simp
      · simp only [readyN]
        rw [h2, List.getD_eq_getElem?_getD (l := cs.set a noV), List.getElem?_set_ne e, List.getD_eq_getElem?_getD (l := cs)]
        simp
theorem ready_less {w : Wld} {a : Nat} (h : w.cur.length = w.rings.length) (ha : a < w.cur.length) (hn : w.cur[a] ≠ noV) : ∃ X Y, readyW w = X ++ w.cur[a] :: Y ∧ readyW { w with cur := w.cur.set a noV } = X ++ Y := by
  obtain ⟨X, Y, h1, h2, _⟩ := readyN_less (rs := w.rings) ha hn w.rings.length (by omega)
  exact ⟨X, Y, h1, h2⟩
/-- As a loop compares two lists, one with an element more: ahead of it they are the same, behind it the longer one lags. -/
theorem one_more {X Y : List V} {c : V} {i : Nat} : (i < X.length → (X ++ c :: Y)[i]? = (X ++ Y)[i]?) ∧ (X.length < i → (X ++ c :: Y)[i]? = (X ++ Y)[i - 1]?) := by
  constructor
  · intro h
    rw [List.getElem?_append_left h, List.getElem?_append_left h]
  · intro h
    rw [List.getElem?_append_right (by omega), List.getElem?_append_right (by omega), show i - X.length = (i - 1 - X.length) + 1 by omega, List.getElem?_cons_succ]
/-- Worlds that are not the same. -/
theorem not_used {w : Wld} {n : Int} (h : n ≠ w.used) : sameW w { w with used := n } = false := sameW_no fun e => h (congrArg Wld.used e).symm
theorem not_lr {w : Wld} {n : Int} (h : n ≠ w.lr) : sameW { w with lr := n } w = false := sameW_no fun e => h (congrArg Wld.lr e)
theorem not_cur {w : Wld} {x : V} : sameW w { w with cur := w.cur ++ [x] } = false := sameW_no fun e => by
  have := congrArg List.length (congrArg Wld.cur e)
  simp at this
theorem not_rings {w : Wld} {x : Rng} : sameW { w with rings := w.rings ++ [x] } w = false := sameW_no fun e => by
  have := congrArg List.length (congrArg Wld.rings e)
  simp at this
theorem not_cell {w : Wld} {P : Zp} (h : w.pen ≠ P) : sameW w { w with pen := P } = false := sameW_no fun e => h (congrArg Wld.pen e)
theorem pen_set_ne {P : Zp} {a : Nat} (ha : a < P.cells.length) {x : Cel} (hx : x ≠ P.cells[a]) : P ≠ { P with cells := P.cells.set a x } := fun e => hx (by
  have h := congrArg (fun Q : Zp => Q.cells[a]?) e
  simp only [List.getElem?_set_self ha, List.getElem?_eq_getElem ha, Option.some.injEq] at h
  exact h.symm)
theorem wrap_next_ne (n : Int) : wrap64 (n + 1) ≠ n := by unfold wrap64; omega
end Go.Proofs.YtjibkgildfjjoaaDoor

