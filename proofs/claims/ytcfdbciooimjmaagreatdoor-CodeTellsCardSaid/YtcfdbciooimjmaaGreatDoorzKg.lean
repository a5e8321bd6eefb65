/- Layer 7's code: the decoder's prog; Decode. -/
import Derived.Test.YtcfdbciooimjmaaGreatDoorzKf
import Derived.Test.YtcfdbciooimjmaaGreatDoorzGn
import Derived.Test.YtcfdbciooimjmaaGreatDoorzBc
namespace Go.Proofs.YtcfdbciooimjmaaGreatDoor
set_option linter.unusedVariables false
set_option linter.unusedSimpArgs false
open Go.RowKit Go.ChangeShapes Go.WideShapes Go.ChangeAt Go.Sort

/-- What lies ready while a program is read. -/
structure Gb (w0 w : World) (g : Nat) (s : ByteArray) (i e : Int) (v : Value) (L : List (Fun × Value)) (u : World) : Prop where
  d : Dc u g s i e
  own : OwnL u w.heap.size v L
  lo : Below w0.heap.size w0 u
  gr : w.grownBy u (some g)
  ng : w0.heap.size ≤ g
  gw : g < w.heap.size
theorem Gb.dec {w0 w : World} {g : Nat} {s : ByteArray} {i e : Int} {v : Value} {L : List (Fun × Value)} {u u' : World} (h : Gb w0 w g s i e v L u) {i' e' : Int} (hd : Dc u' g s i' e') (hg : u.grownBy u' (some g)) : Gb w0 w g s i' e' v L u' :=
  ⟨hd, h.own.grown hg (fun b hb => by cases hb; exact h.gw), below_grown h.lo hg h.ng, grown_trans h.gr hg, h.ng, h.gw⟩
theorem Gb.push {w0 w : World} {g : Nat} {s : ByteArray} {i e : Int} {v v' : Value} {L L' : List (Fun × Value)} {u u' : World} (h : Gb w0 w g s i e v L u) (ho : OwnL u' w.heap.size v' L') (hg : u.grownBy u' v.ownBlock) : Gb w0 w g s i e v' L' u' := by
  have h1 := h.gw
  have h2 := h.ng
  have far : ∀ k, k < w.heap.size → v.ownBlock ≠ some k := fun k hk he => by
    have := (h.own.1.lt k he).1
    omega
  refine ⟨held_row h.d hg (far g h1), ho, h.lo.grown hg h.lo.size (fun b hb => by have := (h.own.1.lt b hb).1; omega), ⟨hg.os.trans h.gr.os, hg.tape.trans h.gr.tape, hg.output.trans h.gr.output, Nat.le_trans h.gr.size hg.size, fun k hk hn => ?_⟩, h2, h1⟩
  exact (hg.block k (Nat.lt_of_lt_of_le hk h.gr.size) (Ne.symm (far k hk))).trans (h.gr.block k hk hn)

set_option maxHeartbeats 4000000 in
set_option maxRecDepth 100000 in
theorem dprog_any {g : Nat} {s : ByteArray} {i er : Int} (w0 : World) (hT : TT w0) (h0 : w0.heap.size ≤ g) (w : World) (hw : Below w0.heap.size w0 w) (h : Dc w g s i er) (hs : s.size ≤ 1000000) (hv : Vl s.data.toList i er) :
    Calls Tryz.prog 29 #[.pointer (some ⟨g, 0, none⟩)] w fun x w' => ∃ v L, x = .returned v ∧ L.map (·.1) = (progS s.data.toList i er).1 ∧ Gb w0 w g s (progS s.data.toList i er).2.1 (progS s.data.toList i er).2.2 v L w' := by
  unfold progS
  have N4 := fun W h => Lib.hid (dnum_any 1 16 (g := g) (s := s) (i := i) (er := er) W h hs hv)
  have v4 := (sim_num 1 16).2.1 _ _ _ hv
  have hn := nmS_bd (a := 1) (b := 16) (by omega) (by omega) s.data.toList i er
  generalize nmS 1 16 s.data.toList i er = x4 at *
  obtain ⟨nn, i4, e4⟩ := x4
  simp only at *
  obtain ⟨n, rfl⟩ := Int.eq_ofNat_of_zero_le hn.1
  rw [Int.toNat_natCast]
  have hn2 : n ≤ 16 := by omega
  have hV := fun k => (sim_many sim_fun k).2.1 _ _ _ v4
  have HV := Lib.hid hV
  have HL := Lib.hid (fun k => itS_len funS s.data.toList i4 e4 k)
  have hG0 : ∀ u1, Dc u1 g s i4 e4 → w.grownBy u1 (some g) → Gb w0 w g s i4 e4 (.slice none 0 0) [] u1 := fun u1 hd hg => ⟨hd, OwnL.nil _ _, below_grown hw hg h0, hg, h0, h.lt⟩
  have HG0 := Lib.hid hG0
  have HH := Lib.hid h
  have HT := Lib.hid hT
  clear v4 hV hG0 h hT hv hw hn
  go_enter Tryz.func29, Tryz.ntmps29
  go_wp2_with (go_at_call 61; (with_reducible refine (N4 _ HH.out).out.mono ?_); rintro x u1 ⟨rfl, hd1, hg1⟩; have GB := Lib.hid (HG0.out u1 hd1 hg1); clear hd1 hg1)
  go_loopw [3, 6] (fun p j W => ∃ k L, k ≤ n ∧ j = .int .i64 ((k : Nat) : Int) ∧ L.map (·.1) = (itS funS s.data.toList i4 e4 k).1 ∧ Gb w0 w g s (itS funS s.data.toList i4 e4 k).2.1 (itS funS s.data.toList i4 e4 k).2.2 p L W) (fun _ j _ => n - (intOf j).toNat)
  case atStart => exact ⟨0, [], by omega, rfl, rfl, GB.out⟩
  case round =>
    clear GB
    obtain ⟨k, L, hk, rfl, hm, GB⟩ := hrel
    have hlk := HL.out k
    by_cases hlt : k < n
    · have hvk := HV.out k
      have hst : itS funS s.data.toList i4 e4 (k + 1) = ((itS funS s.data.toList i4 e4 k).1 ++ [(funS s.data.toList (itS funS s.data.toList i4 e4 k).2.1 (itS funS s.data.toList i4 e4 k).2.2).1], (funS s.data.toList (itS funS s.data.toList i4 e4 k).2.1 (itS funS s.data.toList i4 e4 k).2.2).2) := rfl
      have HST := Lib.hid hst
      clear hst
      obtain ⟨c, j, ej, hq⟩ : ∃ c j ej, itS funS s.data.toList i4 e4 k = (c, j, ej) := ⟨_, _, _, rfl⟩
      rw [hq] at GB hvk hlk HST hm
      clear hq
      simp only at hlk hm
      have CI := Lib.hid (dfun_any w0 HT.out GB.ng _ GB.lo GB.d hs hvk)
      simp only at CI
      obtain ⟨f, j2, e2, hy⟩ : ∃ f j2 e2, funS s.data.toList j ej = (f, j2, e2) := ⟨_, _, _, rfl⟩
      rw [hy] at CI HST
      clear hy
      have HLL : Hid (L.length = k) := Lib.hid (by rw [← hlk, ← hm, List.length_map])
      have hBz := GB.gr.size
      obtain ⟨Ap, cp, hpe, _⟩ := GB.own.prog
      subst hpe
      have GB := Lib.hid GB
      have HM := Lib.hid hm
      clear hm hvk hlk
      go_wp2_with (first
        | (go_at_call 62; (with_reducible refine CI.out.mono ?_); rintro x u ⟨vc, rfl, hoc, hd, hg⟩; have GB2 := Lib.hid (GB.out.dec hd hg); have hzu := hg.size; obtain ⟨Ac, cc, rfl, _⟩ := hoc.code; clear hd)
        | (at_builtin; refine wpList_append_fun2 _ Tryz.underlying23 rfl _ _ rfl w.heap.size u _ L f (.slice Ac f.code.length cc) rfl rfl GB2.out.own (hoc.mono hBz) (codes_apart GB.out.own hoc) rfl (by rw [HLL.out]; omega) (by omega) ?_; intro v' w2 ho2 hg2; have GB3 := Lib.hid (GB2.out.push ho2 hg2); clear ho2 hg2))
      go_roundw
      case rel => exact ⟨k + 1, L ++ [(f, .slice Ac f.code.length cc)], by omega, by go_num, by rw [HST.out, List.map_append, HM.out]; rfl, by rw [HST.out]; exact GB3.out⟩
      case measure => simp [intOf]; omega
    · obtain rfl : k = n := by omega
      have HM := Lib.hid hm
      have GB := Lib.hid GB
      clear hm
      go_wp2_with fail
      go_ret
      exact ⟨_, L, rfl, HM.out, GB.out⟩

set_option maxHeartbeats 2000000 in
set_option maxRecDepth 100000 in
theorem cdec_any (l : List UInt8) (w : World) (hT : TT w) (hs : l.length ≤ 1000000) :
    Calls Tryz.prog 13 #[.string ⟨l.toArray⟩] w fun e w' => ∃ A c, e = .returned (.tuple #[.slice A (decP l).1.length c, .int .i64 (decP l).2]) ∧ ProgAt w' w'.heap.size A (decP l).1 ∧ Below w.heap.size w w' := by
  have hsz : (⟨l.toArray⟩ : ByteArray).size ≤ 1000000 := by rw [strb_size]; exact hs
  have hls : ((⟨l.toArray⟩ : ByteArray).size : Int) = l.length := by rw [strb_size]
  have hd := dec_sim l
  have P := Lib.hid (dprog_any (g := w.heap.size) (s := ⟨l.toArray⟩) (i := 0) (er := 0) w hT (Nat.le_refl _) (w.alloc (.cells #[.string ⟨l.toArray⟩, .int .i64 0, .int .i64 0] 50)) ((Below.refl _ _).alloc (Nat.le_refl _) _) (Held.new _ _ _) hsz (fun _ => ⟨by omega, by omega⟩))
  have he : (⟨l.toArray⟩ : ByteArray).data.toList = l := by simp
  rw [he] at P
  obtain ⟨p, j, e, hq⟩ : ∃ p j e, progS l 0 0 = (p, j, e) := ⟨_, _, _, rfl⟩
  rw [hq] at P hd
  simp only at P hd
  rw [← hls] at hd
  have HD := Lib.hid hd
  clear hd hq he hls
  obtain ⟨t, ht⟩ : ∃ t : Bool, t = decide (j = ((⟨l.toArray⟩ : ByteArray).size : Int)) := ⟨_, rfl⟩
  have hbq : (j == ((⟨l.toArray⟩ : ByteArray).size : Int)) = t := by rw [ht]; rw [Bool.eq_iff_iff]; simp
  generalize (⟨l.toArray⟩ : ByteArray) = s at *
  rw [← ht] at HD
  clear ht
  by_cases hz : wE t 72 e ≠ 0
  · have hfin : decP l = ([], wE t 72 e) := by rw [HD.out, if_pos hz]
    rw [hfin]
    have h1 : (wE t 72 e != 0) = true := by simpa using hz
    clear hfin HD hz hT
    go_enter Tryz.func13, Tryz.ntmps13
    go_wp2_with (first
      | (go_at_call 29; (with_reducible refine P.out.mono ?_); rintro x u ⟨v, L, rfl, hm, GB⟩; obtain ⟨A, c, rfl, hpr⟩ := GB.own.prog; have c1 := GB.d.cell 1; have hgl := GB.d.lt; simp at c1; have GB := Lib.hid GB)
      | (go_at_call 30; (try rw [hbq]); (refine (want_any t 72 _ GB.out.d).mono ?_); rintro x u2 ⟨rfl, hd2, hg2⟩; have c2 := hd2.cell 2; have hgl2 := hd2.lt; simp at c2; have GB2 := Lib.hid (GB.out.dec hd2 hg2); clear hd2 hg2))
    have hbw := GB2.out.lo
    have hszw := hbw.size
    go_region
    all_goals (try go_wp2_with fail)
    all_goals go_returns
    all_goals exact ⟨none, 0, rfl, ProgAt.nil _ _ _, by go_grown⟩
  · have hz0 : wE t 72 e = 0 := by omega
    have hfin : decP l = (p, 0) := by rw [HD.out, if_neg hz, hz0]
    rw [hfin]
    have h1 : (wE t 72 e != 0) = false := by simpa using hz0
    clear hfin HD hz hT
    go_enter Tryz.func13, Tryz.ntmps13
    go_wp2_with (first
      | (go_at_call 29; (with_reducible refine P.out.mono ?_); rintro x u ⟨v, L, rfl, hm, GB⟩; obtain ⟨A, c, rfl, hpr⟩ := GB.own.prog; have c1 := GB.d.cell 1; have hgl := GB.d.lt; simp at c1; have GB := Lib.hid GB)
      | (go_at_call 30; (try rw [hbq]); (refine (want_any t 72 _ GB.out.d).mono ?_); rintro x u2 ⟨rfl, hd2, hg2⟩; have c2 := hd2.cell 2; have hgl2 := hd2.lt; simp at c2; have GB2 := Lib.hid (GB.out.dec hd2 hg2); clear hd2 hg2))
    have hbw := GB2.out.lo
    obtain ⟨A', c', hv', hpr'⟩ := GB2.out.own.prog
    obtain ⟨rfl, _, rfl⟩ : A = A' ∧ L.length = L.length ∧ c = c' := by simpa using hv'
    have hml : L.length = p.length := by rw [← hm, List.length_map]
    rw [hm] at hpr'
    have HPR := Lib.hid hpr'
    have HML := Lib.hid hml
    clear hpr hpr' hv' hm hml
    go_wp2_with fail
    go_returns
    first
      | exact ⟨A, ⟨c, by rw [← HML.out]; rfl⟩, HPR.out, hbw⟩
      | exact ⟨A, c, by rw [← HML.out]; rfl, HPR.out, hbw⟩
end Go.Proofs.YtcfdbciooimjmaaGreatDoor

