/- Layer 13, plain: what the fixed calls answer; lengths of a new world. -/
import Derived.Test.YtjibkgildfjjoaaDoorzZk
import Derived.Test.YtjibkgildfjjoaaDoorzPr1
import Derived.Test.YtjibkgildfjjoaaDoorzPw
import Derived.Deep.DeepCutAuto
import Derived.Deep.CutBlock
import Derived.Test.YtjibkgildfjjoaaDoorzFrp
import Derived.Test.YtjibkgildfjjoaaDoorzOww
import Derived.Test.YtjibkgildfjjoaaDoorzYl
import Derived.Test.YtjibkgildfjjoaaDoorzYr
namespace Go.Proofs.YtjibkgildfjjoaaDoor
set_option linter.unusedVariables false
set_option linter.unusedSimpArgs false
open Gm Go.RowKit Go.ChangeShapes Go.WideShapes Go.ChangeAt Go.Sort

def tx13 : List UInt8 := [102, 117, 110, 99, 32, 49, 32, 49, 32, 48, 10, 108, 111, 97, 100, 32, 48, 10, 114, 101, 116, 10]
def pa13 : List Fun := [⟨1, 1, 0, [(1, 0, 0), (15, 0, 0)]⟩]
theorem pa13_of : (parseP tx13).1 = pa13 := by kernel_rfl
theorem pa13_good : ((checkP pa13).2.2 == 0) = true := by kernel_rfl
def fr13 : Frm := ⟨0, 0, [], [(4, 0)], [], 7, 0, 0, 0, 0, 0, 0, 0, -1, 0, 0⟩
theorem nf13 : newF pa13 0 [(4, 0)] 7 = (fr13, true) := by kernel_rfl
theorem nf13b : newF pa13 0 [] 7 = (frm0, false) := by kernel_rfl
def wl13 : Wld := ⟨pa13, 5, 3, 2, ⟨[⟨0, true, fr13⟩], [], 3⟩, [rng1 2, rng1 2, rng1 2], [(0, 0), noV, noV], (0, 0), 0, 0, 0, 0, 0, 0, 0, 0⟩
theorem nw13 : newW pa13 [(4, 0)] 7 3 5 3 2 = (wl13, 0) := by
  unfold newW
  rw [if_pos (by unfold mayW; rw [pa13_good, nf13]; decide), nf13]
  rfl
theorem nw13b : newW pa13 [] 7 3 5 3 2 = (wld0, 1) := by
  unfold newW
  rw [if_neg (by unfold mayW; rw [nf13b]; simp)]
theorem nw13c : newW pa13 [(4, 0)] 7 65 5 3 2 = (wld0, 1) := by
  unfold newW
  rw [if_neg (by unfold mayW; rw [show mayFr 65 2 = false by decide]; simp)]
theorem fh13 : freshR 2 2 = ([rng1 2, rng1 2], [noV, noV]) := by kernel_rfl
theorem fh13b : freshR 0 2 = ([], []) := by kernel_rfl
theorem rd13 : readyW wl13 = [(0, 0)] := by decide
theorem sm13 : sameW wl13 wl13 = true := sameW_refl _
theorem sm13b : sameW wl13 wld0 = false := sameW_no fun e => by
  have : wl13.lf = wld0.lf := by rw [e]
  simp [wl13, wld0] at this
theorem newF_len (p : List Fun) (fn : Int) (args : List V) (s : Int) (hz : mayP p = true → ∀ g ∈ p, headB g.ar g.lo g.sl = true) : FrmLen (newF p fn args s).1 := by
  have h0 : FrmLen frm0 := ⟨by simp [frm0], by simp [frm0], by simp [frm0]⟩
  unfold newF
  split
  case isFalse => exact h0
  case isTrue h =>
    cases hg : p[fn.toNat]? with
    | none => exact h0
    | some g =>
      simp only
      split
      case isFalse => exact h0
      case isTrue h9 =>
        have hm := hz h.1 g (List.mem_of_getElem? hg)
        obtain ⟨⟨a0, a1⟩, ⟨b0, b1⟩, c0, c1⟩ := (headB_iff _ _ _).1 hm
        refine ⟨by simp, ?_, ?_⟩
        · simp only [List.length_append, List.length_replicate]
          omega
        · simp only [List.length_replicate]
          omega
theorem newF_lenP (p : List Fun) (fn : Int) (args : List V) (s : Int) : FrmLen (newF p fn args s).1 := newF_len p fn args s fun h g hg => by
  have hmf := ((mayP_iff p).1 h).2.2 g hg
  unfold mayF at hmf
  simp at hmf
  exact hmf.1.1
theorem newW_len {p : List Fun} {args : List V} {s k lf lm lr : Int} {U : Wld} {x : Int} (hR : newW p args s k lf lm lr = (U, x)) (hz : SizedP p) : LenW U := by
  unfold newW at hR
  split at hR
  case isFalse => rw [← (Prod.mk.inj hR).1]; exact wld0_len
  case isTrue h =>
    rw [← (Prod.mk.inj hR).1]
    unfold mayW at h
    simp only [Bool.and_eq_true] at h
    have hk := ((mayFr_iff _ _).1 h.1.2).1
    refine ⟨hz, ⟨by simp, by simp, fun i hi => ?_⟩, ?_, ?_, ?_⟩
    · obtain rfl : i = 0 := by simpa using hi
      exact newF_lenP p 0 args s
    · simp only [List.length_replicate]; omega
    · intro r hr
      simp only at hr
      rw [(List.mem_replicate.1 hr).2]
      simp [rng1]
    · simp only [List.length_cons, List.length_replicate]; omega
set_option maxRecDepth 100000 in
theorem of13_any (l : List UInt8) (w : World) (hl : l.length ≤ 1000000) :
    Calls Tryd.prog 16 #[.string ⟨l.toArray⟩] w fun e w' => ∃ A c, e = .returned (.slice A (parseP l).1.length c) ∧ ProgAt w' w'.heap.size A (parseP l).1 ∧ Below w.heap.size w w' := by
  have PA := Lib.hid (pparse_any l w hl)
  unfold ParQ at PA
  go_enter Tryd.func16, Tryd.ntmps16
  go_wp2_with (go_at_call 29; (with_reducible refine PA.out.mono ?_); rintro _ u ⟨A, c, rfl, hp, hb⟩)
  go_ret
  exact ⟨A, c, rfl, hp, hb⟩
theorem of13 (W : World) : Calls Tryd.prog 16 #[.string ⟨#[102, 117, 110, 99, 32, 49, 32, 49, 32, 48, 10, 108, 111, 97, 100, 32, 48, 10, 114, 101, 116, 10]⟩] W fun e w' => ∃ A c, e = .returned (.slice A 1 c) ∧ ProgAt w' w'.heap.size A pa13 ∧ Below W.heap.size W w' := by
  have h := of13_any tx13 W (by decide)
  rw [pa13_of] at h
  exact h
theorem pa13_sized : SizedP pa13 := by rw [← pa13_of]; exact parse_sized _
theorem wl13_len : LenW wl13 := newW_len nw13 pa13_sized
end Go.Proofs.YtjibkgildfjjoaaDoor

/- Layer 13: the fixed calls. -/
namespace Go.Proofs.YtjibkgildfjjoaaDoor
set_option linter.unusedVariables false
set_option linter.unusedSimpArgs false
open Go.RowKit Go.ChangeShapes Go.WideShapes Go.ChangeAt Go.Sort

theorem vat13 (U : World) (a b : Int) : VAt (U.alloc (.cells #[.int .i64 a, .int .i64 b] 35)) (U.alloc (.cells #[.int .i64 a, .int .i64 b] 35)).heap.size (some ⟨U.heap.size, 0, none⟩) [(a, b)] := fun _ => by
  have h := Held.new U 35 #[.int .i64 a, .int .i64 b]
  refine ⟨_, _, rfl, h.lt, fun j hj => ?_⟩
  obtain rfl : j = 0 := by simpa using hj
  exact ⟨h.cell 0, h.cell 1⟩
theorem rrefs_1 {l k : List V} {n m : Nat} {R : Bool} (hn : l.length = n) (hm : k.length = m) (hR : decide (l = k) = R) (h1 : n ≤ 100000) (h2 : m ≤ 100000) (c c2 : Nat) (W : World) {A A2 : Option Addr} (hp : PAt W W.heap.size A l) (hq : PAt W W.heap.size A2 k) :
    Calls Tryd.prog 11 #[.slice A n c, .slice A2 m c2] W fun e w' => e = .returned (.bool R) ∧ Below W.heap.size W w' := by
  subst hn hm hR
  exact rrefs_any c c2 W hp hq h1 h2
theorem ready13 {T : World → Prop} (C : WC T) (W : World) (hT : T W) {a : WA} (h : WAt W W.heap.size a wl13) :
    Calls Tryd.prog 8 #[.agg (wcs a wl13)] W fun e w' => ∃ A c, e = .returned (.slice A 1 c) ∧ PAt w' w'.heap.size A [(0, 0)] ∧ Below W.heap.size W w' := readyW_c C rd13 wl13_len W hT h
theorem same13 {T : World → Prop} (C : WC T) (W : World) (hT : T W) {a : WA} (h : WAt W W.heap.size a wl13) :
    Calls Tryd.prog 12 #[.agg (wcs a wl13), .agg wz0] W fun e w' => e = .returned (.bool false) ∧ Below W.heap.size W w' := sameW_c (b := wa0) C sm13b wl13_len wld0_len W hT h (wat0 _ _ _)
set_option maxHeartbeats 8000000 in
set_option maxRecDepth 100000 in
theorem fixed13 {T : World → Prop} (C : WC T) (w : World) (hT : T w) : Calls Tryd.prog 6 #[] w fun e w' => e = .returned (.bool true) ∧ Below w.heap.size w w' := by
  have hW := Below.refl w.heap.size w
  obtain ⟨pa, hpa⟩ : ∃ p, pa13 = p := ⟨_, rfl⟩
  have hz := pa13_sized
  have E1 := nw13
  have E2 := nw13b
  have E3 := nw13c
  have O1 := of13
  have hpl : pa.length = 1 := by rw [← hpa]; rfl
  rw [hpa] at hz
  simp only [hpa] at E1 E2 E3 O1
  have HN1 := Lib.hid E1
  have HN2 := Lib.hid E2
  have HN3 := Lib.hid E3
  have HO := Lib.hid O1
  have HZ := Lib.hid hz
  have NEWC : ∀ (args : List V) (k : Int) (U : Wld) (x : Int) (n : Nat), newW pa args 7 k 5 3 2 = (U, x) → args.length = n → n ≤ 1000 → ∀ (c c2 : Nat) (W : World), T W → ∀ {Ap A2 : Option Addr}, ProgAt W W.heap.size Ap pa → VAt W W.heap.size A2 args → Calls Tryd.prog 17 #[.slice Ap 1 c, .slice A2 n c2, .int .i64 7, .int .i64 k, .agg (lmc 5 3 2)] W fun e w' => ∃ a, e = .returned (.tuple #[.agg (wcs a U), .int .i64 x]) ∧ WAt w' w'.heap.size a U ∧ Below W.heap.size W w' := by
    intro args k U x n hR hn hl c c2 W hT Ap A2 hp ha
    subst hn
    have h9 := newW_c C hR HZ.out hl c c2 W hT hp ha
    rw [hpl] at h9
    exact h9
  have NEW := Lib.hid NEWC
  clear E1 E2 E3 O1 hz hpa NEWC hpl
  go_enter Tryd.func6, Tryd.ntmps6
  go_upto_region 2 with (first
    | (go_at_call 16; (with_reducible refine (HO.out _).mono ?_); rintro _ u1 ⟨Ap, cp, rfl, hp, hb⟩; replace hT := C.kept hT hb; replace hW := Below.step hW hb; clear hb))
  go_upto_region 3 with (first
    | (guard_target = wpList _ _ _ (Oper.mk _ (Op.store 25 (.tmp 2) _) _ _ _ none :: _) _ _; refine wpList_store_row rfl 25 _ _ rfl u1.heap.size (lmc 5 3 2) rfl rfl _ _ (Held.new u1 25 (lmc 0 0 0)) (by kernel_rfl) rfl (by simp [Value.oneCell']) ?_))
  have vl := held_rowSelf (Held.new u1 25 (lmc 0 0 0)) (lmc 5 3 2)
  have hbW : Below u1.heap.size u1 ((u1.alloc (.cells (lmc 0 0 0) 25)).setRow u1.heap.size (lmc 5 3 2)) := below_setRow ((Below.refl _ _).alloc (Nat.le_refl _) _) (Nat.le_refl _) _
  replace hp := hp.later hbW
  replace hT := C.kept hT hbW
  replace hW := Below.step hW hbW
  clear hbW
  generalize World.setRow _ u1.heap.size _ = W1 at *
  generalize u1.heap.size = gl at *
  have hba : Below W1.heap.size W1 (W1.alloc (.cells #[.int .i64 4, .int .i64 0] 35)) := (Below.refl _ _).alloc (Nat.le_refl _) _
  have va := vat13 W1 4 0
  replace hp := hp.later hba
  replace hT := C.kept hT hba
  replace vl := Held.below vl hba
  replace hW := Below.step hW hba
  clear hba
  go_upto_region 4 with (first
    | (guard_target = wpList _ _ _ (Oper.mk (some 19) _ _ _ _ none :: _) _ _; refine wpList_load_row rfl 25 _ rfl gl rfl _ _ _ _ vl Tryd.underlying25 rfl (by kernel_rfl) ?_)
    | (go_at_call 17; (with_reducible refine (NEW.out [(4, 0)] 3 wl13 0 1 HN1.out rfl (by decide) cp 1 _ hT hp va).mono ?_); rintro _ u ⟨a3, rfl, ho, hb⟩; have hn := Held.new u 40 wz0)
    | (guard_target = wpList _ _ _ (Oper.mk _ (Op.store 40 (.tmp 3) _) _ _ _ none :: _) _ _; refine wpList_store_row rfl 40 _ _ rfl u.heap.size (wcs a3 wl13) rfl rfl _ _ hn (by kernel_rfl) rfl (by simp [Value.oneCell']) ?_))
  obtain ⟨v3, hbW⟩ := new_w1 hb ho
  clear hb ho hn
  replace hp := hp.later hbW
  replace hT := C.kept hT hbW
  replace vl := Held.below vl hbW
  replace hW := Below.step hW hbW
  clear hbW
  generalize World.setRow _ u.heap.size _ = W2 at *
  generalize u.heap.size = g3 at *
  clear va
  go_upto_region 5 with (first
    | (guard_target = wpList _ _ _ (Oper.mk (some 25) _ _ _ _ none :: _) _ _; refine wpList_load_row rfl 25 _ rfl gl rfl _ _ _ _ vl Tryd.underlying25 rfl (by kernel_rfl) ?_)
    | (go_at_call 17; (with_reducible refine (NEW.out [] 3 wld0 1 0 HN2.out rfl (by decide) cp 0 _ hT hp (VAt.nil _ _ _)).mono ?_); rintro _ u ⟨a5, rfl, ho, hb⟩; have hn := Held.new u 40 wz0)
    | (guard_target = wpList _ _ _ (Oper.mk _ (Op.store 40 (.tmp 5) _) _ _ _ none :: _) _ _; refine wpList_store_row rfl 40 _ _ rfl u.heap.size (wcs a5 wld0) rfl rfl _ _ hn (by kernel_rfl) rfl (by simp [Value.oneCell']) ?_))
  obtain ⟨v5, hbW⟩ := new_w1 hb ho
  clear hb ho hn
  replace hp := hp.later hbW
  replace hT := C.kept hT hbW
  replace vl := Held.below vl hbW
  replace v3 := v3.below hbW
  replace hW := Below.step hW hbW
  clear hbW
  generalize World.setRow _ u.heap.size _ = W3 at *
  generalize u.heap.size = g5 at *
  clear v5
  have hba : Below W3.heap.size W3 (W3.alloc (.cells #[.int .i64 4, .int .i64 0] 35)) := (Below.refl _ _).alloc (Nat.le_refl _) _
  have va := vat13 W3 4 0
  replace hp := hp.later hba
  replace hT := C.kept hT hba
  replace vl := Held.below vl hba
  replace v3 := v3.below hba
  replace hW := Below.step hW hba
  clear hba
  go_upto_region 6 with (first
    | (guard_target = wpList _ _ _ (Oper.mk (some 33) _ _ _ _ none :: _) _ _; refine wpList_load_row rfl 25 _ rfl gl rfl _ _ _ _ vl Tryd.underlying25 rfl (by kernel_rfl) ?_)
    | (go_at_call 17; (with_reducible refine (NEW.out [(4, 0)] 65 wld0 1 1 HN3.out rfl (by decide) cp 1 _ hT hp va).mono ?_); rintro _ u ⟨a7, rfl, ho, hb⟩; have hn := Held.new u 40 wz0)
    | (guard_target = wpList _ _ _ (Oper.mk _ (Op.store 40 (.tmp 7) _) _ _ _ none :: _) _ _; refine wpList_store_row rfl 40 _ _ rfl u.heap.size (wcs a7 wld0) rfl rfl _ _ hn (by kernel_rfl) rfl (by simp [Value.oneCell']) ?_))
  obtain ⟨v7, hbW⟩ := new_w1 hb ho
  clear hb ho hn
  replace hp := hp.later hbW
  replace hT := C.kept hT hbW
  replace vl := Held.below vl hbW
  replace v3 := v3.below hbW
  replace hW := Below.step hW hbW
  clear hbW
  generalize World.setRow _ u.heap.size _ = W4 at *
  generalize u.heap.size = g7 at *
  clear va v7
  clear hp
  go_upto_region 7 with (first
    | (guard_target = wpList _ _ _ (Oper.mk (some 38) _ _ _ _ none :: _) _ _; refine wpList_load_row rfl 25 _ rfl gl rfl _ _ _ _ vl Tryd.underlying25 rfl (by kernel_rfl) ?_)
    | (go_at_call 13; (with_reducible refine (freshW_c C fh13 5 3 _ hT).mono ?_); rintro _ W5 ⟨A9, k9, A10, k10, rfl, g9, c10, hb⟩; replace hT := C.kept hT hb; replace vl := Held.below vl hb; replace v3 := v3.below hb; replace hW := Below.step hW hb))
  clear hb
  go_upto_region 8 with (first
    | (guard_target = wpList _ _ _ (Oper.mk (some 43) _ _ _ _ none :: _) _ _; refine wpList_load_row rfl 25 _ rfl gl rfl _ _ _ _ vl Tryd.underlying25 rfl (by kernel_rfl) ?_)
    | (go_at_call 13; (with_reducible refine (freshW_c C fh13b 5 3 _ hT).mono ?_); rintro _ W6 ⟨A11, k11, A12, k12, rfl, g11, c12, hb⟩; replace c10 := c10.later hb; replace g9 := g9.later hb; replace hT := C.kept hT hb; replace vl := Held.below vl hb; replace v3 := v3.below hb; replace hW := Below.step hW hb))
  clear hb
  clear g11 c12 vl
  have x7 := v3.x.cell 7
  have x8 := v3.x.cell 8
  simp [wl13] at x7 x8
  go_upto_region 10 with (fail)
  clear x7 x8
  obtain ⟨bc, oc, ec, hbc0, q0, q1⟩ := pat_cell v3.p.cur (j := 0) (by decide)
  obtain ⟨bc2, oc2, ec2, -, q2, q3⟩ := pat_cell v3.p.cur (j := 1) (by decide)
  obtain ⟨rfl, rfl⟩ : bc = bc2 ∧ oc = oc2 := by
    rw [ec] at ec2
    simpa using ec2
  have hbc : bc < W6.heap.size := hbc0
  obtain ⟨bp, op, ep, hbp0, csp, -, -, hfp, -, -, hrp, -⟩ := v3.p.pen.cells.cel (j := 0) (by decide)
  have hbp : bp < W6.heap.size := hbp0
  have s7 : W6.cell? ⟨bp, op + 7, none⟩ = some (.int .i64 7) := by
    obtain ⟨A1, c1, A2, c2, A3, c3, e9, -⟩ := hfp
    obtain rfl : csp = _ := by simpa [fv] using e9
    exact hrp 5 _ rfl
  obtain ⟨bg, og, rfl, hbg0, Abg, cbg, -, -, -, -, g7⟩ := g9.rng (j := 1) (by decide)
  have hbg : bg < W6.heap.size := hbg0
  obtain ⟨bd, od, rfl, hbd0, d0, d1⟩ := pat_cell c10 (j := 1) (by decide)
  have hbd : bd < W6.heap.size := hbd0
  replace q0 : W6.cell? ⟨bc, oc, none⟩ = some (.int .i64 0) := q0
  replace q1 : W6.cell? ⟨bc, oc + 1, none⟩ = some (.int .i64 0) := q1
  replace q2 : W6.cell? ⟨bc, oc + 2, none⟩ = some (.int .i64 (-1)) := q2
  replace q3 : W6.cell? ⟨bc, oc + 2 + 1, none⟩ = some (.int .i64 0) := q3
  replace g7 : W6.cell? ⟨bg, og + 4 + 3, none⟩ = some (.int .i64 2) := g7
  replace d0 : W6.cell? ⟨bd, od + 2, none⟩ = some (.int .i64 (-1)) := d0
  replace d1 : W6.cell? ⟨bd, od + 2 + 1, none⟩ = some (.int .i64 0) := d1
  have hg3 : g3 < W6.heap.size := v3.x.lt
  have w4 : W6.cell? ⟨g3, 4, none⟩ = some (.slice (some ⟨bp, op, none⟩) 1 a3.cc) := by rw [← ep]; exact v3.x.cell 4
  have w8 : W6.cell? ⟨g3, 8, none⟩ = some (.slice (some ⟨bc, oc, none⟩) 3 a3.cq) := by rw [← ec]; exact v3.x.cell 8
  have w9 : W6.cell? ⟨g3, 9, none⟩ = some (.int .i64 0) := v3.x.cell 9
  have w10 : W6.cell? ⟨g3, 9 + 1, none⟩ = some (.int .i64 0) := v3.x.cell 10
  have HWB := Lib.hid hW
  clear ec2 hbc0 hbp0 hfp hrp g9 c10 hbg0 hbd0 hW HN1 HN2 HN3 HO NEW HZ
  clear ec ep
  simp only [List.append_eq, List.cons_append, List.nil_append]
  have hdr := (Below.refl W6.heap.size W6).drew
  have HTQ := Lib.hid (C.kept hT hdr)
  replace v3 := v3.below hdr
  replace q0 := (hdr.cell (p := ⟨bc, _, none⟩) hbc).trans q0
  replace q1 := (hdr.cell (p := ⟨bc, _, none⟩) hbc).trans q1
  replace q2 := (hdr.cell (p := ⟨bc, _, none⟩) hbc).trans q2
  replace q3 := (hdr.cell (p := ⟨bc, _, none⟩) hbc).trans q3
  replace w4 := (hdr.cell (p := ⟨g3, _, none⟩) hg3).trans w4
  replace w8 := (hdr.cell (p := ⟨g3, _, none⟩) hg3).trans w8
  replace w9 := (hdr.cell (p := ⟨g3, _, none⟩) hg3).trans w9
  replace w10 := (hdr.cell (p := ⟨g3, _, none⟩) hg3).trans w10
  replace s7 := (hdr.cell (p := ⟨bp, _, none⟩) hbp).trans s7
  replace g7 := (hdr.cell (p := ⟨bg, _, none⟩) hbg).trans g7
  replace d0 := (hdr.cell (p := ⟨bd, _, none⟩) hbd).trans d0
  replace d1 := (hdr.cell (p := ⟨bd, _, none⟩) hbd).trans d1
  replace hbc : bc < W6.drew.heap.size := hbc
  replace hg3 : g3 < W6.drew.heap.size := hg3
  replace hbp : bp < W6.drew.heap.size := hbp
  replace hbg : bg < W6.drew.heap.size := hbg
  replace hbd : bd < W6.drew.heap.size := hbd
  have HBD := Lib.hid (Below.step HWB.out hdr)
  clear hT HWB
  clear hdr
  refine wp_region_held_drew (S := fun W => Below W6.drew.heap.size W6.drew W) (by kernel_rfl) (Below.refl _ _) (fun hS => ?_)
  generalize W6.drew = Wq at *
  show wpAnyH _ _ _ _ _ 84 #[false, false, false, false, false, false, false, false, false, false, false, false, false, false, false, false, false, false, false, false, false, false, false, false, false, false, false, false, false, false, false, false, false, false, false, false, false, false, false, false, false, false, false, false, false, false, false, false, false, false, false, false, false, false, false, false, false, false, false, false, false, false, false, false, false, false, false, false, false, false, false, false, false, false, false, false, false, false, false, false, false, false, false, false] _ _
  refine wpAnyH_begin (by kernel_rfl) (fun HNS => ?_)
  refine wpAnyH_takeS HNS (i := 0) (v := .int .i64 1) rfl (by kernel_rfl) (by kernel_rfl) (fun _ _ _ h => h) (Or.inl ⟨by kernel_rfl, fun W hW => ?_⟩) hS ?_
  · go_simp
  simp only [Act.put, List.getElem_toArray, List.getElem_cons_succ, List.getElem_cons_zero, List.setIfInBounds_toArray, List.set_cons_zero, List.set_cons_succ]
  refine wpAnyH_takeS HNS (i := 1) (v := .bool true) rfl (by kernel_rfl) (by kernel_rfl) (fun _ _ _ h => h) (Or.inl ⟨by kernel_rfl, fun W hW => ?_⟩) hS ?_
  · go_simp
  simp only [Act.put, List.getElem_toArray, List.getElem_cons_succ, List.getElem_cons_zero, List.setIfInBounds_toArray, List.set_cons_zero, List.set_cons_succ]
  refine wpAnyH_takeS HNS (i := 2) (v := .bool true) rfl (by kernel_rfl) (by kernel_rfl) (fun _ _ _ h => h) (Or.inl ⟨by kernel_rfl, fun W hW => ?_⟩) hS ?_
  · go_simp
  simp only [Act.put, List.getElem_toArray, List.getElem_cons_succ, List.getElem_cons_zero, List.setIfInBounds_toArray, List.set_cons_zero, List.set_cons_succ]
  refine wpAnyH_takeS HNS (i := 3) (v := .int .i64 1) rfl (by kernel_rfl) (by kernel_rfl) (fun _ _ _ h => h) (Or.inl ⟨by kernel_rfl, fun W hW => ?_⟩) hS ?_
  · go_simp
  simp only [Act.put, List.getElem_toArray, List.getElem_cons_succ, List.getElem_cons_zero, List.setIfInBounds_toArray, List.set_cons_zero, List.set_cons_succ]
  refine wpAnyH_takeS HNS (i := 4) (v := .bool true) rfl (by kernel_rfl) (by kernel_rfl) (fun _ _ _ h => h) (Or.inl ⟨by kernel_rfl, fun W hW => ?_⟩) hS ?_
  · go_simp
  simp only [Act.put, List.getElem_toArray, List.getElem_cons_succ, List.getElem_cons_zero, List.setIfInBounds_toArray, List.set_cons_zero, List.set_cons_succ]
  refine wpAnyH_takeS HNS (i := 5) (v := .bool true) rfl (by kernel_rfl) (by kernel_rfl) (fun _ _ _ h => h) (Or.inl ⟨by kernel_rfl, fun W hW => ?_⟩) hS ?_
  · go_simp
  simp only [Act.put, List.getElem_toArray, List.getElem_cons_succ, List.getElem_cons_zero, List.setIfInBounds_toArray, List.set_cons_zero, List.set_cons_succ]
  refine wpAnyH_takeS HNS (i := 6) (v := .bool true) rfl (by kernel_rfl) (by kernel_rfl) (fun _ _ _ h => h) (Or.inl ⟨by kernel_rfl, fun W hW => ?_⟩) hS ?_
  · go_simp
  simp only [Act.put, List.getElem_toArray, List.getElem_cons_succ, List.getElem_cons_zero, List.setIfInBounds_toArray, List.set_cons_zero, List.set_cons_succ]
  refine wpAnyH_takeS HNS (i := 7) (v := .pointer (some ⟨g3, 8, none⟩)) rfl (by kernel_rfl) (by kernel_rfl) (fun _ _ _ h => h) (Or.inl ⟨by kernel_rfl, fun W hW => ?_⟩) hS ?_
  · go_simp
  simp only [Act.put, List.getElem_toArray, List.getElem_cons_succ, List.getElem_cons_zero, List.setIfInBounds_toArray, List.set_cons_zero, List.set_cons_succ]
  refine wpAnyH_takeS HNS (i := 8) (v := .slice (some ⟨bc, oc, none⟩) 3 a3.cq) rfl (by kernel_rfl) (by kernel_rfl) (fun _ _ _ h => h) (Or.inl ⟨by kernel_rfl, fun W hW => ?_⟩) hS ?_
  · (have z0 := (hW.cell (p := ⟨g3, _, none⟩) hg3).trans w8; go_simp)
  simp only [Act.put, List.getElem_toArray, List.getElem_cons_succ, List.getElem_cons_zero, List.setIfInBounds_toArray, List.set_cons_zero, List.set_cons_succ]
  refine wpAnyH_takeS HNS (i := 9) (v := .pointer (some ⟨bc, oc, none⟩)) rfl (by kernel_rfl) (by kernel_rfl) (fun _ _ _ h => h) (Or.inl ⟨by kernel_rfl, fun W hW => ?_⟩) hS ?_
  · go_simp
  simp only [Act.put, List.getElem_toArray, List.getElem_cons_succ, List.getElem_cons_zero, List.setIfInBounds_toArray, List.set_cons_zero, List.set_cons_succ]
  as_aux_lemma =>
    refine wpAnyH_takeS HNS (i := 10) (v := .agg #[.int .i64 0, .int .i64 0]) rfl (by kernel_rfl) (by kernel_rfl) (fun _ _ _ h => h) (Or.inl ⟨by kernel_rfl, fun W hW => ?_⟩) hS ?_
    · (have z0 := (hW.cell (p := ⟨bc, _, none⟩) hbc).trans q0; have z1 := (hW.cell (p := ⟨bc, _, none⟩) hbc).trans q1; go_simp)
    simp only [Act.put, List.getElem_toArray, List.getElem_cons_succ, List.getElem_cons_zero, List.setIfInBounds_toArray, List.set_cons_zero, List.set_cons_succ]
    refine wpAnyH_takeS HNS (i := 11) (v := .pointer (some ⟨g3, 9, none⟩)) rfl (by kernel_rfl) (by kernel_rfl) (fun _ _ _ h => h) (Or.inl ⟨by kernel_rfl, fun W hW => ?_⟩) hS ?_
    · go_simp
    simp only [Act.put, List.getElem_toArray, List.getElem_cons_succ, List.getElem_cons_zero, List.setIfInBounds_toArray, List.set_cons_zero, List.set_cons_succ]
    refine wpAnyH_takeS HNS (i := 12) (v := .agg #[.int .i64 0, .int .i64 0]) rfl (by kernel_rfl) (by kernel_rfl) (fun _ _ _ h => h) (Or.inl ⟨by kernel_rfl, fun W hW => ?_⟩) hS ?_
    · (have z0 := (hW.cell (p := ⟨g3, _, none⟩) hg3).trans w9; have z1 := (hW.cell (p := ⟨g3, _, none⟩) hg3).trans w10; go_simp)
    simp only [Act.put, List.getElem_toArray, List.getElem_cons_succ, List.getElem_cons_zero, List.setIfInBounds_toArray, List.set_cons_zero, List.set_cons_succ]
    refine wpAnyH_takeS HNS (i := 13) (v := .bool true) rfl (by kernel_rfl) (by kernel_rfl) (fun _ _ _ h => h) (Or.inl ⟨by kernel_rfl, fun W hW => ?_⟩) hS ?_
    · go_simp
    simp only [Act.put, List.getElem_toArray, List.getElem_cons_succ, List.getElem_cons_zero, List.setIfInBounds_toArray, List.set_cons_zero, List.set_cons_succ]
    refine wpAnyH_takeS HNS (i := 14) (v := .bool true) rfl (by kernel_rfl) (by kernel_rfl) (fun _ _ _ h => h) (Or.inl ⟨by kernel_rfl, fun W hW => ?_⟩) hS ?_
    · go_simp
    simp only [Act.put, List.getElem_toArray, List.getElem_cons_succ, List.getElem_cons_zero, List.setIfInBounds_toArray, List.set_cons_zero, List.set_cons_succ]
    refine wpAnyH_takeS HNS (i := 15) (v := .bool true) rfl (by kernel_rfl) (by kernel_rfl) (fun _ _ _ h => h) (Or.inl ⟨by kernel_rfl, fun W hW => ?_⟩) hS ?_
    · go_simp
    simp only [Act.put, List.getElem_toArray, List.getElem_cons_succ, List.getElem_cons_zero, List.setIfInBounds_toArray, List.set_cons_zero, List.set_cons_succ]
    refine wpAnyH_takeS HNS (i := 16) (v := .pointer (some ⟨g3, 8, none⟩)) rfl (by kernel_rfl) (by kernel_rfl) (fun _ _ _ h => h) (Or.inl ⟨by kernel_rfl, fun W hW => ?_⟩) hS ?_
    · go_simp
    simp only [Act.put, List.getElem_toArray, List.getElem_cons_succ, List.getElem_cons_zero, List.setIfInBounds_toArray, List.set_cons_zero, List.set_cons_succ]
    refine wpAnyH_takeS HNS (i := 17) (v := .slice (some ⟨bc, oc, none⟩) 3 a3.cq) rfl (by kernel_rfl) (by kernel_rfl) (fun _ _ _ h => h) (Or.inl ⟨by kernel_rfl, fun W hW => ?_⟩) hS ?_
    · (have z0 := (hW.cell (p := ⟨g3, _, none⟩) hg3).trans w8; go_simp)
    simp only [Act.put, List.getElem_toArray, List.getElem_cons_succ, List.getElem_cons_zero, List.setIfInBounds_toArray, List.set_cons_zero, List.set_cons_succ]
    refine wpAnyH_takeS HNS (i := 18) (v := .pointer (some ⟨bc, oc + 2, none⟩)) rfl (by kernel_rfl) (by kernel_rfl) (fun _ _ _ h => h) (Or.inl ⟨by kernel_rfl, fun W hW => ?_⟩) hS ?_
    · go_simp
    simp only [Act.put, List.getElem_toArray, List.getElem_cons_succ, List.getElem_cons_zero, List.setIfInBounds_toArray, List.set_cons_zero, List.set_cons_succ]
    refine wpAnyH_takeS HNS (i := 19) (v := .agg #[.int .i64 (-1), .int .i64 0]) rfl (by kernel_rfl) (by kernel_rfl) (fun _ _ _ h => h) (Or.inl ⟨by kernel_rfl, fun W hW => ?_⟩) hS ?_
    · (have z0 := (hW.cell (p := ⟨bc, _, none⟩) hbc).trans q2; have z1 := (hW.cell (p := ⟨bc, _, none⟩) hbc).trans q3; go_simp)
    simp only [Act.put, List.getElem_toArray, List.getElem_cons_succ, List.getElem_cons_zero, List.setIfInBounds_toArray, List.set_cons_zero, List.set_cons_succ]
    as_aux_lemma =>
      refine wpAnyH_ready (rs := [20]) (by kernel_rfl) (by simp) ?_
      refine (AllReadyH.cons rfl (fun K hK => ?_) AllReadyH.nil)
      · rw [if_pos (by kernel_rfl)]
        go_simp
        go_at_call 10
        (with_reducible refine (none_z _).mono ?_)
        rintro _ u1 ⟨rfl, hb1⟩
        replace hS := Below.step hS hb1
        (repeat (first | go_skip | go_guarded | go_step | go_upon))
        refine hK.out _ _ hS (fun _ => ?_)
        clear hK K
        (try simp only [Act.put, List.getElem_toArray, List.getElem_cons_succ, List.getElem_cons_zero, List.setIfInBounds_toArray, List.set_cons_zero, List.set_cons_succ])
        refine wpAnyH_takeS HNS (i := 21) (v := .bool true) rfl (by kernel_rfl) (by kernel_rfl) (fun _ _ _ h => h) (Or.inl ⟨by kernel_rfl, fun W hW => ?_⟩) hS ?_
        · go_simp
        simp only [Act.put, List.getElem_toArray, List.getElem_cons_succ, List.getElem_cons_zero, List.setIfInBounds_toArray, List.set_cons_zero, List.set_cons_succ]
        refine wpAnyH_takeS HNS (i := 22) (v := .bool true) rfl (by kernel_rfl) (by kernel_rfl) (fun _ _ _ h => h) (Or.inl ⟨by kernel_rfl, fun W hW => ?_⟩) hS ?_
        · go_simp
        simp only [Act.put, List.getElem_toArray, List.getElem_cons_succ, List.getElem_cons_zero, List.setIfInBounds_toArray, List.set_cons_zero, List.set_cons_succ]
        refine wpAnyH_takeS HNS (i := 23) (v := .bool true) rfl (by kernel_rfl) (by kernel_rfl) (fun _ _ _ h => h) (Or.inl ⟨by kernel_rfl, fun W hW => ?_⟩) hS ?_
        · go_simp
        simp only [Act.put, List.getElem_toArray, List.getElem_cons_succ, List.getElem_cons_zero, List.setIfInBounds_toArray, List.set_cons_zero, List.set_cons_succ]
        refine wpAnyH_takeS HNS (i := 24) (v := .agg (wcs a3 wl13)) rfl (by kernel_rfl) (by kernel_rfl) (fun _ _ _ h => h) (yieldsIf_load_midA (by kernel_rfl) 40 _ rfl g3 0 (by rfl) (wcs a3 wl13) _ (fun W hW => rng_held (Held.below v3.x hW)) Tryd.underlying40 rfl (by kernel_rfl)) hS ?_
        simp only [Act.put, List.getElem_toArray, List.getElem_cons_succ, List.getElem_cons_zero, List.setIfInBounds_toArray, List.set_cons_zero, List.set_cons_succ]
        refine wpAnyH_takeS HNS (i := 26) (v := .pointer (some ⟨g3, 9, none⟩)) rfl (by kernel_rfl) (by kernel_rfl) (fun _ _ _ h => h) (Or.inl ⟨by kernel_rfl, fun W hW => ?_⟩) hS ?_
        · go_simp
        simp only [Act.put, List.getElem_toArray, List.getElem_cons_succ, List.getElem_cons_zero, List.setIfInBounds_toArray, List.set_cons_zero, List.set_cons_succ]
        refine wpAnyH_takeS HNS (i := 27) (v := .agg #[.int .i64 0, .int .i64 0]) rfl (by kernel_rfl) (by kernel_rfl) (fun _ _ _ h => h) (Or.inl ⟨by kernel_rfl, fun W hW => ?_⟩) hS ?_
        · (have z0 := (hW.cell (p := ⟨g3, _, none⟩) hg3).trans w9; have z1 := (hW.cell (p := ⟨g3, _, none⟩) hg3).trans w10; go_simp)
        simp only [Act.put, List.getElem_toArray, List.getElem_cons_succ, List.getElem_cons_zero, List.setIfInBounds_toArray, List.set_cons_zero, List.set_cons_succ]
        refine' join2 (S := _) (H := fun Wj1 x1y0 x1y1 => Below Wq.heap.size Wq Wj1 ∧ (∃ A c, x1y0 = .slice A 1 c ∧ PAt Wj1 Wj1.heap.size A [(0, 0)]) ∧ (∃ A c, x1y1 = .slice A 1 c ∧ PAt Wj1 Wj1.heap.size A [(0, 0)])) ?both ?key
        case both =>
          intro key
          refine wpAnyH_ready (rs := [25, 28]) (by kernel_rfl) (by simp) ?_
          refine (AllReadyH.cons rfl (fun K hK => ?_) (AllReadyH.cons rfl (fun K hK => ?_) AllReadyH.nil))
          · rw [if_pos (by kernel_rfl)]
            go_simp
            go_at_call 8
            (with_reducible refine (ready13 C _ (C.kept HTQ.out hS) (v3.below hS).p).mono ?_)
            rintro _ u2 ⟨Ar2, cr2, rfl, wr2, hb2⟩
            have hpR := wr2
            replace hS := Below.step hS hb2
            (repeat (first | go_skip | go_guarded | go_step | go_upon))
            refine hK.out _ _ hS (fun _ => ?_)
            clear hK K
            (try simp only [Act.put, List.getElem_toArray, List.getElem_cons_succ, List.getElem_cons_zero, List.setIfInBounds_toArray, List.set_cons_zero, List.set_cons_succ])
            refine wpAnyH_ready (rs := [28]) (by kernel_rfl) (by simp) ?_
            refine (AllReadyH.cons rfl (fun K hK => ?_) AllReadyH.nil)
            · rw [if_pos (by kernel_rfl)]
              refine wp_build1R rfl rfl ?_
              have hbA := ((Below.refl _ _).alloc (Nat.le_refl _) _ : Below u2.heap.size u2 (u2.alloc (.cells #[.int .i64 0, .int .i64 0] 33)))
              replace hpR := PAt.later hpR hbA
              have hpT := one2_at (t := 33) (w := u2) 0 0
              replace hS := Below.step hS hbA
              clear hbA
              generalize u2.alloc (.cells #[.int .i64 0, .int .i64 0] 33) = u3 at *
              refine hK.out _ _ hS (fun _ => ?_)
              clear hK K
              (try simp only [Act.put, List.getElem_toArray, List.getElem_cons_succ, List.getElem_cons_zero, List.setIfInBounds_toArray, List.set_cons_zero, List.set_cons_succ])
              have hH : Below Wq.heap.size Wq u3 ∧ (∃ A c, (.slice Ar2 1 cr2 : Value) = .slice A 1 c ∧ PAt u3 u3.heap.size A [(0, 0)]) ∧ (∃ A c, (.slice (some ⟨u2.heap.size, 0, none⟩) 1 1 : Value) = .slice A 1 c ∧ PAt u3 u3.heap.size A [(0, 0)]) := And.intro hS (And.intro ⟨_, _, rfl, hpR⟩ ⟨_, _, rfl, hpT⟩)
              generalize (.slice Ar2 1 cr2 : Value) = x1y0 at hH ⊢
              generalize (.slice (some ⟨u2.heap.size, 0, none⟩) 1 1 : Value) = x1y1 at hH ⊢
              exact key u3 x1y0 x1y1 hH
          · rw [if_pos (by kernel_rfl)]
            refine wp_build1R rfl rfl ?_
            have hbA := ((Below.refl _ _).alloc (Nat.le_refl _) _ : Below u1.heap.size u1 (u1.alloc (.cells #[.int .i64 0, .int .i64 0] 33)))
            have hpT := one2_at (t := 33) (w := u1) 0 0
            replace hS := Below.step hS hbA
            clear hbA
            generalize u1.alloc (.cells #[.int .i64 0, .int .i64 0] 33) = u4 at *
            refine hK.out _ _ hS (fun _ => ?_)
            clear hK K
            (try simp only [Act.put, List.getElem_toArray, List.getElem_cons_succ, List.getElem_cons_zero, List.setIfInBounds_toArray, List.set_cons_zero, List.set_cons_succ])
            refine wpAnyH_ready (rs := [25]) (by kernel_rfl) (by simp) ?_
            refine (AllReadyH.cons rfl (fun K hK => ?_) AllReadyH.nil)
            · rw [if_pos (by kernel_rfl)]
              go_simp
              go_at_call 8
              (with_reducible refine (ready13 C _ (C.kept HTQ.out hS) (v3.below hS).p).mono ?_)
              rintro _ u5 ⟨Ar5, cr5, rfl, wr5, hb5⟩
              replace hpT := PAt.later hpT hb5
              have hpR := wr5
              replace hS := Below.step hS hb5
              (repeat (first | go_skip | go_guarded | go_step | go_upon))
              refine hK.out _ _ hS (fun _ => ?_)
              clear hK K
              (try simp only [Act.put, List.getElem_toArray, List.getElem_cons_succ, List.getElem_cons_zero, List.setIfInBounds_toArray, List.set_cons_zero, List.set_cons_succ])
              have hH : Below Wq.heap.size Wq u5 ∧ (∃ A c, (.slice Ar5 1 cr5 : Value) = .slice A 1 c ∧ PAt u5 u5.heap.size A [(0, 0)]) ∧ (∃ A c, (.slice (some ⟨u1.heap.size, 0, none⟩) 1 1 : Value) = .slice A 1 c ∧ PAt u5 u5.heap.size A [(0, 0)]) := And.intro hS (And.intro ⟨_, _, rfl, hpR⟩ ⟨_, _, rfl, hpT⟩)
              generalize (.slice Ar5 1 cr5 : Value) = x1y0 at hH ⊢
              generalize (.slice (some ⟨u1.heap.size, 0, none⟩) 1 1 : Value) = x1y1 at hH ⊢
              exact key u5 x1y0 x1y1 hH
        case key =>
          intro Wj1 x1y0 x1y1 hH
          obtain ⟨hS, ⟨Ar, cr, rfl, hpR⟩, ⟨At, ct, rfl, hpT⟩⟩ := hH
          as_aux_lemma =>
            refine wpAnyH_ready (rs := [29]) (by kernel_rfl) (by simp) ?_
            refine (AllReadyH.cons rfl (fun K hK => ?_) AllReadyH.nil)
            · rw [if_pos (by kernel_rfl)]
              go_simp
              go_at_call 11
              (with_reducible refine (rrefs_1 (n := 1) (m := 1) (l := [(0, 0)]) (k := [(0, 0)]) (R := true) rfl rfl (by simp) (by decide) (by decide) _ _ _ hpR hpT).mono ?_)
              rintro _ u6 ⟨rfl, hb6⟩
              replace hpR := PAt.later hpR hb6
              replace hpT := PAt.later hpT hb6
              clear hpR
              clear hpT
              replace hS := Below.step hS hb6
              (repeat (first | go_skip | go_guarded | go_step | go_upon))
              refine hK.out _ _ hS (fun _ => ?_)
              clear hK K
              (try simp only [Act.put, List.getElem_toArray, List.getElem_cons_succ, List.getElem_cons_zero, List.setIfInBounds_toArray, List.set_cons_zero, List.set_cons_succ])
              refine wpAnyH_takeS HNS (i := 30) (v := .bool true) rfl (by kernel_rfl) (by kernel_rfl) (fun _ _ _ h => h) (Or.inl ⟨by kernel_rfl, fun W hW => ?_⟩) hS ?_
              · go_simp
              simp only [Act.put, List.getElem_toArray, List.getElem_cons_succ, List.getElem_cons_zero, List.setIfInBounds_toArray, List.set_cons_zero, List.set_cons_succ]
              refine wpAnyH_takeS HNS (i := 31) (v := .bool true) rfl (by kernel_rfl) (by kernel_rfl) (fun _ _ _ h => h) (Or.inl ⟨by kernel_rfl, fun W hW => ?_⟩) hS ?_
              · go_simp
              simp only [Act.put, List.getElem_toArray, List.getElem_cons_succ, List.getElem_cons_zero, List.setIfInBounds_toArray, List.set_cons_zero, List.set_cons_succ]
              refine wpAnyH_takeS HNS (i := 32) (v := .pointer (some ⟨g3, 4, none⟩)) rfl (by kernel_rfl) (by kernel_rfl) (fun _ _ _ h => h) (Or.inl ⟨by kernel_rfl, fun W hW => ?_⟩) hS ?_
              · go_simp
              simp only [Act.put, List.getElem_toArray, List.getElem_cons_succ, List.getElem_cons_zero, List.setIfInBounds_toArray, List.set_cons_zero, List.set_cons_succ]
              refine wpAnyH_takeS HNS (i := 33) (v := .pointer (some ⟨g3, 4, none⟩)) rfl (by kernel_rfl) (by kernel_rfl) (fun _ _ _ h => h) (Or.inl ⟨by kernel_rfl, fun W hW => ?_⟩) hS ?_
              · go_simp
              simp only [Act.put, List.getElem_toArray, List.getElem_cons_succ, List.getElem_cons_zero, List.setIfInBounds_toArray, List.set_cons_zero, List.set_cons_succ]
              refine wpAnyH_takeS HNS (i := 34) (v := .slice (some ⟨bp, op, none⟩) 1 a3.cc) rfl (by kernel_rfl) (by kernel_rfl) (fun _ _ _ h => h) (Or.inl ⟨by kernel_rfl, fun W hW => ?_⟩) hS ?_
              · (have z0 := (hW.cell (p := ⟨g3, _, none⟩) hg3).trans w4; go_simp)
              simp only [Act.put, List.getElem_toArray, List.getElem_cons_succ, List.getElem_cons_zero, List.setIfInBounds_toArray, List.set_cons_zero, List.set_cons_succ]
              refine wpAnyH_takeS HNS (i := 35) (v := .int .i64 1) rfl (by kernel_rfl) (by kernel_rfl) (fun _ _ _ h => h) (Or.inl ⟨by kernel_rfl, fun W hW => ?_⟩) hS ?_
              · go_simp
              simp only [Act.put, List.getElem_toArray, List.getElem_cons_succ, List.getElem_cons_zero, List.setIfInBounds_toArray, List.set_cons_zero, List.set_cons_succ]
              refine wpAnyH_takeS HNS (i := 36) (v := .bool true) rfl (by kernel_rfl) (by kernel_rfl) (fun _ _ _ h => h) (Or.inl ⟨by kernel_rfl, fun W hW => ?_⟩) hS ?_
              · go_simp
              simp only [Act.put, List.getElem_toArray, List.getElem_cons_succ, List.getElem_cons_zero, List.setIfInBounds_toArray, List.set_cons_zero, List.set_cons_succ]
              refine wpAnyH_takeS HNS (i := 37) (v := .bool true) rfl (by kernel_rfl) (by kernel_rfl) (fun _ _ _ h => h) (Or.inl ⟨by kernel_rfl, fun W hW => ?_⟩) hS ?_
              · go_simp
              simp only [Act.put, List.getElem_toArray, List.getElem_cons_succ, List.getElem_cons_zero, List.setIfInBounds_toArray, List.set_cons_zero, List.set_cons_succ]
              refine wpAnyH_takeS HNS (i := 38) (v := .bool true) rfl (by kernel_rfl) (by kernel_rfl) (fun _ _ _ h => h) (Or.inl ⟨by kernel_rfl, fun W hW => ?_⟩) hS ?_
              · go_simp
              simp only [Act.put, List.getElem_toArray, List.getElem_cons_succ, List.getElem_cons_zero, List.setIfInBounds_toArray, List.set_cons_zero, List.set_cons_succ]
              refine wpAnyH_takeS HNS (i := 39) (v := .pointer (some ⟨g3, 4, none⟩)) rfl (by kernel_rfl) (by kernel_rfl) (fun _ _ _ h => h) (Or.inl ⟨by kernel_rfl, fun W hW => ?_⟩) hS ?_
              · go_simp
              simp only [Act.put, List.getElem_toArray, List.getElem_cons_succ, List.getElem_cons_zero, List.setIfInBounds_toArray, List.set_cons_zero, List.set_cons_succ]
              as_aux_lemma =>
                refine wpAnyH_takeS HNS (i := 40) (v := .pointer (some ⟨g3, 4, none⟩)) rfl (by kernel_rfl) (by kernel_rfl) (fun _ _ _ h => h) (Or.inl ⟨by kernel_rfl, fun W hW => ?_⟩) hS ?_
                · go_simp
                simp only [Act.put, List.getElem_toArray, List.getElem_cons_succ, List.getElem_cons_zero, List.setIfInBounds_toArray, List.set_cons_zero, List.set_cons_succ]
                refine wpAnyH_takeS HNS (i := 41) (v := .slice (some ⟨bp, op, none⟩) 1 a3.cc) rfl (by kernel_rfl) (by kernel_rfl) (fun _ _ _ h => h) (Or.inl ⟨by kernel_rfl, fun W hW => ?_⟩) hS ?_
                · (have z0 := (hW.cell (p := ⟨g3, _, none⟩) hg3).trans w4; go_simp)
                simp only [Act.put, List.getElem_toArray, List.getElem_cons_succ, List.getElem_cons_zero, List.setIfInBounds_toArray, List.set_cons_zero, List.set_cons_succ]
                refine wpAnyH_takeS HNS (i := 42) (v := .pointer (some ⟨bp, op, none⟩)) rfl (by kernel_rfl) (by kernel_rfl) (fun _ _ _ h => h) (Or.inl ⟨by kernel_rfl, fun W hW => ?_⟩) hS ?_
                · go_simp
                simp only [Act.put, List.getElem_toArray, List.getElem_cons_succ, List.getElem_cons_zero, List.setIfInBounds_toArray, List.set_cons_zero, List.set_cons_succ]
                refine wpAnyH_takeS HNS (i := 43) (v := .pointer (some ⟨bp, op + 2, none⟩)) rfl (by kernel_rfl) (by kernel_rfl) (fun _ _ _ h => h) (Or.inl ⟨by kernel_rfl, fun W hW => ?_⟩) hS ?_
                · go_simp
                simp only [Act.put, List.getElem_toArray, List.getElem_cons_succ, List.getElem_cons_zero, List.setIfInBounds_toArray, List.set_cons_zero, List.set_cons_succ]
                refine wpAnyH_takeS HNS (i := 44) (v := .pointer (some ⟨bp, op + 7, none⟩)) rfl (by kernel_rfl) (by kernel_rfl) (fun _ _ _ h => h) (Or.inl ⟨by kernel_rfl, fun W hW => ?_⟩) hS ?_
                · go_simp
                simp only [Act.put, List.getElem_toArray, List.getElem_cons_succ, List.getElem_cons_zero, List.setIfInBounds_toArray, List.set_cons_zero, List.set_cons_succ]
                refine wpAnyH_takeS HNS (i := 45) (v := .int .i64 7) rfl (by kernel_rfl) (by kernel_rfl) (fun _ _ _ h => h) (Or.inl ⟨by kernel_rfl, fun W hW => ?_⟩) hS ?_
                · (have z0 := (hW.cell (p := ⟨bp, _, none⟩) hbp).trans s7; go_simp)
                simp only [Act.put, List.getElem_toArray, List.getElem_cons_succ, List.getElem_cons_zero, List.setIfInBounds_toArray, List.set_cons_zero, List.set_cons_succ]
                refine wpAnyH_takeS HNS (i := 46) (v := .bool true) rfl (by kernel_rfl) (by kernel_rfl) (fun _ _ _ h => h) (Or.inl ⟨by kernel_rfl, fun W hW => ?_⟩) hS ?_
                · go_simp
                simp only [Act.put, List.getElem_toArray, List.getElem_cons_succ, List.getElem_cons_zero, List.setIfInBounds_toArray, List.set_cons_zero, List.set_cons_succ]
                refine wpAnyH_takeS HNS (i := 47) (v := .bool true) rfl (by kernel_rfl) (by kernel_rfl) (fun _ _ _ h => h) (Or.inl ⟨by kernel_rfl, fun W hW => ?_⟩) hS ?_
                · go_simp
                simp only [Act.put, List.getElem_toArray, List.getElem_cons_succ, List.getElem_cons_zero, List.setIfInBounds_toArray, List.set_cons_zero, List.set_cons_succ]
                refine wpAnyH_takeS HNS (i := 48) (v := .bool true) rfl (by kernel_rfl) (by kernel_rfl) (fun _ _ _ h => h) (Or.inl ⟨by kernel_rfl, fun W hW => ?_⟩) hS ?_
                · go_simp
                simp only [Act.put, List.getElem_toArray, List.getElem_cons_succ, List.getElem_cons_zero, List.setIfInBounds_toArray, List.set_cons_zero, List.set_cons_succ]
                refine wpAnyH_takeS HNS (i := 49) (v := .slice (some ⟨bg, og, none⟩) 2 k9) rfl (by kernel_rfl) (by kernel_rfl) (fun _ _ _ h => h) (Or.inl ⟨by kernel_rfl, fun W hW => ?_⟩) hS ?_
                · go_simp
                simp only [Act.put, List.getElem_toArray, List.getElem_cons_succ, List.getElem_cons_zero, List.setIfInBounds_toArray, List.set_cons_zero, List.set_cons_succ]
                as_aux_lemma =>
                  refine wpAnyH_takeS HNS (i := 50) (v := .pointer (some ⟨bg, og + 4, none⟩)) rfl (by kernel_rfl) (by kernel_rfl) (fun _ _ _ h => h) (Or.inl ⟨by kernel_rfl, fun W hW => ?_⟩) hS ?_
                  · go_simp
                  simp only [Act.put, List.getElem_toArray, List.getElem_cons_succ, List.getElem_cons_zero, List.setIfInBounds_toArray, List.set_cons_zero, List.set_cons_succ]
                  refine wpAnyH_takeS HNS (i := 51) (v := .pointer (some ⟨bg, og + 4 + 3, none⟩)) rfl (by kernel_rfl) (by kernel_rfl) (fun _ _ _ h => h) (Or.inl ⟨by kernel_rfl, fun W hW => ?_⟩) hS ?_
                  · go_simp
                  simp only [Act.put, List.getElem_toArray, List.getElem_cons_succ, List.getElem_cons_zero, List.setIfInBounds_toArray, List.set_cons_zero, List.set_cons_succ]
                  refine wpAnyH_takeS HNS (i := 52) (v := .int .i64 2) rfl (by kernel_rfl) (by kernel_rfl) (fun _ _ _ h => h) (Or.inl ⟨by kernel_rfl, fun W hW => ?_⟩) hS ?_
                  · (have z0 := (hW.cell (p := ⟨bg, _, none⟩) hbg).trans g7; go_simp)
                  simp only [Act.put, List.getElem_toArray, List.getElem_cons_succ, List.getElem_cons_zero, List.setIfInBounds_toArray, List.set_cons_zero, List.set_cons_succ]
                  refine wpAnyH_takeS HNS (i := 53) (v := .bool true) rfl (by kernel_rfl) (by kernel_rfl) (fun _ _ _ h => h) (Or.inl ⟨by kernel_rfl, fun W hW => ?_⟩) hS ?_
                  · go_simp
                  simp only [Act.put, List.getElem_toArray, List.getElem_cons_succ, List.getElem_cons_zero, List.setIfInBounds_toArray, List.set_cons_zero, List.set_cons_succ]
                  refine wpAnyH_takeS HNS (i := 54) (v := .bool true) rfl (by kernel_rfl) (by kernel_rfl) (fun _ _ _ h => h) (Or.inl ⟨by kernel_rfl, fun W hW => ?_⟩) hS ?_
                  · go_simp
                  simp only [Act.put, List.getElem_toArray, List.getElem_cons_succ, List.getElem_cons_zero, List.setIfInBounds_toArray, List.set_cons_zero, List.set_cons_succ]
                  refine wpAnyH_takeS HNS (i := 55) (v := .bool true) rfl (by kernel_rfl) (by kernel_rfl) (fun _ _ _ h => h) (Or.inl ⟨by kernel_rfl, fun W hW => ?_⟩) hS ?_
                  · go_simp
                  simp only [Act.put, List.getElem_toArray, List.getElem_cons_succ, List.getElem_cons_zero, List.setIfInBounds_toArray, List.set_cons_zero, List.set_cons_succ]
                  refine wpAnyH_takeS HNS (i := 56) (v := .slice (some ⟨bd, od, none⟩) 2 k10) rfl (by kernel_rfl) (by kernel_rfl) (fun _ _ _ h => h) (Or.inl ⟨by kernel_rfl, fun W hW => ?_⟩) hS ?_
                  · go_simp
                  simp only [Act.put, List.getElem_toArray, List.getElem_cons_succ, List.getElem_cons_zero, List.setIfInBounds_toArray, List.set_cons_zero, List.set_cons_succ]
                  refine wpAnyH_takeS HNS (i := 57) (v := .pointer (some ⟨bd, od + 2, none⟩)) rfl (by kernel_rfl) (by kernel_rfl) (fun _ _ _ h => h) (Or.inl ⟨by kernel_rfl, fun W hW => ?_⟩) hS ?_
                  · go_simp
                  simp only [Act.put, List.getElem_toArray, List.getElem_cons_succ, List.getElem_cons_zero, List.setIfInBounds_toArray, List.set_cons_zero, List.set_cons_succ]
                  refine wpAnyH_takeS HNS (i := 58) (v := .agg #[.int .i64 (-1), .int .i64 0]) rfl (by kernel_rfl) (by kernel_rfl) (fun _ _ _ h => h) (Or.inl ⟨by kernel_rfl, fun W hW => ?_⟩) hS ?_
                  · (have z0 := (hW.cell (p := ⟨bd, _, none⟩) hbd).trans d0; have z1 := (hW.cell (p := ⟨bd, _, none⟩) hbd).trans d1; go_simp)
                  simp only [Act.put, List.getElem_toArray, List.getElem_cons_succ, List.getElem_cons_zero, List.setIfInBounds_toArray, List.set_cons_zero, List.set_cons_succ]
                  refine wpAnyH_ready (rs := [59]) (by kernel_rfl) (by simp) ?_
                  refine (AllReadyH.cons rfl (fun K hK => ?_) AllReadyH.nil)
                  · rw [if_pos (by kernel_rfl)]
                    go_simp
                    go_at_call 10
                    (with_reducible refine (none_z _).mono ?_)
                    rintro _ u7 ⟨rfl, hb7⟩
                    replace hS := Below.step hS hb7
                    (repeat (first | go_skip | go_guarded | go_step | go_upon))
                    refine hK.out _ _ hS (fun _ => ?_)
                    clear hK K
                    (try simp only [Act.put, List.getElem_toArray, List.getElem_cons_succ, List.getElem_cons_zero, List.setIfInBounds_toArray, List.set_cons_zero, List.set_cons_succ])
                    refine wpAnyH_takeS HNS (i := 60) (v := .bool true) rfl (by kernel_rfl) (by kernel_rfl) (fun _ _ _ h => h) (Or.inl ⟨by kernel_rfl, fun W hW => ?_⟩) hS ?_
                    · go_simp
                    simp only [Act.put, List.getElem_toArray, List.getElem_cons_succ, List.getElem_cons_zero, List.setIfInBounds_toArray, List.set_cons_zero, List.set_cons_succ]
                    refine wpAnyH_takeS HNS (i := 61) (v := .bool true) rfl (by kernel_rfl) (by kernel_rfl) (fun _ _ _ h => h) (Or.inl ⟨by kernel_rfl, fun W hW => ?_⟩) hS ?_
                    · go_simp
                    simp only [Act.put, List.getElem_toArray, List.getElem_cons_succ, List.getElem_cons_zero, List.setIfInBounds_toArray, List.set_cons_zero, List.set_cons_succ]
                    refine wpAnyH_takeS HNS (i := 62) (v := .bool true) rfl (by kernel_rfl) (by kernel_rfl) (fun _ _ _ h => h) (Or.inl ⟨by kernel_rfl, fun W hW => ?_⟩) hS ?_
                    · go_simp
                    simp only [Act.put, List.getElem_toArray, List.getElem_cons_succ, List.getElem_cons_zero, List.setIfInBounds_toArray, List.set_cons_zero, List.set_cons_succ]
                    refine wpAnyH_takeS HNS (i := 63) (v := .slice A11 0 k11) rfl (by kernel_rfl) (by kernel_rfl) (fun _ _ _ h => h) (Or.inl ⟨by kernel_rfl, fun W hW => ?_⟩) hS ?_
                    · go_simp
                    simp only [Act.put, List.getElem_toArray, List.getElem_cons_succ, List.getElem_cons_zero, List.setIfInBounds_toArray, List.set_cons_zero, List.set_cons_succ]
                    refine wpAnyH_takeS HNS (i := 64) (v := .int .i64 0) rfl (by kernel_rfl) (by kernel_rfl) (fun _ _ _ h => h) (Or.inl ⟨by kernel_rfl, fun W hW => ?_⟩) hS ?_
                    · go_simp
                    simp only [Act.put, List.getElem_toArray, List.getElem_cons_succ, List.getElem_cons_zero, List.setIfInBounds_toArray, List.set_cons_zero, List.set_cons_succ]
                    refine wpAnyH_takeS HNS (i := 65) (v := .bool true) rfl (by kernel_rfl) (by kernel_rfl) (fun _ _ _ h => h) (Or.inl ⟨by kernel_rfl, fun W hW => ?_⟩) hS ?_
                    · go_simp
                    simp only [Act.put, List.getElem_toArray, List.getElem_cons_succ, List.getElem_cons_zero, List.setIfInBounds_toArray, List.set_cons_zero, List.set_cons_succ]
                    refine wpAnyH_takeS HNS (i := 66) (v := .bool true) rfl (by kernel_rfl) (by kernel_rfl) (fun _ _ _ h => h) (Or.inl ⟨by kernel_rfl, fun W hW => ?_⟩) hS ?_
                    · go_simp
                    simp only [Act.put, List.getElem_toArray, List.getElem_cons_succ, List.getElem_cons_zero, List.setIfInBounds_toArray, List.set_cons_zero, List.set_cons_succ]
                    refine wpAnyH_takeS HNS (i := 67) (v := .bool true) rfl (by kernel_rfl) (by kernel_rfl) (fun _ _ _ h => h) (Or.inl ⟨by kernel_rfl, fun W hW => ?_⟩) hS ?_
                    · go_simp
                    simp only [Act.put, List.getElem_toArray, List.getElem_cons_succ, List.getElem_cons_zero, List.setIfInBounds_toArray, List.set_cons_zero, List.set_cons_succ]
                    refine wpAnyH_takeS HNS (i := 68) (v := .slice A12 0 k12) rfl (by kernel_rfl) (by kernel_rfl) (fun _ _ _ h => h) (Or.inl ⟨by kernel_rfl, fun W hW => ?_⟩) hS ?_
                    · go_simp
                    simp only [Act.put, List.getElem_toArray, List.getElem_cons_succ, List.getElem_cons_zero, List.setIfInBounds_toArray, List.set_cons_zero, List.set_cons_succ]
                    refine wpAnyH_takeS HNS (i := 69) (v := .int .i64 0) rfl (by kernel_rfl) (by kernel_rfl) (fun _ _ _ h => h) (Or.inl ⟨by kernel_rfl, fun W hW => ?_⟩) hS ?_
                    · go_simp
                    simp only [Act.put, List.getElem_toArray, List.getElem_cons_succ, List.getElem_cons_zero, List.setIfInBounds_toArray, List.set_cons_zero, List.set_cons_succ]
                    as_aux_lemma =>
                      refine wpAnyH_takeS HNS (i := 70) (v := .bool true) rfl (by kernel_rfl) (by kernel_rfl) (fun _ _ _ h => h) (Or.inl ⟨by kernel_rfl, fun W hW => ?_⟩) hS ?_
                      · go_simp
                      simp only [Act.put, List.getElem_toArray, List.getElem_cons_succ, List.getElem_cons_zero, List.setIfInBounds_toArray, List.set_cons_zero, List.set_cons_succ]
                      refine wpAnyH_takeS HNS (i := 71) (v := .bool true) rfl (by kernel_rfl) (by kernel_rfl) (fun _ _ _ h => h) (Or.inl ⟨by kernel_rfl, fun W hW => ?_⟩) hS ?_
                      · go_simp
                      simp only [Act.put, List.getElem_toArray, List.getElem_cons_succ, List.getElem_cons_zero, List.setIfInBounds_toArray, List.set_cons_zero, List.set_cons_succ]
                      refine wpAnyH_takeS HNS (i := 72) (v := .bool true) rfl (by kernel_rfl) (by kernel_rfl) (fun _ _ _ h => h) (Or.inl ⟨by kernel_rfl, fun W hW => ?_⟩) hS ?_
                      · go_simp
                      simp only [Act.put, List.getElem_toArray, List.getElem_cons_succ, List.getElem_cons_zero, List.setIfInBounds_toArray, List.set_cons_zero, List.set_cons_succ]
                      refine wpAnyH_takeS HNS (i := 73) (v := .agg (wcs a3 wl13)) rfl (by kernel_rfl) (by kernel_rfl) (fun _ _ _ h => h) (yieldsIf_load_midA (by kernel_rfl) 40 _ rfl g3 0 (by rfl) (wcs a3 wl13) _ (fun W hW => rng_held (Held.below v3.x hW)) Tryd.underlying40 rfl (by kernel_rfl)) hS ?_
                      simp only [Act.put, List.getElem_toArray, List.getElem_cons_succ, List.getElem_cons_zero, List.setIfInBounds_toArray, List.set_cons_zero, List.set_cons_succ]
                      refine wpAnyH_takeS HNS (i := 74) (v := .agg (wcs a3 wl13)) rfl (by kernel_rfl) (by kernel_rfl) (fun _ _ _ h => h) (yieldsIf_load_midA (by kernel_rfl) 40 _ rfl g3 0 (by rfl) (wcs a3 wl13) _ (fun W hW => rng_held (Held.below v3.x hW)) Tryd.underlying40 rfl (by kernel_rfl)) hS ?_
                      simp only [Act.put, List.getElem_toArray, List.getElem_cons_succ, List.getElem_cons_zero, List.setIfInBounds_toArray, List.set_cons_zero, List.set_cons_succ]
                      refine wpAnyH_ready (rs := [75]) (by kernel_rfl) (by simp) ?_
                      refine (AllReadyH.cons rfl (fun K hK => ?_) AllReadyH.nil)
                      · rw [if_pos (by kernel_rfl)]
                        go_simp
                        go_at_call 12
                        (with_reducible refine (sameW_c C sm13 wl13_len wl13_len _ (C.kept HTQ.out hS) (v3.below hS).p (v3.below hS).p).mono ?_)
                        rintro _ u8 ⟨rfl, hb8⟩
                        replace hS := Below.step hS hb8
                        (repeat (first | go_skip | go_guarded | go_step | go_upon))
                        refine hK.out _ _ hS (fun _ => ?_)
                        clear hK K
                        (try simp only [Act.put, List.getElem_toArray, List.getElem_cons_succ, List.getElem_cons_zero, List.setIfInBounds_toArray, List.set_cons_zero, List.set_cons_succ])
                        refine wpAnyH_takeS HNS (i := 76) (v := .bool true) rfl (by kernel_rfl) (by kernel_rfl) (fun _ _ _ h => h) (Or.inl ⟨by kernel_rfl, fun W hW => ?_⟩) hS ?_
                        · go_simp
                        simp only [Act.put, List.getElem_toArray, List.getElem_cons_succ, List.getElem_cons_zero, List.setIfInBounds_toArray, List.set_cons_zero, List.set_cons_succ]
                        refine wpAnyH_takeS HNS (i := 77) (v := .bool true) rfl (by kernel_rfl) (by kernel_rfl) (fun _ _ _ h => h) (Or.inl ⟨by kernel_rfl, fun W hW => ?_⟩) hS ?_
                        · go_simp
                        simp only [Act.put, List.getElem_toArray, List.getElem_cons_succ, List.getElem_cons_zero, List.setIfInBounds_toArray, List.set_cons_zero, List.set_cons_succ]
                        refine wpAnyH_takeS HNS (i := 78) (v := .agg (wcs a3 wl13)) rfl (by kernel_rfl) (by kernel_rfl) (fun _ _ _ h => h) (yieldsIf_load_midA (by kernel_rfl) 40 _ rfl g3 0 (by rfl) (wcs a3 wl13) _ (fun W hW => rng_held (Held.below v3.x hW)) Tryd.underlying40 rfl (by kernel_rfl)) hS ?_
                        simp only [Act.put, List.getElem_toArray, List.getElem_cons_succ, List.getElem_cons_zero, List.setIfInBounds_toArray, List.set_cons_zero, List.set_cons_succ]
                        refine wpAnyH_takeS HNS (i := 79) (v := .agg wz0) rfl (by kernel_rfl) (by kernel_rfl) (fun _ _ _ h => h) (Or.inl ⟨by kernel_rfl, fun W hW => ?_⟩) hS ?_
                        · go_simp
                        simp only [Act.put, List.getElem_toArray, List.getElem_cons_succ, List.getElem_cons_zero, List.setIfInBounds_toArray, List.set_cons_zero, List.set_cons_succ]
                        refine wpAnyH_ready (rs := [80]) (by kernel_rfl) (by simp) ?_
                        refine (AllReadyH.cons rfl (fun K hK => ?_) AllReadyH.nil)
                        · rw [if_pos (by kernel_rfl)]
                          go_simp
                          go_at_call 12
                          (with_reducible refine (same13 C _ (C.kept HTQ.out hS) (v3.below hS).p).mono ?_)
                          rintro _ u9 ⟨rfl, hb9⟩
                          replace hS := Below.step hS hb9
                          (repeat (first | go_skip | go_guarded | go_step | go_upon))
                          refine hK.out _ _ hS (fun _ => ?_)
                          clear hK K
                          (try simp only [Act.put, List.getElem_toArray, List.getElem_cons_succ, List.getElem_cons_zero, List.setIfInBounds_toArray, List.set_cons_zero, List.set_cons_succ])
                          refine wpAnyH_takeS HNS (i := 81) (v := .bool true) rfl (by kernel_rfl) (by kernel_rfl) (fun _ _ _ h => h) (Or.inl ⟨by kernel_rfl, fun W hW => ?_⟩) hS ?_
                          · go_simp
                          simp only [Act.put, List.getElem_toArray, List.getElem_cons_succ, List.getElem_cons_zero, List.setIfInBounds_toArray, List.set_cons_zero, List.set_cons_succ]
                          refine wpAnyH_takeS HNS (i := 82) (v := .bool true) rfl (by kernel_rfl) (by kernel_rfl) (fun _ _ _ h => h) (Or.inl ⟨by kernel_rfl, fun W hW => ?_⟩) hS ?_
                          · go_simp
                          simp only [Act.put, List.getElem_toArray, List.getElem_cons_succ, List.getElem_cons_zero, List.setIfInBounds_toArray, List.set_cons_zero, List.set_cons_succ]
                          refine wpAnyH_takeS HNS (i := 83) (v := .bool true) rfl (by kernel_rfl) (by kernel_rfl) (fun _ _ _ h => h) (Or.inl ⟨by kernel_rfl, fun W hW => ?_⟩) hS ?_
                          · go_simp
                          simp only [Act.put, List.getElem_toArray, List.getElem_cons_succ, List.getElem_cons_zero, List.setIfInBounds_toArray, List.set_cons_zero, List.set_cons_succ]
                          refine wpAnyH_done (by kernel_rfl) ?_ _
                          (repeat (first | go_skip | go_guarded | go_step | go_upon))
                          go_ret
                          exact ⟨rfl, Below.step HBD.out hS⟩
end Go.Proofs.YtjibkgildfjjoaaDoor

/- Layer 13: world.New. -/
namespace Go.Proofs.YtjibkgildfjjoaaDoor
set_option linter.unusedVariables false
set_option linter.unusedSimpArgs false
open Gm Go.RowKit Go.ChangeShapes Go.WideShapes Go.ChangeAt Go.Sort

theorem newf_w {A A2 : Option Addr} {p : List Fun} {args : List V} (c c2 : Nat) (fn s : Int) (w : World) (hT : TabB w w.heap.size) (h : ProgAt w w.heap.size A p) (hz : SizedP p) (ha : VAt w w.heap.size A2 args) (hl : args.length ≤ 1000) :
    Calls Tryd.prog 31 #[.slice A p.length c, .int .i64 fn, .slice A2 args.length c2, .int .i64 s] w fun e w' => ∃ ds : Array Value, e = .returned (.tuple #[.agg ds, .bool (newF p fn args s).2]) ∧ ds.size = 16 ∧ ds.all (·.oneCell') = true ∧ OwnF w' w.heap.size (.agg ds) (newF p fn args s).1 ∧ Below w.heap.size w w' := by
  have key : Calls Tryd.prog 31 #[.slice A p.length c, .int .i64 fn, .slice A2 args.length c2, .int .i64 s] w (NewQ w (newF p fn args s)) := by
    by_cases hno : mayP p = true ∧ hasI p.length fn = true ∧ isZ s = true
    · exact new_yes c c2 fn s w hT h hz ha hl (Nat.le_refl _) hno.1 hno.2.1 hno.2.2
    · exact new_no c c2 fn s w hT h hz (Nat.le_refl _) hno
  refine key.mono fun e w' ⟨v', he, ho, hb⟩ => ?_
  obtain ⟨ds, rfl, h1, h2, -⟩ := frm_ds ho.at
  exact ⟨ds, he, h1, h2, ho, hb⟩
theorem grown_step {w u v : World} {r : Option Nat} (h : w.grownBy u r) (hb : Below u.heap.size u v) : w.grownBy v r :=
  ⟨hb.os.trans h.os, hb.tape.trans h.tape, hb.output.trans h.output, Nat.le_trans h.size hb.size, fun k hk hne => (hb.block k (Nat.lt_of_lt_of_le hk h.size)).trans (h.block k hk hne)⟩
theorem grown_row {w u : World} {g : Nat} (h : w.grownBy u (some g)) (cs : Array Value) : w.grownBy (u.setRow g cs) (some g) :=
  ⟨h.os, h.tape, h.output, by simpa [World.setRow] using h.size, fun k hk hne => (row_far0 u g cs k (fun e => hne (by rw [e]))).trans (h.block k hk hne)⟩
theorem first_facts {p : List Fun} {x1 x2 x3 : Int} (h : checkP p = (x1, x2, x3)) (h0 : (x3 == 0) = true) : mayP p = true := (check_facts (by rw [h]; simpa using h0)).1
set_option maxHeartbeats 8000000 in
set_option maxRecDepth 100000 in
theorem new_w {Ap A2 : Option Addr} {p : List Fun} {args : List V} {B : Nat} (c c2 : Nat) (s k lf lm lr : Int) (w : World) (hT : TW w) (hp0 : ProgAt w B Ap p) (hz : SizedP p) (ha0 : VAt w B A2 args) (hl : args.length ≤ 1000) (hB : B ≤ w.heap.size) :
    Calls Tryd.prog 17 #[.slice Ap p.length c, .slice A2 args.length c2, .int .i64 s, .int .i64 k, .agg (lmc lf lm lr)] w (WorldQ w (newW p args s k lf lm lr)) := by
  have hp := hp0.more hB
  have ha := ha0.more hB
  have hb := below2 w (.cells (lmc lf lm lr) 25) (.cells wz0 40)
  have k9 := (Held.new w 25 (lmc lf lm lr)).alloc (.cells wz0 40)
  have k10 := Held.new1 w (.cells (lmc lf lm lr) 25) 40 wz0
  have CK := fun (W : World) (hW : Below w.heap.size w W) => check_any c W (hT.below hW).tb.ot (hp.later hW) hz (Nat.le_refl _)
  have NF := fun (W : World) (hW : Below w.heap.size w W) => newf_w c c2 0 s W (hT.below hW).tb (hp.later hW) hz (ha.later hW) hl
  have OP := fun (W : World) (hW : Below w.heap.size w W) (hm : mayP p = true) => own_w c W (hp.later hW) hm
  have HT := Lib.hid hT
  have LF := newF_lenP p 0 args s
  obtain ⟨R, hR⟩ : ∃ R, newW p args s k lf lm lr = R := ⟨_, rfl⟩
  rw [hR]
  unfold newW mayW at hR
  obtain ⟨FN, hFN⟩ : ∃ F, newF p 0 args s = F := ⟨_, rfl⟩
  obtain ⟨f, u2⟩ := FN
  obtain ⟨⟨x1, x2, x3⟩, hCP⟩ : ∃ t, checkP p = t := ⟨_, rfl⟩
  have hMP := first_facts hCP
  simp only [hFN] at NF hR LF
  simp only [hCP] at CK hR
  have HNF := Lib.hid NF
  have HCK := Lib.hid CK
  have HOP := Lib.hid OP
  have HR := Lib.hid hR
  have HLF := Lib.hid LF
  have HMP := Lib.hid hMP
  clear hp hz ha hl hB NF CK OP hR hFN hCP hT hp0 ha0 LF hMP
  obtain ⟨al, hal⟩ : ∃ n, args.length = n := ⟨_, rfl⟩
  obtain ⟨pl, hpl⟩ : ∃ n, p.length = n := ⟨_, rfl⟩
  simp only [hal, hpl] at HNF HCK HOP ⊢
  have HPL := Lib.hid hpl
  clear hal hpl
  have key : ((x3 != 0) = true ∨ ((x3 != 0) = false ∧ decide (lf < 1) = true) ∨ ((x3 != 0) = false ∧ decide (lf < 1) = false ∧ decide (100000 < lf) = true)) ∧ ((x3 == 0) && (decide (1 ≤ lf) && decide (lf ≤ 100000))) = false ∨
      ((x3 != 0) = false ∧ decide (lf < 1) = false ∧ decide (100000 < lf) = false) ∧ (x3 == 0) = true ∧ (decide (1 ≤ lf) && decide (lf ≤ 100000)) = true := by
    have h5 : decide (1 ≤ lf) = !decide (lf < 1) := by by_cases h : lf < 1 <;> simp [h] <;> omega
    have h6 : decide (lf ≤ 100000) = !decide (100000 < lf) := by by_cases h : 100000 < lf <;> simp [h] <;> omega
    rw [h5, h6]
    have h7 : (x3 != 0) = !(x3 == 0) := rfl
    rw [h7]
    generalize (x3 == 0) = b4 at *
    generalize decide (lf < 1) = b5 at *
    generalize decide (100000 < lf) = b6 at *
    cases b4 <;> cases b5 <;> cases b6 <;> simp
  rcases key with ⟨hbad, hno⟩ | ⟨⟨c1, c2', c3⟩, d1, d2⟩
  · have hRE : (wld0, 1) = R := by
      have h9 := HR.out
      rw [if_neg (fun h => by
        simp only [Bool.and_eq_true] at h
        rw [h.1.1.1.1, h.2.1, h.2.2] at hno
        cases hno)] at h9
      exact h9
    subst hRE
    clear hno HR HNF HOP HLF HMP
    rcases hbad with e1 | ⟨e1, e2⟩ | ⟨e1, e2, e3⟩
    all_goals
      go_enter Tryd.func17, Tryd.ntmps17
      go_upto_region 1 with (fail)
      generalize ((w.alloc (.cells (lmc lf lm lr) 25)).alloc (.cells wz0 40)) = W0 at *
      go_upto_region 2 with (go_at_call 30; (with_reducible refine (HCK.out _ hb).mono ?_); rintro _ u ⟨rfl, hbu⟩; replace k9 := Held.below k9 hbu; replace k10 := Held.below k10 hbu; replace hb := Below.step hb hbu; have y0 := k9.cell 0; simp at y0)
      go_wp2_with (guard_target = wpList _ _ _ (Oper.mk _ (Op.store 40 (.tmp 10) _) _ _ _ none :: _) _ _; refine wpList_store_row rfl 40 _ _ rfl (w.heap.size + 1) wz0 rfl rfl _ _ k10 (by kernel_rfl) rfl (by simp [Value.oneCell']) ?_)
      have hb9 := below_setRow hb (show w.heap.size ≤ (w.heap.size + 1) by omega) wz0
      exact bodyPost_ret (results_ct0 rfl _ _ rfl rfl (load_wld (held_rowSelf k10 wz0) rfl)) rfl ⟨wa0, rfl, wat0 _ _ _, hb9⟩
  · have hMP := HMP.out d1
    have HR2 : Hid ((if (u2 && (decide (1 ≤ lm) && decide (lm ≤ 1024)) && mayFr k lr) = true then ((⟨p, lf, lm, lr, ⟨[⟨0, true, f⟩], [], lm⟩, List.replicate k.toNat (rng1 lr), (0, 0) :: List.replicate (k.toNat - 1) noV, (0, 0), 0, 0, 0, 0, 0, 0, 0, 0⟩, 0) : Wld × Int) else (wld0, 1)) = R) := Lib.hid (by
      have h9 := HR.out
      rw [d1, d2] at h9
      simpa using h9)
    have HMM := Lib.hid hMP
    clear HR HMP d1 d2 hMP
    go_enter Tryd.func17, Tryd.ntmps17
    go_upto_region 1 with (fail)
    generalize ((w.alloc (.cells (lmc lf lm lr) 25)).alloc (.cells wz0 40)) = W0 at *
    go_upto_region 2 with (go_at_call 30; (with_reducible refine (HCK.out _ hb).mono ?_); rintro _ u ⟨rfl, hbu⟩; replace k9 := Held.below k9 hbu; replace k10 := Held.below k10 hbu; replace hb := Below.step hb hbu; have y0 := k9.cell 0; simp at y0)
    clear hbu
    go_upto_region 4 with (fail)
    clear y0 HCK c1 c2' c3
    go_upto_region 5 with (first
      | (go_at_call 31; (with_reducible refine (HNF.out _ hb).mono ?_); rintro _ u5 ⟨ds12, rfl, d1, d2, ho, hbu⟩; have hn := Held.new u5 54 fzc)
      | (guard_target = wpList _ _ _ (Oper.mk _ (Op.store 54 (.tmp 15) _) _ _ _ none :: _) _ _; refine wpList_store_row rfl 54 _ _ rfl u5.heap.size ds12 rfl rfl _ _ hn (by rw [d1]; kernel_rfl) (by rw [d1]; rfl) d2 ?_))
    obtain ⟨v12, hbW⟩ := new_f1 hbu d1 d2 ho.at
    clear hbu ho hn d1 d2
    replace k9 := Held.below k9 hbW
    replace k10 := Held.below k10 hbW
    replace hb := Below.step hb hbW
    clear hbW
    generalize World.setRow _ u5.heap.size _ = W1 at *
    generalize u5.heap.size = g12 at *
    obtain ⟨PN, u3, hPN⟩ : ∃ P u, newZ lm = (P, u) := ⟨_, _, rfl⟩
    have EN := Lib.hid hPN
    clear hPN
    have y1 := k9.cell 1
    simp at y1
    go_upto_region 6 with (first
      | (go_at_call 32; (with_reducible refine (new_c EN.out _).mono ?_); rintro _ u6 ⟨rfl, ho, hb6⟩; have hn := Held.new u6 29 pz0)
      | (guard_target = wpList _ _ _ (Oper.mk _ (Op.store 29 (.tmp 17) _) _ _ _ none :: _) _ _; refine wpList_store_row rfl 29 _ _ rfl u6.heap.size (pc none PN.cells.length 0 none PN.free.length 0 PN.most) rfl rfl _ _ hn (by kernel_rfl) rfl (by simp [Value.oneCell']) ?_))
    obtain ⟨v14, hbW⟩ := new_p1 (c := 0) (c2 := 0) (P := PN) hb6 ho
    have hs_14 : w.heap.size + 1 < u6.heap.size := Nat.lt_of_lt_of_le k10.lt hb6.size
    clear hb6 ho hn
    replace k9 := Held.below k9 hbW
    replace k10 := Held.below k10 hbW
    replace v12 := v12.below hbW
    replace hb := Below.step hb hbW
    clear hbW
    generalize World.setRow _ u6.heap.size _ = W2 at *
    generalize u6.heap.size = g14 at *
    clear y1
    have hk2 : w.heap.size + 1 < W2.heap.size := k10.lt
    obtain ⟨RL, CL, hFR⟩ : ∃ a b, freshR k lr = (a, b) := ⟨_, _, rfl⟩
    have FC := fresh_w k lf lm lr W2 (HT.out.below hb)
    rw [hFR] at FC
    have HFR := Lib.hid hFR
    clear hFR
    go_upto_region 7 with (first
      | (guard_target = wpList _ _ _ (Oper.mk (some 57) _ _ _ _ none :: _) _ _; refine wpList_load_row rfl 25 _ rfl w.heap.size rfl _ _ _ _ k9 Tryd.underlying25 rfl (by kernel_rfl) ?_)
      | (go_at_call 13; (with_reducible refine (FC).mono ?_); rintro _ u7 ⟨A16, c16, A17, c17, rfl, og, oc, hbF⟩; replace k9 := Held.below k9 hbF; replace k10 := Held.below k10 hbF; replace v12 := v12.below hbF; replace v14 := v14.below hbF; replace hb := Below.step hb hbF))
    clear FC hbF
    obtain ⟨nr, hnr⟩ : ∃ n, RL.length = n := ⟨_, rfl⟩
    obtain ⟨nc, hnc⟩ : ∃ n, CL.length = n := ⟨_, rfl⟩
    simp only [hnr, hnc] at og oc ⊢
    have HO := Lib.hid (And.intro og oc)
    clear og oc
    have key : (u2 = false ∨ (u2 = true ∧ u3 = false) ∨ (u2 = true ∧ u3 = true ∧ ((nr : Int) == 0) = true)) ∧ (u2 && (decide (1 ≤ lm) && decide (lm ≤ 1024)) && mayFr k lr) = false ∨ (u2 = true ∧ u3 = true ∧ ((nr : Int) == 0) = false) ∧ (u2 && (decide (1 ≤ lm) && decide (lm ≤ 1024)) && mayFr k lr) = true := by
      have h3 : (decide (1 ≤ lm) && decide (lm ≤ 1024)) = u3 := by
        have h9 := EN.out
        rw [new_first] at h9
        split at h9
        case isTrue h => rw [← (Prod.mk.inj h9).2]; simp [h.1, h.2]
        case isFalse h => rw [← (Prod.mk.inj h9).2, ← Bool.not_eq_true]; simpa using h
      have h4 : mayFr k lr = !((nr : Int) == 0) := by
        have h9 := HFR.out
        cases hm : mayFr k lr with
        | false =>
          rw [freshR_no hm] at h9
          obtain rfl := (Prod.mk.inj h9).1
          obtain rfl : 0 = nr := hnr
          rfl
        | true =>
          obtain ⟨q1, q2⟩ := (mayFr_iff _ _).1 hm
          unfold freshR at h9
          rw [if_pos hm] at h9
          have e9 : k.toNat = nr := by rw [← hnr, ← (Prod.mk.inj h9).1, List.length_replicate]
          have e8 : ¬ nr = 0 := by omega
          simp [e8]
      rw [h3, h4]
      generalize ((nr : Int) == 0) = b4 at *
      cases u2 <;> cases u3 <;> cases b4 <;> simp
    have HNR := Lib.hid (And.intro hnr hnc)
    clear hnr hnc
    rcases key with ⟨hbad, hno⟩ | ⟨⟨h2, h3, h4⟩, hyes⟩
    · have hRE := HR2.out
      rw [if_neg (by rw [hno]; decide)] at hRE
      subst hRE
      clear hno HR2
      rcases hbad with e1 | ⟨e1, e2⟩ | ⟨e1, e2, e3⟩
      all_goals
        subst e1
        try subst e2
        go_wp2_with (guard_target = wpList _ _ _ (Oper.mk _ (Op.store 40 (.tmp 10) _) _ _ _ none :: _) _ _; refine wpList_store_row rfl 40 _ _ rfl (w.heap.size + 1) wz0 rfl rfl _ _ k10 (by kernel_rfl) rfl (by simp [Value.oneCell']) ?_)
        have hb9 := below_setRow hb (show w.heap.size ≤ (w.heap.size + 1) by omega) wz0
        exact bodyPost_ret (results_ct0 rfl _ _ rfl rfl (load_wld (held_rowSelf k10 wz0) rfl)) rfl ⟨wa0, rfl, wat0 _ _ _, hb9⟩
    · subst h2 h3
      have hRE := HR2.out
      rw [if_pos hyes] at hRE
      have hlm : 1 ≤ lm ∧ lm ≤ 1024 := by
        simp only [Bool.and_eq_true, decide_eq_true_eq] at hyes
        exact hyes.1.2
      have hkr : mayFr k lr = true := by
        simp only [Bool.and_eq_true] at hyes
        exact hyes.2
      have hPN : PN = ⟨[], [], lm⟩ := by
        have h9 := EN.out
        rw [new_first, if_pos hlm] at h9
        exact (Prod.mk.inj h9).1.symm
      obtain ⟨LN, hLN⟩ : ∃ L : Zp, L = ⟨[⟨0, true, f⟩], [], lm⟩ := ⟨_, rfl⟩
      obtain ⟨r0, hr0⟩ : ∃ r : V, r = (0, 0) := ⟨_, rfl⟩
      have hlay : layZ PN f = (LN, r0, 0) := by rw [hPN, lay_first hlm.1 hlm.2, hLN, hr0]
      have LPN : LenZ PN := by rw [hPN]; exact ⟨by simp, by simp, fun i hi => absurd hi (by simp)⟩
      have LC := Lib.hid (fun (W : World) {A A2 : Option Addr} {c c2 : Nat} {ds : Array Value} (hp : PAtZ W W.heap.size A A2 PN) (hs : ds.size = 16) (hf : FrmAt W W.heap.size (.agg ds) f) => lay_c hlay LPN HLF.out c c2 W hp hs hf)
      obtain ⟨kn, hkn⟩ : ∃ kn : Nat, k = kn ∧ 1 ≤ kn := by
        have h9 := (mayFr_iff _ _).1 hkr
        exact ⟨k.toNat, by omega, by omega⟩
      have hFR := HFR.out
      unfold freshR at hFR
      rw [if_pos hkr] at hFR
      have hRL := (Prod.mk.inj hFR).1
      have hCL := (Prod.mk.inj hFR).2
      have hcs : (r0 :: List.replicate (k.toNat - 1) noV) = CL.set 0 r0 := by
        rw [← hCL, hkn.1, Int.toNat_natCast]
        obtain ⟨m, rfl⟩ : ∃ m, kn = m + 1 := ⟨kn - 1, by omega⟩
        simp [List.replicate_succ]
      have hnc1 : 1 ≤ nc := by
        rw [← HNR.out.2, ← hCL, List.length_replicate]
        omega
      have hRE2 : R = (⟨p, lf, lm, lr, LN, RL, CL.set 0 r0, r0, 0, 0, 0, 0, 0, 0, 0, 0⟩, 0) := by rw [← hRE, hLN, ← hcs, hr0, hRL]
      have HRE := Lib.hid hRE2
      have HCN := Lib.hid (show 0 < CL.length by rw [HNR.out.2]; exact hnc1)
      have ogc := And.intro HO.out.1 (show OwnR _ W2.heap.size (.slice A17 nc c17) CL from HO.out.2)
      clear hRE hRE2 hlm hkr hPN hLN hr0 hlay LPN hkn hFR hRL hCL hcs HR2 hyes HO
      obtain ⟨og, oc⟩ := ogc
      obtain ⟨g17, c17', e17⟩ := r_form oc (by rw [HNR.out.2]; exact hnc1)
      rw [HNR.out.2] at e17
      simp only [Value.slice.injEq] at e17
      obtain ⟨rfl, -, -⟩ := e17
      go_upto_region 9 with (fail)
      go_upto_region 10 with (first
        | (guard_target = wpList _ _ _ (Oper.mk (some 74) _ _ _ _ none :: _) _ _; refine wpList_load_row rfl 29 _ rfl g14 rfl _ _ _ _ v14.x Tryd.underlying29 rfl (by kernel_rfl) ?_)
        | (guard_target = wpList _ _ _ (Oper.mk (some 75) _ _ _ _ none :: _) _ _; refine wpList_load_row rfl 54 _ rfl g12 rfl _ _ _ _ v12.x Tryd.underlying54 rfl (by rw [v12.s]; kernel_rfl) ?_)
        | (go_at_call 33; (with_reducible refine (LC.out _ v14.p v12.s v12.p).mono ?_); rintro _ u8 ⟨A18, c18, B18, d18, rfl, hz, hb7⟩; have hv := (v14.x.below hb7).alloc (.cells (refc 0 0) 33); have hm := Held.new u8 33 (refc 0 0))
        | (guard_target = wpList _ _ _ (Oper.mk _ (Op.store 29 (.tmp 17) _) _ _ _ none :: _) _ _; refine wpList_store_row rfl 29 _ _ rfl g14 (pc A18 LN.cells.length c18 B18 LN.free.length d18 LN.most) rfl rfl _ _ hv (by kernel_rfl) rfl (by simp [Value.oneCell']) ?_; have hm2 := held_row hm (Nat.ne_of_gt (Nat.lt_of_lt_of_le v14.x.lt hb7.size)) (pc A18 LN.cells.length c18 B18 LN.free.length d18 LN.most))
        | (guard_target = wpList _ _ _ (Oper.mk _ (Op.store 33 (.tmp 21) _) _ _ _ none :: _) _ _; refine wpList_store_row rfl 33 _ _ rfl u8.heap.size (refc r0.1 r0.2) rfl rfl _ _ hm2 (by kernel_rfl) rfl (by simp [Value.oneCell']) ?_))
      have a14 := v14.x.lt
      have hs8 := hb7.size
      have n10 := hs_14
      have bA : Below u8.heap.size u8 (u8.alloc (.cells (refc 0 0) 33)) := (Below.refl _ _).alloc (Nat.le_refl _) _
      have far : ∀ q, q < u8.heap.size → q ≠ g14 → (((u8.alloc (.cells (refc 0 0) 33)).setRow g14 (pc A18 LN.cells.length c18 B18 LN.free.length d18 LN.most)).setRow u8.heap.size (refc r0.1 r0.2)).heap[q]? = u8.heap[q]? := fun q hq hne =>
        ((row_far0 _ u8.heap.size _ q (Nat.ne_of_lt hq)).trans (row_far0 _ g14 (pc A18 LN.cells.length c18 B18 LN.free.length d18 LN.most) q hne)).trans (bA.block q hq)
      have h14 := v14.x.below hb7
      have kAll : KTy u8 (((u8.alloc (.cells (refc 0 0) 33)).setRow g14 (pc A18 LN.cells.length c18 B18 LN.free.length d18 LN.most)).setRow u8.heap.size (refc r0.1 r0.2)) 29 := fun q e cs fr hq hne => by
        refine far q ?_ fun e2 => ?_
        · rcases Nat.lt_or_ge q u8.heap.size with h9 | h9
          · exact h9
          · rw [Array.getElem?_eq_none h9] at hq
            cases hq
        · subst e2
          have h9 := hq.symm.trans h14
          simp only [Option.some.injEq, Obj.cells.injEq] at h9
          exact hne h9.2.1
      have q9 := held_kt (Held.below k9 hb7) kAll (by decide)
      have q10 := held_kt (Held.below k10 hb7) kAll (by decide)
      have q17 : Held (((u8.alloc (.cells (refc 0 0) 33)).setRow g14 (pc A18 LN.cells.length c18 B18 LN.free.length d18 LN.most)).setRow u8.heap.size (refc r0.1 r0.2)) g14 29 (pc A18 LN.cells.length c18 B18 LN.free.length d18 LN.most) := held_row (held_rowSelf hv (pc A18 LN.cells.length c18 B18 LN.free.length d18 LN.most)) (Nat.ne_of_lt (Nat.lt_of_lt_of_le a14 hs8)) _
      have q21 : Held (((u8.alloc (.cells (refc 0 0) 33)).setRow g14 (pc A18 LN.cells.length c18 B18 LN.free.length d18 LN.most)).setRow u8.heap.size (refc r0.1 r0.2)) u8.heap.size 33 (refc r0.1 r0.2) := held_rowSelf hm2 _
      have hz2 := hz.kt kAll (by decide) (by decide) (by decide) (by decide)
      have og2 := (og.below hb7).kt kAll (by decide) (by decide)
      have oc2 : OwnR _ W2.heap.size (.slice (some ⟨g17, 0, none⟩) nc c17) CL := row_kt (r_later oc hb7) kAll (by decide)
      have hb2 := below_setRow (below_setRow (Below.step (Below.step hb hb7) bA) (show w.heap.size ≤ g14 by omega) (pc A18 LN.cells.length c18 B18 LN.free.length d18 LN.most)) (show w.heap.size ≤ u8.heap.size by omega) (refc r0.1 r0.2)
      have hg17u : g17 < u8.heap.size := (World.ownsRow.lt (r_later oc hb7) g17 rfl).2
      have hg17 := (World.ownsRow.lt oc g17 rfl).1
      clear k9 k10 v14 v12 hz og oc hb hv hm hm2 bA far h14 kAll hb7 hs8 a14 HFR
      generalize World.setRow _ u8.heap.size _ = W6 at *
      generalize u8.heap.size = g21 at *
      have HTH := Lib.hid (row_there (o := 0) (k := 2) (show World.ownsRow W6 W2.heap.size 33 2 (.slice (some ⟨g17, 0, none⟩) nc c17) nc (flatP CL) by have h9 := oc2; unfold OwnR Own2 at h9; rw [HNR.out.2] at h9; exact h9) (by omega))
      go_upto_region 11 with (first
        | (guard_target = wpList _ _ _ (Oper.mk (some 81) _ _ _ _ none :: _) _ _; refine wpList_load_row rfl 33 _ rfl g21 rfl _ _ _ _ q21 Tryd.underlying33 rfl (by kernel_rfl) ?_)
        | (guard_target = wpList _ _ _ (Oper.mk none (Op.store 33 (.tmp 82) _) _ _ _ none :: _) _ _; refine wpList_store_mid rfl 33 _ _ rfl g17 0 ([.int .i64 r0.1, .int .i64 r0.2] : List Value).toArray rfl rfl HTH.out (by kernel_rfl) (by simp [Value.oneCell']) ?_))
      simp only [Act.put]
      have hgr := grown_setCells W6 g17 0 [.int .i64 r0.1, .int .i64 r0.2]
      have hkR : KTy W6 (W6.setCells g17 0 [.int .i64 r0.1, .int .i64 r0.2]) 33 := kt_own oc2 hgr
      replace og2 := og2.turn hgr hkR (fun b e => .inl e)
      replace oc2 : OwnR (W6.setCells g17 0 [.int .i64 r0.1, .int .i64 r0.2]) W2.heap.size (.slice (some ⟨g17, 0, none⟩) nc c17) (CL.set 0 r0) := by
        have h9 := Own2.set oc2 0 r0 HCN.out
        simpa [World.setCells] using h9
      replace hz2 := hz2.kt hkR (by decide) (by decide) (by decide) (by decide)
      replace q9 := held_kt q9 hkR (by decide)
      replace q10 := held_kt q10 hkR (by decide)
      replace q17 := held_kt q17 hkR (by decide)
      replace q21 : Held (W6.setCells g17 0 [.int .i64 r0.1, .int .i64 r0.2]) g21 33 (refc r0.1 r0.2) := (setCells_far _ _ _ _ _ (by omega)).trans q21
      replace hb2 := below_setCells hb2 (show w.heap.size ≤ g17 by omega) 0 [.int .i64 r0.1, .int .i64 r0.2]
      have n17 : (some (w.heap.size + 1) : Option Nat) ≠ some g14 := by simp; omega
      have n21 : (some (w.heap.size + 1) : Option Nat) ≠ some g21 := by simp; omega
      have n9 : (some (w.heap.size + 1) : Option Nat) ≠ some w.heap.size := by simp
      clear hgr hkR HTH HCN n10 hg17 hg17u hk2
      generalize (W6.setCells g17 0 [.int .i64 r0.1, .int .i64 r0.2]) = W7 at *
      have HO := Lib.hid (And.intro og2 (And.intro oc2 hz2))
      clear og2 oc2 hz2
      have hdr := (Below.refl W7.heap.size W7).drew
      have HO2 := Lib.hid (And.intro (HO.out.1.below hdr) (And.intro (r_later HO.out.2.1 hdr : OwnR _ W2.heap.size (.slice (some ⟨g17, 0, none⟩) nc c17) (CL.set 0 r0)) (HO.out.2.2.below hdr)))
      replace q9 := Held.below q9 hdr
      replace q10 := Held.below q10 hdr
      replace q17 := Held.below q17 hdr
      replace q21 := Held.below q21 hdr
      replace hb2 := Below.step hb2 hdr
      clear hdr HO
      refine wp_region_held_drew (S := fun W => World.grownBy W7.drew W (some (w.heap.size + 1))) (by kernel_rfl) ⟨rfl, rfl, rfl, Nat.le_refl _, fun _ _ _ => rfl⟩ (fun hS => ?_)
      generalize W7.drew = Wq at *
      have OC := Lib.hid (HOP.out Wq hb2 HMM.out)
      show wpAnyH _ _ _ _ _ 10 #[false, false, false, false, false, false, false, false, false, false] _ _
      refine wpAnyH_begin (by kernel_rfl) (fun HNS => ?_)
      refine wpAnyH_takeS HNS (i := 0) (v := .slice Ap pl c) rfl (by kernel_rfl) (by kernel_rfl) (fun _ _ _ h => h) (Or.inl ⟨by kernel_rfl, fun W hW => ?_⟩) hS ?_
      · go_simp
      simp only [Act.put, List.getElem_toArray, List.getElem_cons_succ, List.getElem_cons_zero, List.setIfInBounds_toArray, List.set_cons_zero, List.set_cons_succ]
      refine wpAnyH_takeS HNS (i := 2) (v := .agg (lmc lf lm lr)) rfl (by kernel_rfl) (by kernel_rfl) (fun _ _ _ h => h) (Or.inl ⟨by kernel_rfl, fun W hW => ?_⟩) hS ?_
      · (have hz := Held.grown q9 hW n9; have z0 := hz.cell 0; have z1 := hz.cell 1; have z2 := hz.cell 2; simp at z0 z1 z2; go_simp)
      simp only [Act.put, List.getElem_toArray, List.getElem_cons_succ, List.getElem_cons_zero, List.setIfInBounds_toArray, List.set_cons_zero, List.set_cons_succ]
      refine wpAnyH_takeS HNS (i := 3) (v := .agg (pc A18 LN.cells.length c18 B18 LN.free.length d18 LN.most)) rfl (by kernel_rfl) (by kernel_rfl) (fun _ _ _ h => h) (Or.inl ⟨by kernel_rfl, fun W hW => ?_⟩) hS ?_
      · (have hz := Held.grown q17 hW n17; have z0 := hz.cell 0; have z1 := hz.cell 1; have z2 := hz.cell 2; simp at z0 z1 z2; go_simp)
      simp only [Act.put, List.getElem_toArray, List.getElem_cons_succ, List.getElem_cons_zero, List.setIfInBounds_toArray, List.set_cons_zero, List.set_cons_succ]
      refine wpAnyH_takeS HNS (i := 4) (v := .slice A16 nr c16) rfl (by kernel_rfl) (by kernel_rfl) (fun _ _ _ h => h) (Or.inl ⟨by kernel_rfl, fun W hW => ?_⟩) hS ?_
      · go_simp
      simp only [Act.put, List.getElem_toArray, List.getElem_cons_succ, List.getElem_cons_zero, List.setIfInBounds_toArray, List.set_cons_zero, List.set_cons_succ]
      refine wpAnyH_takeS HNS (i := 5) (v := .slice (some ⟨g17, 0, none⟩) nc c17) rfl (by kernel_rfl) (by kernel_rfl) (fun _ _ _ h => h) (Or.inl ⟨by kernel_rfl, fun W hW => ?_⟩) hS ?_
      · go_simp
      simp only [Act.put, List.getElem_toArray, List.getElem_cons_succ, List.getElem_cons_zero, List.setIfInBounds_toArray, List.set_cons_zero, List.set_cons_succ]
      refine wpAnyH_takeS HNS (i := 6) (v := .agg (refc r0.1 r0.2)) rfl (by kernel_rfl) (by kernel_rfl) (fun _ _ _ h => h) (Or.inl ⟨by kernel_rfl, fun W hW => ?_⟩) hS ?_
      · (have hz := Held.grown q21 hW n21; have z0 := hz.cell 0; have z1 := hz.cell 1; simp at z0 z1; go_simp)
      simp only [Act.put, List.getElem_toArray, List.getElem_cons_succ, List.getElem_cons_zero, List.setIfInBounds_toArray, List.set_cons_zero, List.set_cons_succ]
      refine wpAnyH_ready (rs := [1]) (by kernel_rfl) (by simp) ?_
      refine (AllReadyH.cons rfl (fun K hK => ?_) AllReadyH.nil)
      · rw [if_pos (by kernel_rfl)]
        go_simp
        go_at_call 34
        (with_reducible refine (OC.out).mono ?_)
        rintro _ u9 ⟨v9, rfl, ok, hb9⟩
        obtain ⟨A9, c9, rfl, -⟩ := ok.prog ((mayP_iff p).1 HMM.out).1
        rw [HPL.out] at ok ⊢
        replace q10 := Held.below q10 hb9
        have HO3 := Lib.hid (And.intro (HO2.out.1.below hb9) (And.intro (r_later HO2.out.2.1 hb9 : OwnR _ W2.heap.size (.slice (some ⟨g17, 0, none⟩) nc c17) (CL.set 0 r0)) (And.intro (HO2.out.2.2.below hb9) (And.intro ok (Below.step hb2 hb9)))))
        replace hS := grown_step hS hb9
        clear ok hb9 HO2 hb2
        (repeat (first | go_skip | go_guarded | go_step | go_upon))
        refine hK.out _ _ hS (fun _ => ?_)
        clear hK K
        (try simp only [Act.put, List.getElem_toArray, List.getElem_cons_succ, List.getElem_cons_zero, List.setIfInBounds_toArray, List.set_cons_zero, List.set_cons_succ])
        refine wpAnyH_takeS HNS (i := 7) (v := .agg #[.slice A9 pl c9, .int .i64 lf, .int .i64 lm, .int .i64 lr, .slice A18 LN.cells.length c18, .slice B18 LN.free.length d18, .int .i64 LN.most, .slice A16 nr c16, .slice (some ⟨g17, 0, none⟩) nc c17, .int .i64 r0.1, .int .i64 r0.2, .int .i64 0, .int .i64 0, .int .i64 0, .int .i64 0, .int .i64 0, .int .i64 0, .int .i64 0, .int .i64 0]) rfl (by kernel_rfl) (by kernel_rfl) (fun _ _ _ h => h) (Or.inl ⟨by kernel_rfl, fun W hW => ?_⟩) hS ?_
        · go_simp
        simp only [Act.put, List.getElem_toArray, List.getElem_cons_succ, List.getElem_cons_zero, List.setIfInBounds_toArray, List.set_cons_zero, List.set_cons_succ]
        refine wpAnyH_ready (rs := [8]) (by kernel_rfl) (by simp) ?_
        refine (AllReadyH.cons rfl (fun K hK => ?_) AllReadyH.nil)
        · rw [if_pos (by kernel_rfl)]
          refine wp_store_row 40 _ _ rfl _ #[.slice A9 pl c9, .int .i64 lf, .int .i64 lm, .int .i64 lr, .slice A18 LN.cells.length c18, .slice B18 LN.free.length d18, .int .i64 LN.most, .slice A16 nr c16, .slice (some ⟨g17, 0, none⟩) nc c17, .int .i64 r0.1, .int .i64 r0.2, .int .i64 0, .int .i64 0, .int .i64 0, .int .i64 0, .int .i64 0, .int .i64 0, .int .i64 0, .int .i64 0] (by rfl) (by rfl) _ _ q10 (by kernel_rfl) rfl (by simp [Value.oneCell']) ?_
          replace hS := grown_row hS #[.slice A9 pl c9, .int .i64 lf, .int .i64 lm, .int .i64 lr, .slice A18 LN.cells.length c18, .slice B18 LN.free.length d18, .int .i64 LN.most, .slice A16 nr c16, .slice (some ⟨g17, 0, none⟩) nc c17, .int .i64 r0.1, .int .i64 r0.2, .int .i64 0, .int .i64 0, .int .i64 0, .int .i64 0, .int .i64 0, .int .i64 0, .int .i64 0, .int .i64 0]
          refine hK.out _ _ hS (fun _ => ?_)
          clear hK K
          (try simp only [Act.put, List.getElem_toArray, List.getElem_cons_succ, List.getElem_cons_zero, List.setIfInBounds_toArray, List.set_cons_zero, List.set_cons_succ])
          refine wpAnyH_takeS HNS (i := 9) (v := .int .i64 0) rfl (by kernel_rfl) (by kernel_rfl) (fun _ _ _ h => h) (Or.inl ⟨by kernel_rfl, fun W hW => ?_⟩) hS ?_
          · go_simp
          simp only [Act.put, List.getElem_toArray, List.getElem_cons_succ, List.getElem_cons_zero, List.setIfInBounds_toArray, List.set_cons_zero, List.set_cons_succ]
          refine wpAnyH_done (by kernel_rfl) ?_ _
          (repeat (first | go_skip | go_guarded | go_step | go_upon))
          obtain ⟨og2, oc2, hz2, ok, hb2⟩ := HO3.out
          have hbf := below_setRow hb2 (show w.heap.size ≤ (w.heap.size + 1) by omega) #[.slice A9 pl c9, .int .i64 lf, .int .i64 lm, .int .i64 lr, .slice A18 LN.cells.length c18, .slice B18 LN.free.length d18, .int .i64 LN.most, .slice A16 nr c16, .slice (some ⟨g17, 0, none⟩) nc c17, .int .i64 r0.1, .int .i64 r0.2, .int .i64 0, .int .i64 0, .int .i64 0, .int .i64 0, .int .i64 0, .int .i64 0, .int .i64 0, .int .i64 0]
          have hkW := kt_row q10 #[.slice A9 pl c9, .int .i64 lf, .int .i64 lm, .int .i64 lr, .slice A18 LN.cells.length c18, .slice B18 LN.free.length d18, .int .i64 LN.most, .slice A16 nr c16, .slice (some ⟨g17, 0, none⟩) nc c17, .int .i64 r0.1, .int .i64 r0.2, .int .i64 0, .int .i64 0, .int .i64 0, .int .i64 0, .int .i64 0, .int .i64 0, .int .i64 0, .int .i64 0]
          have hg3 := (og2.own.kt hkW (by decide) (by decide)).at
          have hc3 := own2_at (row_kt oc2 hkW (by decide))
          have hz3 := (hz2.kt hkW (by decide) (by decide) (by decide) (by decide)).at
          obtain ⟨A', c', e', hp3⟩ := (ok.kt hkW (by decide) (by decide)).prog ((mayP_iff p).1 HMM.out).1
          simp only [Value.slice.injEq] at e'
          obtain ⟨rfl, e2', rfl⟩ := e'
          have hRE := HRE.out
          subst hRE
          refine bodyPost_ret (results_ct0 rfl _ _ rfl rfl (load_wld (held_rowSelf q10 #[.slice A9 pl c9, .int .i64 lf, .int .i64 lm, .int .i64 lr, .slice A18 LN.cells.length c18, .slice B18 LN.free.length d18, .int .i64 LN.most, .slice A16 nr c16, .slice (some ⟨g17, 0, none⟩) nc c17, .int .i64 r0.1, .int .i64 r0.2, .int .i64 0, .int .i64 0, .int .i64 0, .int .i64 0, .int .i64 0, .int .i64 0, .int .i64 0, .int .i64 0]) rfl)) rfl ⟨⟨A9, c9, A18, c18, B18, d18, A16, c16, some ⟨g17, 0, none⟩, c17⟩, ?_, ⟨hp3, hz3, hg3, hc3⟩, hbf⟩
          simp only [wcs, List.length_set, HNR.out.1, HNR.out.2, HPL.out]
          rfl
end Go.Proofs.YtjibkgildfjjoaaDoor

/- Layer 13: what world's calls answer, all of it; the listed variables, out of what they read as. -/
namespace Go.Proofs.YtjibkgildfjjoaaDoor
set_option linter.unusedVariables false
set_option linter.unusedSimpArgs false
open Go Go.Lib Go.RowKit

theorem wc : WC TW :=
  ⟨fun c c2 s k lf lm lr w hT hp hz ha hl hB => new_w c c2 s k lf lm lr w hT hp hz ha hl hB, fun w hT h hl hB => ready_w w hT h hl.rings hl.cur hB, fun w _ h h' hl hl' hB => same_w w h h' hl hl' hB, fun k lf lm lr w hT => (fresh_w k lf lm lr w hT).mono fun _ _ h => FreshQ.r h, fun hT hb => hT.below hb⟩
theorem nor_global : Tryd.prog.globalNamed "transhumance/world.noRef" = some 0 := by kernel_rfl
theorem nor_type : (Tryd.prog.globals[0]?).map (·.type) = some 33 := by kernel_rfl
theorem nor_is : Rows.laid_transhumance_world_noRef (H := Unit) = .agg ([Lit.int .i64 (-1), Lit.int .i64 0].map .lit) := by kernel_rfl
theorem nor_of_laid {W : World} {rest : List (String × DataW Unit)} (h : laidMet Tryd.prog (("transhumance/world.noRef", Rows.laid_transhumance_world_noRef) :: rest) W) : NoR W := by
  rw [nor_is] at h
  exact held_of_laid1 nor_global nor_type Tryd.underlying33 nob_cells rfl (by kernel_rfl) (by decide) h
theorem tw_of {W : World} (h1 : Otab W) (h2 : Nob W) (h3 : NoR W) : TW W := ⟨tabB_of h1 h2, h3⟩
end Go.Proofs.YtjibkgildfjjoaaDoor

