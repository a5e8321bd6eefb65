/- Layer 13: the document's Fresh. -/
import Derived.Test.YtjibkgildfjjoaaGreatDoorzPr1
import Derived.Test.YtjibkgildfjjoaaGreatDoorzRs
import Derived.Test.YtjibkgildfjjoaaGreatDoorzYr
import Derived.Deep.RegionHeld3
import Derived.Deep.DeepCutAuto
import Derived.Deep.CutBlock
import Derived.BigQuiet
import Derived.WalkLawsBesides
import Derived.Test.YtjibkgildfjjoaaGreatDoorzRnw
import Derived.Test.YtjibkgildfjjoaaGreatDoorzR8s
import Derived.Test.YtjibkgildfjjoaaGreatDoorzYw
namespace Go.Proofs.YtjibkgildfjjoaaGreatDoor
set_option linter.unusedVariables false
set_option linter.unusedSimpArgs false
open Go.RowKit Go.ChangeShapes Go.WideShapes Go.ChangeAt Go.Sort

set_option maxRecDepth 100000 in
theorem none_z (w : World) : Calls Tryz.prog 22 #[] w fun e w' => e = .returned (gv (-1) 0) ∧ Below w.heap.size w w' := by
  have hn := Held.new w 36 #[.int .i64 0, .int .i64 0]
  have hb : Below w.heap.size w (w.alloc (.cells #[.int .i64 0, .int .i64 0] 36)) := (Below.refl _ _).alloc (Nat.le_refl _) _
  go_enter Tryz.func22, Tryz.ntmps22
  go_wp2_with (guard_target = wpList _ _ _ (Oper.mk _ (Op.store 36 (.tmp 0) _) _ _ _ none :: _) _ _; refine wpList_store_row rfl 36 _ _ rfl w.heap.size #[.int .i64 (-1), .int .i64 0] rfl rfl _ _ hn (by kernel_rfl) rfl (by simp [Value.oneCell']) ?_)
  exact bodyPost_ret (results_c0 rfl _ _ rfl (load_ref (held_rowSelf hn #[.int .i64 (-1), .int .i64 0]) rfl)) rfl ⟨rfl, below_setRow hb (Nat.le_refl _) _⟩
theorem rng_held {w : World} {b : Nat} {t : TypeId} {cs : Array Value} (h : Held w b t cs) : w.rangeAt b 0 cs.toList := fun j v hj => by
  rw [Nat.zero_add]
  exact (h.cell j).trans (by simpa using hj)
theorem rep_snoc {α : Type} (n : Nat) (x : α) : List.replicate n x ++ [x] = List.replicate (n + 1) x := (List.replicate_succ' (n := n) (a := x)).symm
abbrev lmc (lf lm lr : Int) : Array Value := #[.int .i64 lf, .int .i64 lm, .int .i64 lr]
/-- What Fresh tells. -/
def FreshQ (w : World) (R : List Rng × List V) (e : Ending) (w' : World) : Prop := ∃ A c A2 c2, e = .returned (.tuple #[.slice A R.1.length c, .slice A2 R.2.length c2]) ∧ OwnGx (Value.ownBlock (.slice A2 R.2.length c2)) w' w.heap.size (.slice A R.1.length c) R.1 ∧ OwnR w' w.heap.size (.slice A2 R.2.length c2) R.2 ∧ Below w.heap.size w w'
set_option maxHeartbeats 4000000 in
set_option maxRecDepth 100000 in
theorem rfresh_z (k lf lm lr : Int) (w : World) :
    Calls Tryz.prog 11 #[.int .i64 k, .agg (lmc lf lm lr)] w (FreshQ w (freshR k lr)) := by
  have hb0 := below3 w (.cells (lmc lf lm lr) 26) (.cells #[] 54) (.cells #[] 36)
  have g1 := ((Held.new w 26 (lmc lf lm lr)).alloc (.cells #[] 54)).alloc (.cells #[] 36)
  have o1 := (OwnGx.made (some (w.heap.size + 1 + 1)) (w.alloc (.cells (lmc lf lm lr) 26))).below ((Below.refl _ _).alloc (Nat.le_refl _) (.cells #[] 36))
  have o2 := Own2.made 36 ((w.alloc (.cells (lmc lf lm lr) 26)).alloc (.cells #[] 54))
  have hs1 : (w.alloc (.cells (lmc lf lm lr) 26)).heap.size = w.heap.size + 1 := by simp
  have hs2 : ((w.alloc (.cells (lmc lf lm lr) 26)).alloc (.cells #[] 54)).heap.size = w.heap.size + 1 + 1 := by simp
  rw [hs1] at o1
  rw [hs2] at o2
  obtain ⟨R, hR⟩ : ∃ R, freshR k lr = R := ⟨_, rfl⟩
  rw [hR]
  have HR0 := Lib.hid hR
  clear hR
  go_enter Tryz.func11, Tryz.ntmps11
  go_upto_region 1 with (fail)
  go_upto_region 4 with (fail)
  generalize ((w.alloc (.cells (lmc lf lm lr) 26)).alloc (.cells #[] 54)).alloc (.cells #[] 36) = W0 at *
  have O2 : OwnR W0 (w.heap.size + 1) (.slice (some ⟨w.heap.size + 1 + 1, 0, none⟩) 0 0) [] := r_mono o2 (by omega)
  have HX := Lib.hid (And.intro o1 (And.intro O2 (And.intro g1 hb0)))
  clear o1 o2 O2 g1 hb0 hs1 hs2
  by_cases hk : 1 ≤ k ∧ k ≤ 64
  · obtain ⟨n, rfl⟩ : ∃ n : Nat, k = n := ⟨k.toNat, by omega⟩
    have hn1 : 1 ≤ n := by omega
    have hn2 : n ≤ 64 := by omega
    clear hk
    by_cases hr : 1 ≤ lr ∧ lr ≤ 1024
    · obtain rfl : (List.replicate n (rng1 lr), List.replicate n noV) = R := by rw [← HR0.out]; exact (freshR_yes (k := n) ((mayFr_iff _ _).2 ⟨by omega, hr⟩)).symm
      have NC := Lib.hid (fun W => by have := rnewr_any 1 lr W; rw [newR_1, if_pos hr] at this; exact this : ∀ W, Calls Tryz.prog 37 #[.int .i64 1, .int .i64 lr] W (RingQ W (rng1 lr) (.bool true)))
      have HR := Lib.hid hr
      clear hr
      go_loopw [8, 6, 7] (fun iv v6 v7 W => ∃ (j : Nat) (A : Option Addr) (c : Nat) (A2 : Option Addr) (c2 : Nat), iv = .int .i64 j ∧ v6 = .slice A j c ∧ v7 = .slice A2 j c2 ∧ j ≤ n ∧ OwnGx (Value.ownBlock (.slice A2 j c2)) W (w.heap.size + 1) (.slice A j c) (List.replicate j (rng1 lr)) ∧ OwnR W (w.heap.size + 1) (.slice A2 j c2) (List.replicate j noV) ∧ Held W w.heap.size 26 (lmc lf lm lr) ∧ Below w.heap.size w W) (fun iv _ _ _ => n - (intOf iv).toNat)
      case atStart => exact ⟨0, _, _, _, _, rfl, rfl, rfl, by omega, HX.out.1, HX.out.2.1, HX.out.2.2.1, HX.out.2.2.2⟩
      case round =>
        clear HX
        obtain ⟨j, A, c, A2, c2, rfl, rfl, rfl, hj, o1, o2, g1, hb⟩ := hrel
        have hj0 : (0 : Int) ≤ j := by omega
        have hnI : (n : Int) ≤ 64 := by omega
        by_cases hlt : j < n
        · have hlt2 : (j : Int) < n := by omega
          have x2 := g1.cell 2
          simp at x2
          have HO := Lib.hid (And.intro o1 (And.intro o2 hb))
          clear o1 o2 hb
          go_upto_region 7 with (first
            | (go_at_call 37; (with_reducible refine (NC.out _).mono ?_); rintro _ u ⟨_, rfl, ⟨A9, c9, rfl, hro⟩, hbu⟩; have hn := Held.new u 54 rz0)
            | (guard_target = wpList _ _ _ (Oper.mk _ (Op.store 54 (.tmp 9) _) _ _ _ none :: _) _ _; refine wpList_store_row rfl 54 _ _ rfl u.heap.size (rgc A9 1 c9 0 0 lr) rfl rfl _ _ hn (by kernel_rfl) rfl (by simp [Value.oneCell']) ?_))
          have hbV : Below u.heap.size u ((u.alloc (.cells rz0 54)).setRow u.heap.size (rgc A9 1 c9 0 0 lr)) := below_setRow ((Below.refl _ _).alloc (Nat.le_refl _) _) (Nat.le_refl _) _
          have kn := held_rowSelf hn (rgc A9 1 c9 0 0 lr)
          have hsu := g1.lt
          have hsw := hbu.size
          obtain ⟨o1, o2, hb⟩ := HO.out
          replace o1 := (o1.below hbu).below hbV
          replace o2 : OwnR _ (w.heap.size + 1) (.slice A2 j c2) (List.replicate j noV) := r_later (r_later o2 hbu) hbV
          have hap : ApN (Value.ownBlock (.slice A2 j c2)) (.slice A9 1 c9) := fun b e1 e2 => by
            have h7 := (World.ownsRow.lt hro b e1).1
            have h8 := (World.ownsRow.lt HO.out.2.1 b e2).2
            omega
          have hr9 : OwnR _ (w.heap.size + 1) (.slice A9 1 c9) [(0, 0)] := r_mono (r_later hro hbV) (by omega)
          replace g1 := (g1.below hbu).below hbV
          replace hb := Below.step (Below.step hb hbu) hbV
          have hgV : w.heap.size ≠ u.heap.size := by omega
          have hwV : w.heap.size + 1 ≤ u.heap.size := by omega
          clear hro hn hbu hbV HO x2 hsu hsw
          generalize World.setRow _ u.heap.size _ = W1 at *
          generalize u.heap.size = gV at *
          have hbA : Below W1.heap.size W1 (W1.alloc (.cells (rgc A9 1 c9 0 0 lr) 54)) := (Below.refl _ _).alloc (Nat.le_refl _) _
          have hsz := hb.size
          have hs1 := g1.lt
          obtain ⟨xs, q1, q2⟩ := o1.below hbA
          rw [List.length_replicate] at q1
          have Q1 := Lib.hid q1
          have Q2 := Lib.hid q2
          have hrA := Lib.hid (rng_held (Held.new W1 54 (rgc A9 1 c9 0 0 lr)))
          have KA := Lib.hid (And.intro (r_later o2 hbA : OwnR _ (w.heap.size + 1) (.slice A2 j c2) (List.replicate j noV)) (And.intro (r_later hr9 hbA : OwnR _ (w.heap.size + 1) (.slice A9 1 c9) [(0, 0)]) (And.intro (g1.below hbA) (And.intro (Below.step hb hbA) (show w.heap.size + 1 ≤ (W1.alloc (.cells (rgc A9 1 c9 0 0 lr) 54)).heap.size by have := hbA.size; omega)))))
          clear q1 q2 o1 o2 hr9 g1 hb hbA
          go_upto_region 10 with (first
            | (guard_target = wpList _ _ _ (Oper.mk (some 31) _ _ _ _ none :: _) _ _; refine wpList_load_row rfl 54 _ rfl gV rfl _ _ _ _ kn Tryz.underlying54 rfl (by kernel_rfl) ?_)
            | (at_builtin; refine wpList_append_gs rfl _ _ rfl (w.heap.size + 1) _ j rfl Q1.out rfl hrA.out rfl (by simp [Value.oneCell']) (Nat.le_refl _) (by omega) KA.out.2.2.2.2 ?_; intro A8 m8 c8 u8 hm8 r1 r2; have R1 := Lib.hid r1; have R2 := Lib.hid r2; have HM8 := Lib.hid hm8; clear hm8 r1 r2))
          have hlen8 : (List.replicate j (rng1 lr) ++ [rng1 lr]).length = m8 := by rw [HM8.out, List.length_append, List.length_replicate]; rfl
          have o1 := ownGx_app (r := rng1 lr) Q1.out Q2.out KA.out.2.1 hap R2.out R1.out hlen8
          have hkC := kt_own Q1.out R2.out
          have o2 := row_kt KA.out.1 hkC (by decide)
          have hbl := below_grow R2.out (fun q e => (Q1.out.lt q e).1) KA.out.2.2.2.2
          have g1 := held_grown KA.out.2.2.1 R2.out (fun e => by have := (Q1.out.lt _ e).1; omega)
          have hb := KA.out.2.2.2.1.trans (hbl.mono (Nat.le_succ _))
          have hs8 := Nat.le_trans KA.out.2.2.2.2 hbl.size
          rw [rep_snoc] at o1
          obtain rfl : m8 = j + 1 := HM8.out
          clear Q1 Q2 hrA KA R1 R2 hlen8 hkC hbl kn HM8 hsz hs1 hgV hwV
          have HG := Lib.hid (And.intro o1 (And.intro g1 (And.intro hb hs8)))
          have HO2 := Lib.hid (show OwnR u8 (w.heap.size + 1) (.slice A2 j c2) (List.replicate j noV) from o2)
          clear o1 o2 g1 hb hs8
          go_upto_region 5 with (first
            | (go_at_call 22; (with_reducible refine (none_z _).mono ?_); rintro _ u9 ⟨rfl, hb9⟩)
            | (at_builtin; refine wpList_append_rs rfl _ _ rfl (w.heap.size + 1) _ (List.replicate j noV) rfl (r_later (r_later HO2.out hb9) ((Below.refl _ _).alloc (Nat.le_refl _) _)) (k := [noV]) (n := 1) rfl rfl (one2_at (-1) 0) (Nat.le_refl _) (by rw [List.length_replicate]; omega) (by have := HG.out.2.2.2; have := hb9.size; simp; omega) ?_; intro v8 w8 r1 r2 r3; have R1 := Lib.hid r1; have R2 := Lib.hid r2; have R3 := Lib.hid r3; clear r1 r2 r3))
          obtain ⟨o1, g1, hb, hs8⟩ := HG.out
          have hbA : Below u9.heap.size u9 (u9.alloc (.cells #[.int .i64 (-1), .int .i64 0] 36)) := (Below.refl _ _).alloc (Nat.le_refl _) _
          have q2 := r_later (r_later HO2.out hb9) hbA
          have hkC := kt_own q2 R2.out
          have hsA : w.heap.size + 1 ≤ (u9.alloc (.cells #[.int .i64 (-1), .int .i64 0] 36)).heap.size := by have := hb9.size; simp; omega
          replace o1 := ((o1.below hb9).below hbA).turn R2.out hkC R3.out
          replace g1 := held_grown ((g1.below hb9).below hbA) R2.out (fun e => by have := (World.ownsRow.lt q2 _ e).1; omega)
          have hbl := below_grow R2.out (fun q e => (World.ownsRow.lt q2 q e).1) hsA
          replace hb := (Below.step (Below.step hb hb9) hbA).trans (hbl.mono (Nat.le_succ _))
          have r1 := R1.out
          rw [rep_snoc] at r1
          obtain ⟨A7, c7, rfl, -⟩ := Own2.lies r1
          rw [List.length_replicate] at o1 r1
          have HF := Lib.hid (And.intro o1 (And.intro r1 (And.intro g1 hb)))
          clear o1 r1 g1 hb hbl hsA hkC q2 hbA hs8 R1 R2 R3 HG HO2 hb9 hap
          go_wp2_with fail
          go_roundw
          case rel => exact ⟨j + 1, A8, c8, A7, c7, by go_num, rfl, by simp, by omega, HF.out.1, HF.out.2.1, HF.out.2.2.1, HF.out.2.2.2⟩
          case measure => simp [intOf]; omega
        · obtain rfl : j = n := by omega
          have HO := Lib.hid (And.intro o1 (And.intro o2 hb))
          clear o1 o2 hb hlt g1
          go_wp2_with fail
          go_returns
          obtain ⟨o1, o2, hb⟩ := HO.out
          refine ⟨A, c, A2, c2, ?_, ?_, ?_, hb⟩
          · simp only [List.length_replicate]
            rfl
          · simp only [List.length_replicate]
            exact o1.mono (Nat.le_succ _)
          · simp only [List.length_replicate]
            exact r_mono o2 (Nat.le_succ _)
    · obtain rfl : ([], []) = R := by rw [← HR0.out]; exact (freshR_no (by rw [← Bool.not_eq_true, mayFr_iff]; exact fun h => hr h.2)).symm
      have NC := Lib.hid (fun W => by have := rnewr_any 1 lr W; rw [newR_1, if_neg hr] at this; exact this : ∀ W, Calls Tryz.prog 37 #[.int .i64 1, .int .i64 lr] W (RingQ W ⟨[], 0, 0, 0⟩ (.bool false)))
      clear hr
      go_loopw [8, 6, 7] (fun iv v6 v7 W => iv = .int .i64 0 ∧ v6 = .slice (some ⟨w.heap.size + 1, 0, none⟩) 0 0 ∧ v7 = .slice (some ⟨w.heap.size + 1 + 1, 0, none⟩) 0 0 ∧ W = W0) (fun _ _ _ _ => 0)
      case atStart => exact ⟨rfl, rfl, rfl, rfl⟩
      case round =>
        obtain ⟨rfl, rfl, rfl, rfl⟩ := hrel
        have hnI : (n : Int) ≤ 64 := by omega
        have hlt2 : (0 : Int) < n := by omega
        have x2 := HX.out.2.2.1.cell 2
        simp at x2
        go_upto_region 7 with (first
          | (go_at_call 37; (with_reducible refine (NC.out _).mono ?_); rintro _ u ⟨_, rfl, ⟨A9, c9, rfl, hro⟩, hbu⟩; have hn := Held.new u 54 rz0)
          | (guard_target = wpList _ _ _ (Oper.mk _ (Op.store 54 (.tmp 9) _) _ _ _ none :: _) _ _; refine wpList_store_row rfl 54 _ _ rfl u.heap.size (rgc A9 0 c9 0 0 0) rfl rfl _ _ hn (by kernel_rfl) rfl (by simp [Value.oneCell']) ?_))
        have hbV : Below u.heap.size u ((u.alloc (.cells rz0 54)).setRow u.heap.size (rgc A9 0 c9 0 0 0)) := below_setRow ((Below.refl _ _).alloc (Nat.le_refl _) _) (Nat.le_refl _) _
        go_wp2_with fail
        go_returns
        exact ⟨none, 0, none, 0, rfl, OwnGx.nil _ _ _, Own2.nil _ _ _, Below.step (Below.step HX.out.2.2.2 hbu) hbV⟩
  · obtain rfl : ([], []) = R := by rw [← HR0.out]; exact (freshR_no (by rw [← Bool.not_eq_true, mayFr_iff]; exact fun h => hk h.1)).symm
    have HF := Lib.hid (⟨_, _, _, _, rfl, HX.out.1.mono (Nat.le_succ _), r_mono HX.out.2.1 (Nat.le_succ _), HX.out.2.2.2⟩ : FreshQ w ([], []) (.returned (.tuple #[.slice (some ⟨w.heap.size + 1, 0, none⟩) 0 0, .slice (some ⟨w.heap.size + 1 + 1, 0, none⟩) 0 0])) W0)
    go_loopw [8, 6, 7] (fun iv v6 v7 W => iv = .int .i64 0 ∧ v6 = .slice (some ⟨w.heap.size + 1, 0, none⟩) 0 0 ∧ v7 = .slice (some ⟨w.heap.size + 1 + 1, 0, none⟩) 0 0 ∧ W = W0) (fun _ _ _ _ => 0)
    case atStart => exact ⟨rfl, rfl, rfl, rfl⟩
    case round =>
      obtain ⟨rfl, rfl, rfl, rfl⟩ := hrel
      clear HX
      by_cases h1 : k < 1
      · have h2 : ¬ (0 : Int) < k := by omega
        clear hk h1
        go_wp2_with fail
        go_returns
        exact HF.out
      · have h2 : (0 : Int) < k := by omega
        have h3 : ¬ k ≤ (64 : Int) := by omega
        clear hk h1
        go_wp2_with fail
        go_returns
        exact HF.out
end Go.Proofs.YtjibkgildfjjoaaGreatDoor

/- Layer 13: the document's New. -/
namespace Go.Proofs.YtjibkgildfjjoaaGreatDoor
set_option linter.unusedVariables false
set_option linter.unusedSimpArgs false
open Gm Go.RowKit Go.ChangeShapes Go.WideShapes Go.ChangeAt Go.Sort

theorem frm_ds {w : World} {B : Nat} {v : Value} {f : Frm} (h : FrmAt w B v f) : ∃ ds : Array Value, v = .agg ds ∧ ds.size = 16 ∧ ds.all (·.oneCell') = true ∧ FrmAt w B (.agg ds) f := by
  obtain ⟨A1, c1, A2, c2, A3, c3, rfl, h1, h2, h3⟩ := h
  exact ⟨_, rfl, rfl, by simp [Value.oneCell'], A1, c1, A2, c2, A3, c3, rfl, h1, h2, h3⟩
theorem rnewf_z {C D : Nat} {A A2 : Option Addr} {p : List Fun} {args : List V} (c c2 : Nat) (fn s : Int) (w : World) (h : ProgAt w C A p) (hz : SizedP p) (hC : C ≤ w.heap.size) (ha : VAt w D A2 args) (hl : args.length ≤ 1000) (hD : D ≤ w.heap.size) :
    Calls Tryz.prog 18 #[.slice A p.length c, .int .i64 fn, .slice A2 args.length c2, .int .i64 s] w fun e w' => ∃ ds : Array Value, e = .returned (.tuple #[.agg ds, .bool (newF p fn args s).2]) ∧ ds.size = 16 ∧ ds.all (·.oneCell') = true ∧ OwnF w' w.heap.size (.agg ds) (newF p fn args s).1 ∧ Below w.heap.size w w' := by
  have key : Calls Tryz.prog 18 #[.slice A p.length c, .int .i64 fn, .slice A2 args.length c2, .int .i64 s] w (NewQ w (newF p fn args s)) := by
    by_cases hno : mayP p = true ∧ hasI p.length fn = true ∧ isZ s = true
    · exact rnew_yes c c2 fn s w h hz hC ha hl hD hno.1 hno.2.1 hno.2.2
    · exact rnew_no c c2 fn s w h hz hC hno
  refine key.mono fun e w' ⟨v', he, ho, hb⟩ => ?_
  obtain ⟨ds, rfl, h1, h2, -⟩ := frm_ds ho.at
  exact ⟨ds, he, h1, h2, ho, hb⟩
theorem load_wld {w : World} {g : Nat} {cs : Array Value} (h : Held w g 43 cs) (hs : cs.size = 19) : (loadVar 43 ⟨g, 0, none⟩).run Tryz.prog w = .ok (.agg cs) w :=
  run_loadVar_row (P := Tryz.prog) _ g 43 43 _ (0, 0) _ h Tryz.underlying43 rfl (by rw [hs]; kernel_rfl)
/-- What New tells: a world that can be read. -/
def WorldQ (w : World) (R : Wld × Int) (e : Ending) (w' : World) : Prop := ∃ a : WA, e = .returned (.tuple #[.agg (wcs a R.1), .int .i64 R.2]) ∧ WAt w' w'.heap.size a R.1 ∧ Below w.heap.size w w'
abbrev wa0 : WA := ⟨none, 0, none, 0, none, 0, none, 0, none, 0⟩
theorem wat0 (w : World) (B : Nat) (a : WA) : WAt w B a wld0 := ⟨ProgAt.nil _ _ _, ⟨CAt.nil _ _ _, IAt.nil _ _ _⟩, GAt.nil _ _ _, PAt.nil _ _ _⟩
theorem lay_first {lm : Int} (h1 : 1 ≤ lm) (h2 : lm ≤ 1024) (f : Frm) : layZ ⟨[], [], lm⟩ f = (⟨[⟨0, true, f⟩], [], lm⟩, (0, 0), 0) := by
  have hok : okZ ⟨[], [], lm⟩ = true := (okZ_iff _).2 ⟨⟨h1, h2, by simp; omega⟩, by simp, by simp, fun i h => absurd h (by simp), fun i h => absurd h (by simp)⟩
  unfold layZ
  rw [if_neg (by rw [hok]; decide), if_pos rfl, if_neg (by simp; omega)]
  simp
theorem new_first (lm : Int) : newZ lm = if 1 ≤ lm ∧ lm ≤ 1024 then (⟨[], [], lm⟩, true) else (zp0, false) := rfl
set_option maxHeartbeats 8000000 in
set_option maxRecDepth 100000 in
theorem rnew_w {Ap A2 : Option Addr} {p : List Fun} {args : List V} {B : Nat} (c c2 : Nat) (s k lf lm lr : Int) (w : World) (hp : ProgAt w B Ap p) (hz : SizedP p) (ha : VAt w B A2 args) (hl : args.length ≤ 1000) (hB : B ≤ w.heap.size) :
    Calls Tryz.prog 9 #[.slice Ap p.length c, .slice A2 args.length c2, .int .i64 s, .int .i64 k, .agg (lmc lf lm lr)] w (WorldQ w (newW p args s k lf lm lr)) := by
  have hb := below2 w (.cells (lmc lf lm lr) 26) (.cells wz0 43)
  have k9 := (Held.new w 26 (lmc lf lm lr)).alloc (.cells wz0 43)
  have k10 := Held.new1 w (.cells (lmc lf lm lr) 26) 43 wz0
  have NF := fun (W : World) (hW : Below w.heap.size w W) => rnewf_z c c2 0 s W (hp.below hW hB) hz (Nat.le_trans hB hW.size) (ha.below hW hB) hl (Nat.le_trans hB hW.size)
  have GD := fun (W : World) (hW : Below w.heap.size w W) => rgood_any c W (hp.below hW hB) hz (Nat.le_trans hB hW.size)
  have HP := Lib.hid (And.intro hp hB)
  obtain ⟨R, hR⟩ : ∃ R, newW p args s k lf lm lr = R := ⟨_, rfl⟩
  rw [hR]
  unfold newW mayW at hR
  obtain ⟨FN, hFN⟩ : ∃ F, newF p 0 args s = F := ⟨_, rfl⟩
  obtain ⟨f, u2⟩ := FN
  obtain ⟨u1, hu1⟩ : ∃ u, ((checkP p).2.2 == 0) = u := ⟨_, rfl⟩
  simp only [hFN] at NF hR
  simp only [hu1] at GD hR
  have HNF := Lib.hid NF
  have HGD := Lib.hid GD
  have HR := Lib.hid hR
  clear hp hz ha hl hB NF GD hR hFN hu1
  obtain ⟨al, hal⟩ : ∃ n, args.length = n := ⟨_, rfl⟩
  obtain ⟨pl, hpl⟩ : ∃ n, p.length = n := ⟨_, rfl⟩
  simp only [hal, hpl] at HNF HGD ⊢
  have HPL := Lib.hid hpl
  clear hal hpl
  go_enter Tryz.func9, Tryz.ntmps9
  go_upto_region 1 with (fail)
  generalize ((w.alloc (.cells (lmc lf lm lr) 26)).alloc (.cells wz0 43)) = W0 at *
  go_upto_region 2 with (first
    | (go_at_call 18; (with_reducible refine (HNF.out _ hb).mono ?_); rintro _ u ⟨ds12, rfl, d1, d2, ho, hbu⟩; have hn := Held.new u 60 fzc)
    | (guard_target = wpList _ _ _ (Oper.mk _ (Op.store 60 (.tmp 12) _) _ _ _ none :: _) _ _; refine wpList_store_row rfl 60 _ _ rfl u.heap.size ds12 rfl rfl _ _ hn (by rw [d1]; kernel_rfl) (by rw [d1]; rfl) d2 ?_))
  have hbV : Below u.heap.size u ((u.alloc (.cells fzc 60)).setRow u.heap.size ds12) := below_setRow ((Below.refl _ _).alloc (Nat.le_refl _) _) (Nat.le_refl _) _
  have of12 := ho.below hbV
  obtain ⟨v12, hbW⟩ := new_f1 hbu d1 d2 ho.at
  clear hbu ho hn d1 d2 hbV
  replace k9 := Held.below k9 hbW
  replace k10 := Held.below k10 hbW
  replace hb := Below.step hb hbW
  clear hbW
  generalize World.setRow _ u.heap.size _ = W1 at *
  generalize u.heap.size = g12 at *
  obtain ⟨PN, u3, hPN⟩ : ∃ P u, newZ lm = (P, u) := ⟨_, _, rfl⟩
  have EN := Lib.hid hPN
  clear hPN
  have y1 := k9.cell 1
  simp at y1
  go_upto_region 3 with (first
    | (go_at_call 34; (with_reducible refine (rnew_e EN.out _).mono ?_); rintro _ u ⟨A14, c14, B14, d14, rfl, ho, hb⟩; have hn := Held.new u 32 pz0)
    | (guard_target = wpList _ _ _ (Oper.mk _ (Op.store 32 (.tmp 14) _) _ _ _ none :: _) _ _; refine wpList_store_row rfl 32 _ _ rfl u.heap.size (pc A14 PN.cells.length c14 B14 PN.free.length d14 PN.most) rfl rfl _ _ hn (by kernel_rfl) rfl (by simp [Value.oneCell']) ?_))
  obtain ⟨v14, hbW⟩ := new_r1 (c := c14) (c2 := d14) (P := PN) hb ho
  have hs_v14 := hb.size
  clear hb ho hn
  replace k9 := Held.below k9 hbW
  replace k10 := Held.below k10 hbW
  replace v12 := v12.below hbW
  replace of12 := of12.below hbW
  replace hb := Below.step hb hbW
  clear hbW
  generalize World.setRow _ u.heap.size _ = W2 at *
  generalize u.heap.size = g14 at *
  clear y1
  have hk2 : w.heap.size + 1 < W2.heap.size := by have := k10.lt; omega
  obtain ⟨RL, CL, hFR⟩ : ∃ a b, freshR k lr = (a, b) := ⟨_, _, rfl⟩
  have FC := rfresh_z k lf lm lr W2
  rw [hFR] at FC
  have HFR := Lib.hid hFR
  clear hFR
  go_upto_region 4 with (first
    | (guard_target = wpList _ _ _ (Oper.mk (some 36) _ _ _ _ none :: _) _ _; refine wpList_load_row rfl 26 _ rfl w.heap.size rfl _ _ _ _ k9 Tryz.underlying26 rfl (by kernel_rfl) ?_)
    | (go_at_call 11; (with_reducible refine (FC).mono ?_); rintro _ u ⟨A16, c16, A17, c17, rfl, og, oc, hbF⟩; replace k9 := Held.below k9 hbF; replace k10 := Held.below k10 hbF; replace v12 := v12.below hbF; replace of12 := of12.below hbF; replace v14 := v14.below hbF; replace hb := Below.step hb hbF))
  clear FC hbF
  obtain ⟨nr, hnr⟩ : ∃ n, RL.length = n := ⟨_, rfl⟩
  obtain ⟨nc, hnc⟩ : ∃ n, CL.length = n := ⟨_, rfl⟩
  simp only [hnr, hnc] at og oc ⊢
  have HO := Lib.hid (And.intro og oc)
  clear og oc
  obtain ⟨mw, hmw⟩ : ∃ b, (u1 && u2 && (decide (1 ≤ lm) && decide (lm ≤ 1024)) && mayFr k lr && (decide (1 ≤ lf) && decide (lf ≤ 100000))) = b := ⟨_, rfl⟩
  have key : (mw = false ∧ (u1 = false ∨ (u1 = true ∧ u2 = false) ∨ (u1 = true ∧ u2 = true ∧ u3 = false) ∨ (u1 = true ∧ u2 = true ∧ u3 = true ∧ ((nr : Int) == 0) = true) ∨ (u1 = true ∧ u2 = true ∧ u3 = true ∧ ((nr : Int) == 0) = false ∧ decide (lf < 1) = true) ∨ (u1 = true ∧ u2 = true ∧ u3 = true ∧ ((nr : Int) == 0) = false ∧ decide (lf < 1) = false ∧ decide (100000 < lf) = true))) ∨ (mw = true ∧ u1 = true ∧ u2 = true ∧ u3 = true ∧ ((nr : Int) == 0) = false ∧ decide (lf < 1) = false ∧ decide (100000 < lf) = false) := by
    have h3 : (decide (1 ≤ lm) && decide (lm ≤ 1024)) = u3 := by
      have h9 := EN.out
      rw [new_first] at h9
      split at h9
      case isTrue h => rw [← (Prod.mk.inj h9).2]; simp [h.1, h.2]
      case isFalse h => rw [← (Prod.mk.inj h9).2, ← Bool.not_eq_true]; simpa using h
    have h4 : mayFr k lr = !((nr : Int) == 0) := by
      have h9 := HFR.out
      cases hm : mayFr k lr with
      | false =>
        rw [freshR_no hm] at h9
        obtain rfl := (Prod.mk.inj h9).1
        obtain rfl : 0 = nr := hnr
        rfl
      | true =>
        obtain ⟨q1, q2⟩ := (mayFr_iff _ _).1 hm
        unfold freshR at h9
        rw [if_pos hm] at h9
        have e9 : k.toNat = nr := by rw [← hnr, ← (Prod.mk.inj h9).1, List.length_replicate]
        have e8 : ¬ nr = 0 := by omega
        simp [e8]
    rw [h3, h4] at hmw
    have h5 : decide (1 ≤ lf) = !decide (lf < 1) := by by_cases h : lf < 1 <;> simp [h] <;> omega
    have h6 : decide (lf ≤ 100000) = !decide (100000 < lf) := by by_cases h : 100000 < lf <;> simp [h] <;> omega
    rw [h5, h6] at hmw
    generalize ((nr : Int) == 0) = b4 at *
    generalize decide (lf < 1) = b5 at *
    generalize decide (100000 < lf) = b6 at *
    subst hmw
    cases u1 <;> cases u2 <;> cases u3 <;> cases b4 <;> cases b5 <;> cases b6 <;> simp
  have HMW := Lib.hid hmw
  have HNR := Lib.hid (And.intro hnr hnc)
  clear hmw hnr hnc
  have y0 := k9.cell 0
  simp at y0
  have HGU := Lib.hid (HGD.out u hb)
  clear HGD
  go_cut [65] from 40 to 66 (fun v wx => v = .bool (!mw) ∧ Below u.heap.size u wx)
  case first =>
    rcases key with ⟨hm, h | ⟨h, h2⟩ | ⟨h, h2, h3⟩ | ⟨h, h2, h3, h4⟩ | ⟨h, h2, h3, h4, h5⟩ | ⟨h, h2, h3, h4, h5, h6⟩⟩ | ⟨hm, h, h2, h3, h4, h5, h6⟩
    all_goals
      subst h
      try subst h2
      try subst h3
      go_wp2_with (go_at_call 19; (with_reducible refine HGU.out.mono ?_); rintro _ ug ⟨rfl, hbg⟩; have y0 := (Held.below k9 hbg).cell 0; simp at y0)
      go_meet
      case rel => exact ⟨by rw [hm]; rfl, hbg⟩
  case rest =>
    obtain ⟨rfl, hwc⟩ := hcut
    clear y0 HGU
    replace k9 := Held.below k9 hwc
    replace k10 := Held.below k10 hwc
    replace v12 := v12.below hwc
    replace of12 := of12.below hwc
    replace v14 := v14.below hwc
    replace hb := Below.step hb hwc
    rcases key with ⟨hm, -⟩ | ⟨hm, h, h2, h3, h4, h5, h6⟩
    · subst hm
      have hRE := HR.out
      rw [if_neg (by rw [HMW.out]; decide)] at hRE
      subst hRE
      clear hwc
      go_wp2_with ((guard_target = wpList _ _ _ (Oper.mk _ (Op.store 43 (.tmp 10) _) _ _ _ none :: _) _ _; refine wpList_store_row rfl 43 _ _ rfl (w.heap.size + 1) wz0 rfl rfl _ _ k10 (by kernel_rfl) rfl (by simp [Value.oneCell']) ?_))
      have hb9 := below_setRow hb (show w.heap.size ≤ (w.heap.size + 1) by omega) wz0
      exact bodyPost_ret (results_ct0 rfl _ _ rfl rfl (load_wld (held_rowSelf k10 wz0) rfl)) rfl ⟨wa0, rfl, wat0 _ _ _, hb9⟩
    · subst hm h h2 h3
      have hRE := HR.out
      rw [if_pos HMW.out] at hRE
      have hlm : 1 ≤ lm ∧ lm ≤ 1024 := by
        have h9 := HMW.out
        simp only [Bool.and_eq_true, decide_eq_true_eq] at h9
        exact h9.1.1.2
      have hkr : mayFr k lr = true := by
        have h9 := HMW.out
        simp only [Bool.and_eq_true] at h9
        exact h9.1.2
      have hPN : PN = ⟨[], [], lm⟩ := by
        have h9 := EN.out
        rw [new_first, if_pos hlm] at h9
        exact (Prod.mk.inj h9).1.symm
      obtain ⟨LN, hLN⟩ : ∃ L : Zp, L = ⟨[⟨0, true, f⟩], [], lm⟩ := ⟨_, rfl⟩
      obtain ⟨r0, hr0⟩ : ∃ r : V, r = (0, 0) := ⟨_, rfl⟩
      have hlay : layZ PN f = (LN, r0, 0) := by rw [hPN, lay_first hlm.1 hlm.2, hLN, hr0]
      have LPN : LenZ PN := by rw [hPN]; exact ⟨by simp, by simp, fun i hi => absurd hi (by simp)⟩
      have hok : okZ PN = true := by rw [hPN]; exact (okZ_iff _).2 ⟨⟨hlm.1, hlm.2, by simp; omega⟩, by simp, by simp, fun i h => absurd h (by simp), fun i h => absurd h (by simp)⟩
      have hcN : PN.cells = [] := by rw [hPN]
      have hfN : PN.free = [] := by rw [hPN]
      have hfu : ¬ (PN.cells.length : Int) = PN.most := by rw [hPN]; simp; omega
      have LC := Lib.hid (fun (W : World) {A A2 : Option Addr} {c c2 : Nat} {ds : Array Value} (hp : PAtZ W W.heap.size A A2 PN) (hf : FrmAt W W.heap.size (.agg ds) f) => by
        have h9 := rlay_first c c2 W rfl rfl hp LPN (Nat.le_refl _) hf (Nat.le_refl _) hok hcN hfN hfu
        rw [hlay] at h9
        exact h9 : ∀ (W : World) {A A2 : Option Addr} {c c2 : Nat} {ds : Array Value}, PAtZ W W.heap.size A A2 PN → FrmAt W W.heap.size (.agg ds) f → Calls Tryz.prog 35 #[pv A PN.cells.length c A2 PN.free.length c2 PN.most, .agg ds] W (LayFi W (LN, r0, 0) ds f))
      obtain ⟨kn, hkn⟩ : ∃ kn : Nat, k = kn ∧ 1 ≤ kn := by
        have h9 := (mayFr_iff _ _).1 hkr
        exact ⟨k.toNat, by omega, by omega⟩
      have hFR := HFR.out
      unfold freshR at hFR
      rw [if_pos hkr] at hFR
      have hRL := (Prod.mk.inj hFR).1
      have hCL := (Prod.mk.inj hFR).2
      have hcs : (r0 :: List.replicate (k.toNat - 1) noV) = CL.set 0 r0 := by
        rw [← hCL, hkn.1, Int.toNat_natCast]
        obtain ⟨m, rfl⟩ : ∃ m, kn = m + 1 := ⟨kn - 1, by omega⟩
        simp [List.replicate_succ]
      have hnc1 : 1 ≤ nc := by
        rw [← HNR.out.2, ← hCL, List.length_replicate]
        omega
      have hRE2 : R = (⟨p, lf, lm, lr, LN, RL, CL.set 0 r0, r0, 0, 0, 0, 0, 0, 0, 0, 0⟩, 0) := by rw [← hRE, hLN, ← hcs, hr0, hRL]
      have HRE := Lib.hid hRE2
      have HCN := Lib.hid (show 0 < CL.length by rw [HNR.out.2]; exact hnc1)
      clear hRE hRE2 hlm hkr hPN hLN hr0 hlay LPN hok hcN hfN hfu hkn hFR hRL hCL hcs
      have ogc := And.intro (HO.out.1.below hwc) (r_later HO.out.2 hwc : OwnR _ W2.heap.size (.slice A17 nc c17) CL)
      clear hwc
      obtain ⟨og, oc⟩ := ogc
      obtain ⟨g17, c17', e17⟩ := r_form oc (by rw [HNR.out.2]; exact hnc1)
      rw [HNR.out.2] at e17
      simp only [Value.slice.injEq] at e17
      obtain ⟨rfl, -, -⟩ := e17
      go_upto_region 7 with (first
        | (guard_target = wpList _ _ _ (Oper.mk (some 68) _ _ _ _ none :: _) _ _; refine wpList_load_row rfl 32 _ rfl g14 rfl _ _ _ _ v14.x Tryz.underlying32 rfl (by kernel_rfl) ?_)
        | (guard_target = wpList _ _ _ (Oper.mk (some 69) _ _ _ _ none :: _) _ _; refine wpList_load_row rfl 60 _ rfl g12 rfl _ _ _ _ v12.x Tryz.underlying60 rfl (by rw [v12.s]; kernel_rfl) ?_)
        | (go_at_call 35; (with_reducible refine (LC.out _ v14.p v12.p).mono ?_); rintro _ u7 ⟨A18, c18, B18, d18, rfl, hz, hb7⟩; have hn := (Held.new u7 32 pz0).alloc (.cells (refc 0 0) 36); have hm := Held.new1 u7 (.cells pz0 32) 36 (refc 0 0))
        | (guard_target = wpList _ _ _ (Oper.mk _ (Op.store 32 (.tmp 18) _) _ _ _ none :: _) _ _; refine wpList_store_row rfl 32 _ _ rfl u7.heap.size (pc A18 LN.cells.length c18 B18 LN.free.length d18 LN.most) rfl rfl _ _ hn (by kernel_rfl) rfl (by simp [Value.oneCell']) ?_; have hm2 := held_row hm (Nat.succ_ne_self u7.heap.size) (pc A18 LN.cells.length c18 B18 LN.free.length d18 LN.most))
        | (guard_target = wpList _ _ _ (Oper.mk _ (Op.store 36 (.tmp 19) _) _ _ _ none :: _) _ _; refine wpList_store_row rfl 36 _ _ rfl (u7.heap.size + 1) (refc r0.1 r0.2) rfl rfl _ _ hm2 (by kernel_rfl) rfl (by simp [Value.oneCell']) ?_))
      have hb8 : Below u7.heap.size u7 ((((u7.alloc (.cells pz0 32)).alloc (.cells (refc 0 0) 36)).setRow u7.heap.size (pc A18 LN.cells.length c18 B18 LN.free.length d18 LN.most)).setRow (u7.heap.size + 1) (refc r0.1 r0.2)) := below_setRow (below_setRow (below2 _ _ _) (Nat.le_refl _) _) (Nat.le_succ _) _
      have k18 := held_row (held_rowSelf hn (pc A18 LN.cells.length c18 B18 LN.free.length d18 LN.most)) (Nat.ne_of_lt (Nat.lt_succ_self u7.heap.size)) (refc r0.1 r0.2)
      have k19 := held_rowSelf hm2 (refc r0.1 r0.2)
      have hzz := hz.below (F' := fun v F => v = .agg ds12 ∧ F = f) hb8 (fun _ _ h => h)
      have oc9 : OwnR _ W2.heap.size (.slice (some ⟨g17, 0, none⟩) nc c17) CL := r_later (r_later oc hb7) hb8
      have G17 := (World.ownsRow.lt (r_later oc hb7) g17 rfl).2
      clear hz oc hn hm hm2
      replace k9 := Held.below k9 hb7
      replace k10 := Held.below k10 hb7
      replace v12 := v12.below hb7
      replace of12 := of12.below hb7
      replace v14 := v14.below hb7
      replace og := og.below hb7
      replace hb := Below.step hb hb7
      replace k9 := Held.below k9 hb8
      replace k10 := Held.below k10 hb8
      replace v12 := v12.below hb8
      replace of12 := of12.below hb8
      replace v14 := v14.below hb8
      replace og := og.below hb8
      replace hb := Below.step hb hb8
      have hs8 := hb7.size
      have hwz := hb.size
      have hg17u : g17 < u7.heap.size + 1 := by omega
      clear G17
      clear hb7 hb8
      generalize World.setRow _ (u7.heap.size + 1) _ = W6 at *
      generalize u7.heap.size + 1 = g19 at *
      generalize u7.heap.size = g18 at *
      have HTH := Lib.hid (row_there (o := 0) (k := 2) (show World.ownsRow W6 W2.heap.size 36 2 (.slice (some ⟨g17, 0, none⟩) nc c17) nc (flatP CL) by have h9 := oc9; unfold OwnR Own2 at h9; rw [HNR.out.2] at h9; exact h9) (by omega))
      have hg17 := (World.ownsRow.lt oc9 g17 rfl).1
      go_upto_region 8 with (first
        | (guard_target = wpList _ _ _ (Oper.mk (some 75) _ _ _ _ none :: _) _ _; refine wpList_load_row rfl 36 _ rfl g19 rfl _ _ _ _ k19 Tryz.underlying36 rfl (by kernel_rfl) ?_)
        | (guard_target = wpList _ _ _ (Oper.mk none (Op.store 36 (.tmp 76) _) _ _ _ none :: _) _ _; refine wpList_store_mid rfl 36 _ _ rfl g17 0 ([.int .i64 r0.1, .int .i64 r0.2] : List Value).toArray rfl rfl HTH.out (by kernel_rfl) (by simp [Value.oneCell']) ?_))
      have hgr := grown_setCells W6 g17 0 [.int .i64 r0.1, .int .i64 r0.2]
      have hkR : KTy W6 (W6.setCells g17 0 [.int .i64 r0.1, .int .i64 r0.2]) 36 := kt_own oc9 hgr
      have og2 := og.turn hgr hkR (fun b e => .inl e)
      have oc2 : OwnR (W6.setCells g17 0 [.int .i64 r0.1, .int .i64 r0.2]) W2.heap.size (.slice (some ⟨g17, 0, none⟩) nc c17) (CL.set 0 r0) := by
        have h9 := Own2.set oc9 0 r0 HCN.out
        simpa [World.setCells] using h9
      have hz2 := hzz.kt (F' := fun v F => v = .agg ds12 ∧ F = f) hkR (by decide) (by decide) (fun _ _ h => h)
      have of2 := of12.kt hkR (by decide) (by decide)
      have q9 := held_kt k9 hkR (by decide)
      have q10 := held_kt k10 hkR (by decide)
      have q18 := held_kt k18 hkR (by decide)
      have q19 : Held (W6.setCells g17 0 [.int .i64 r0.1, .int .i64 r0.2]) g19 36 (refc r0.1 r0.2) := (setCells_far _ _ _ _ _ (by omega)).trans k19
      have hb2 := below_setCells hb (show w.heap.size ≤ g17 by omega) 0 [.int .i64 r0.1, .int .i64 r0.2]
      have HF := Lib.hid (And.intro og2 (And.intro oc2 (And.intro hz2 (And.intro of2 hb2))))
      clear hgr hkR og og2 oc9 oc2 hzz hz2 of12 of2 k9 k10 k18 k19 hb hb2 HTH HO v12 v14 LC HFR EN
      generalize (W6.setCells g17 0 [.int .i64 r0.1, .int .i64 r0.2]) = W7 at *
      go_wp2_with (first
        | (guard_target = wpList _ _ _ (Oper.mk (some 78) _ _ _ _ none :: _) _ _; refine wpList_load_row rfl 26 _ rfl w.heap.size rfl _ _ _ _ q9 Tryz.underlying26 rfl (by kernel_rfl) ?_)
        | (guard_target = wpList _ _ _ (Oper.mk (some 79) _ _ _ _ none :: _) _ _; refine wpList_load_row rfl 32 _ rfl g18 rfl _ _ _ _ q18 Tryz.underlying32 rfl (by kernel_rfl) ?_)
        | (guard_target = wpList _ _ _ (Oper.mk (some 82) _ _ _ _ none :: _) _ _; refine wpList_load_row rfl 36 _ rfl g19 rfl _ _ _ _ q19 Tryz.underlying36 rfl (by kernel_rfl) ?_)
        | (guard_target = wpList _ _ _ (Oper.mk _ (Op.store 43 (.tmp 10) _) _ _ _ none :: _) _ _; refine wpList_store_row rfl 43 _ _ rfl (w.heap.size + 1) #[.slice Ap pl c, .int .i64 lf, .int .i64 lm, .int .i64 lr, .slice A18 LN.cells.length c18, .slice B18 LN.free.length d18, .int .i64 LN.most, .slice A16 nr c16, .slice (some ⟨g17, 0, none⟩) nc c17, .int .i64 r0.1, .int .i64 r0.2, .int .i64 0, .int .i64 0, .int .i64 0, .int .i64 0, .int .i64 0, .int .i64 0, .int .i64 0, .int .i64 0] rfl rfl _ _ q10 (by kernel_rfl) rfl (by simp [Value.oneCell']) ?_))
      skip
      obtain ⟨og2, oc2, hz2, of2, hb2⟩ := HF.out
      have hbf := below_setRow hb2 (show w.heap.size ≤ (w.heap.size + 1) by omega) #[.slice Ap pl c, .int .i64 lf, .int .i64 lm, .int .i64 lr, .slice A18 LN.cells.length c18, .slice B18 LN.free.length d18, .int .i64 LN.most, .slice A16 nr c16, .slice (some ⟨g17, 0, none⟩) nc c17, .int .i64 r0.1, .int .i64 r0.2, .int .i64 0, .int .i64 0, .int .i64 0, .int .i64 0, .int .i64 0, .int .i64 0, .int .i64 0, .int .i64 0]
      have hkW := kt_row q10 #[.slice Ap pl c, .int .i64 lf, .int .i64 lm, .int .i64 lr, .slice A18 LN.cells.length c18, .slice B18 LN.free.length d18, .int .i64 LN.most, .slice A16 nr c16, .slice (some ⟨g17, 0, none⟩) nc c17, .int .i64 r0.1, .int .i64 r0.2, .int .i64 0, .int .i64 0, .int .i64 0, .int .i64 0, .int .i64 0, .int .i64 0, .int .i64 0, .int .i64 0]
      have hfr := (of2.kt hkW (by decide) (by decide)).at
      have hz3 := (hz2.kt (F' := FrmAt (W7.setRow (w.heap.size + 1) #[.slice Ap pl c, .int .i64 lf, .int .i64 lm, .int .i64 lr, .slice A18 LN.cells.length c18, .slice B18 LN.free.length d18, .int .i64 LN.most, .slice A16 nr c16, .slice (some ⟨g17, 0, none⟩) nc c17, .int .i64 r0.1, .int .i64 r0.2, .int .i64 0, .int .i64 0, .int .i64 0, .int .i64 0, .int .i64 0, .int .i64 0, .int .i64 0, .int .i64 0]) (W7.setRow (w.heap.size + 1) #[.slice Ap pl c, .int .i64 lf, .int .i64 lm, .int .i64 lr, .slice A18 LN.cells.length c18, .slice B18 LN.free.length d18, .int .i64 LN.most, .slice A16 nr c16, .slice (some ⟨g17, 0, none⟩) nc c17, .int .i64 r0.1, .int .i64 r0.2, .int .i64 0, .int .i64 0, .int .i64 0, .int .i64 0, .int .i64 0, .int .i64 0, .int .i64 0, .int .i64 0]).heap.size) hkW (by decide) (by decide) (fun v F ⟨e1, e2⟩ => by subst e1 e2; exact hfr)).at (Nat.le_refl _)
      have hg3 := (og2.own.kt hkW (by decide) (by decide)).at
      have hc3 := own2_at (row_kt oc2 hkW (by decide))
      have hRE := HRE.out
      subst hRE
      exact bodyPost_ret (results_ct0 rfl _ _ rfl rfl (load_wld (held_rowSelf q10 #[.slice Ap pl c, .int .i64 lf, .int .i64 lm, .int .i64 lr, .slice A18 LN.cells.length c18, .slice B18 LN.free.length d18, .int .i64 LN.most, .slice A16 nr c16, .slice (some ⟨g17, 0, none⟩) nc c17, .int .i64 r0.1, .int .i64 r0.2, .int .i64 0, .int .i64 0, .int .i64 0, .int .i64 0, .int .i64 0, .int .i64 0, .int .i64 0, .int .i64 0]) rfl)) rfl ⟨⟨Ap, c, A18, c18, B18, d18, A16, c16, some ⟨g17, 0, none⟩, c17⟩, by simp only [wcs, HPL.out, HNR.out.1, List.length_set, HNR.out.2]; rfl, ⟨(HP.out.1.below hbf HP.out.2).more (Nat.le_trans HP.out.2 hbf.size), hz3, hg3, hc3⟩, hbf⟩
end Go.Proofs.YtjibkgildfjjoaaGreatDoor

