/- Layer 10's code: an instruction of the last task. -/
import Derived.Test.YtagjddnpaahebaaGreatDoorzSb
import Derived.Test.YtagjddnpaahebaaGreatDoorzSj
namespace Go.Proofs.YtagjddnpaahebaaGreatDoor
set_option linter.unusedVariables false
set_option linter.unusedSimpArgs false
open Gm Go.RowKit Go.ChangeShapes Go.WideShapes Go.ChangeAt Go.Sort

/-- Cells of the last task's frame. -/
theorem RunS.cells {w : World} {B r : Nat} {pv : Value} {fuel used : Int} {l0 : List TskC} {x : TskC} {g n cap : Nat} (h : RunS w B r pv fuel used (.slice (some ⟨g, 0, none⟩) n cap) (l0 ++ [x])) : ∀ i u, x.cs[i]? = some u → w.cell? ⟨g, l0.length * 17 + i, none⟩ = some u := fun i u hu => by
  obtain ⟨g', cap', e, _, _, _, _, _, hr, _⟩ := h.last
  simp only [Value.slice.injEq, Option.some.injEq, Addr.mk.injEq, and_true, true_and] at e
  obtain ⟨rfl, _⟩ := e
  have hr' : ∀ j v, (x.cs.toList ++ [.int .i64 x.sl])[j]? = some v → w.cell? ⟨g, l0.length * 17 + j, none⟩ = some v := hr
  refine hr' i u ?_
  have hi : i < x.cs.toList.length := by have := (Array.getElem?_eq_some_iff.1 hu).1; simpa using this
  rw [List.getElem?_append_left hi]
  simpa using hu
set_option maxHeartbeats 4000000 in
set_option maxRecDepth 100000 in
theorem sdo_out {B r : Nat} {pv v : Value} {fuel : Int} {l : List TskC} (w : World) (h : RunS w B r pv fuel fuel v l) (hB : B ≤ w.heap.size) :
    Calls Tryz.prog 55 #[.pointer (some ⟨r, 0, none⟩)] w fun e w' => e = .panicked [{ v := .iface 33 (.int .i64 100), recovered := false }] ∧ KS B w w' := by
  have r1 := h.blk.cell 1
  have r2 := h.blk.cell 2
  have rl := h.rlt
  simp at r1 r2
  have HB := Lib.hid hB
  clear h hB
  go_enter Tryz.func55, Tryz.ntmps55
  go_upto_region 1 with fail
  go_region
  all_goals go_wp2_with fail
  all_goals exact ⟨rfl, rfl, KS.of (by go_grown) HB.out⟩
theorem KT.rowNew {w W : World} (h : KT w W) {k : Nat} (hk : w.heap.size ≤ k) (cs : Array Value) : KT w (W.setRow k cs) :=
  ⟨by simpa [World.setRow] using h.size, fun j o t fr e n1 n2 => (setRow_far W k cs j (by have := heap_lt e; omega)).trans (h.keep j o t fr e n1 n2)⟩
theorem RunS.rowFar {w : World} {B r : Nat} {pv v : Value} {fuel used : Int} {l : List TskC} (h : RunS w B r pv fuel used v l) {k : Nat} {t : TypeId} {old : Array Value} (hk : Held w k t old) (h1 : t ≠ 63) (h2 : t ≠ 126) (h3 : t ≠ 30) (h4 : t ≠ 83) (cs : Array Value) :
    RunS (w.setRow k cs) B r pv fuel used v l :=
  ⟨h.blk.row (held_ne h.blk hk (Ne.symm h1)) cs, h.ler, row_same h.row fun g e => setRow_far w k cs g (row_apart h.row hk h2 g e), fun x hx => ⟨(h.ok x hx).own.kb hk h3 h4 ((KB.of_below (Below.refl _ _) _).row cs), (h.ok x hx).fc, (h.ok x hx).bnd⟩⟩
theorem wrap64_nat {n : Nat} (h : n ≤ 1000000) : wrap64 (n : Int) = n := by unfold wrap64; omega
theorem i64_nat {n : Nat} (h : n ≤ 1000000) : IntKind.i64.wrap (n : Int) = n := by simp [IntKind.wrap, IntKind.bits, IntKind.signed]; omega
/-- What the region reads, wherever memory was made. -/
theorem keepD {W1 W : World} {B r np c g n cap : Nat} {A A1 A2 A3 : Option Addr} {c1 c2 c3 : Nat} {fuel used sl : Int} {l0 : List TskC} {f : Frm} (h : RunS W1 B r (.slice A np c) fuel used (.slice (some ⟨g, 0, none⟩) (n + 1) cap) (l0 ++ [⟨#[.int .i64 f.fn, .int .i64 f.pc, .slice A1 f.stk.length c1, .slice A2 f.loc.length c2, .slice A3 f.slt.length c3, .int .i64 f.seed, .int .i64 f.spn, .int .i64 f.drw, .int .i64 f.st, .int .i64 f.wt, .int .i64 f.otr, .int .i64 f.ore, .int .i64 f.oim, .int .i64 f.uat, .int .i64 f.ugn, .int .i64 f.usl], f, sl⟩])) (hn : l0.length = n) (hb : Below W1.heap.size W1 W) :
    W.cell? ⟨r, 0, none⟩ = some (.slice A np c) ∧ W.cell? ⟨g, n * 17, none⟩ = some (.int .i64 f.fn) ∧ W.cell? ⟨g, n * 17 + 1, none⟩ = some (.int .i64 f.pc) ∧ W.cell? ⟨g, n * 17 + 2, none⟩ = some (.slice A1 f.stk.length c1) ∧ W.cell? ⟨g, n * 17 + 3, none⟩ = some (.slice A2 f.loc.length c2) ∧ W.cell? ⟨g, n * 17 + 4, none⟩ = some (.slice A3 f.slt.length c3) ∧ W.cell? ⟨g, n * 17 + 5, none⟩ = some (.int .i64 f.seed) ∧ W.cell? ⟨g, n * 17 + 6, none⟩ = some (.int .i64 f.spn) ∧ W.cell? ⟨g, n * 17 + 7, none⟩ = some (.int .i64 f.drw) ∧ W.cell? ⟨g, n * 17 + 8, none⟩ = some (.int .i64 f.st) ∧ W.cell? ⟨g, n * 17 + 9, none⟩ = some (.int .i64 f.wt) ∧ W.cell? ⟨g, n * 17 + 10, none⟩ = some (.int .i64 f.otr) ∧ W.cell? ⟨g, n * 17 + 11, none⟩ = some (.int .i64 f.ore) ∧ W.cell? ⟨g, n * 17 + 12, none⟩ = some (.int .i64 f.oim) ∧ W.cell? ⟨g, n * 17 + 13, none⟩ = some (.int .i64 f.uat) ∧ W.cell? ⟨g, n * 17 + 14, none⟩ = some (.int .i64 f.ugn) ∧ W.cell? ⟨g, n * 17 + 15, none⟩ = some (.int .i64 f.usl) := by
  subst hn
  have h2 := h.below hb
  have k := h2.cells
  exact ⟨h2.blk.cell 0, k 0 _ rfl, k 1 _ rfl, k 2 _ rfl, k 3 _ rfl, k 4 _ rfl, k 5 _ rfl, k 6 _ rfl, k 7 _ rfl, k 8 _ rfl, k 9 _ rfl, k 10 _ rfl, k 11 _ rfl, k 12 _ rfl, k 13 _ rfl, k 14 _ rfl, k 15 _ rfl⟩
/-- What it leaves: the frame and the act in variables of its own. -/
def MidD (W1 : World) (R : Frm × ActP) (v4 v5 : Value) (wx : World) : Prop := ∃ g4 g5 cs c1, v4 = .pointer (some ⟨g4, 0, none⟩) ∧ v5 = .pointer (some ⟨g5, 0, none⟩) ∧ Held wx g4 58 cs ∧ FC cs R.1 ∧ OwnF wx 0 (.agg cs) R.1 ∧ Held wx g5 85 c1 ∧ AC c1 R.2 ∧ ActO wx 0 (.agg c1) R.2 ∧ Below W1.heap.size W1 wx
set_option maxHeartbeats 8000000 in
set_option maxRecDepth 100000 in
theorem sdo_in {B r np c : Nat} {A : Option Addr} {p : List Fun} {U : World} {v : Value} {fuel used : Int} {l0 : List TskC} {x : TskC} (w : World) (CX : Cx p A np c U) (hU : Below U.heap.size U w) (hUB : U.heap.size ≤ B) (h : RunS w B r (.slice A np c) fuel used v (l0 ++ [x])) (hl : l0.length ≤ 1000000) (hB : B ≤ w.heap.size) (hu0 : 0 ≤ used) (hu : used < fuel) (hf : fuel ≤ 100000) :
    Calls Tryz.prog 55 #[.pointer (some ⟨r, 0, none⟩)] w fun e w' => ∃ av cs', e = .returned av ∧ ActO w' 0 av (doF p x.f).2 ∧ RunS w' B r (.slice A np c) fuel (used + 1) v (l0 ++ [⟨cs', (doF p x.f).1, x.sl⟩]) ∧ KS B w w' := by
  obtain ⟨g, cap, rfl, hnc, hcm, hBg, hgl, hgr, _, _, _⟩ := h.last
  have r0 := h.blk.cell 0
  have r1 := h.blk.cell 1
  have r2 := h.blk.cell 2
  have r3 := h.blk.cell 3
  have z2 := h.blk.fz 2
  have rl := h.rlt
  simp at r0 r1 r2 r3
  obtain ⟨xcs, f, sl⟩ := x
  obtain ⟨s, lo, o, e, o1, o2, o3⟩ := (h.ok ⟨xcs, f, sl⟩ (by simp)).own
  obtain ⟨A1, c1, rfl, _⟩ := o1.lies
  obtain ⟨A2, c2, rfl, _⟩ := o2.lies
  obtain ⟨A3, c3, rfl, _⟩ := o3.lies
  simp only [Value.agg.injEq] at e
  subst e
  clear o1 o2 o3
  have HH := Lib.hid h
  have HB := Lib.hid hB
  have HU := Lib.hid hU
  have HCX := Lib.hid CX
  have HL := Lib.hid hl
  have hne : (used == fuel) = false := by simp; omega
  have hadd : wrap64 (used + 1) = used + 1 := by unfold wrap64; omega
  generalize hn : l0.length = n at *
  have HN := Lib.hid hn
  have hw1 : wrap64 (n : Int) = n := wrap64_nat hl
  have hw2 := i64_nat hl
  have hlow : (((n + 1 : Nat) : Int) - 1) = (n : Int) := by omega
  have hcapn : (n : Int) < ((n + 1 : Nat) : Int) := by omega
  clear h hB CX hU hn hl hu0 hu hf hnc hcm
  go_enter Tryz.func55, Tryz.ntmps55
  go_upto_region 1 with fail
  go_region
  go_upto_region 4 with fail
  go_region
  go_upto_region 5 with fail
  have hU1 := HH.out.use (used + 1)
  have hUs : (w.setCell ⟨r, 2, none⟩ (.int .i64 (used + 1))).heap.size = w.heap.size := by simp [World.setCell]
  have hUb : Below (w.setCell ⟨r, 2, none⟩ (.int .i64 (used + 1))).heap.size (w.setCell ⟨r, 2, none⟩ (.int .i64 (used + 1))) ((w.setCell ⟨r, 2, none⟩ (.int .i64 (used + 1))).alloc (.cells az0 85)).drew.drew := ((Below.refl _ _).alloc (Nat.le_refl _) _).drew.drew
  have hK1 : KS B w ((w.setCell ⟨r, 2, none⟩ (.int .i64 (used + 1))).alloc (.cells az0 85)).drew.drew :=
    (show KS B w (w.setCell ⟨r, 2, none⟩ (.int .i64 (used + 1))) from ⟨Below.setCell (p := ⟨r, 2, none⟩) (Below.refl _ _) HH.out.ler _, KT.cell HH.out.blk (.inl rfl) _ _⟩).trans (KS.of hUb (by rw [hUs]; exact HB.out))
  have hR1 : RunS ((w.setCell ⟨r, 2, none⟩ (.int .i64 (used + 1))).alloc (.cells az0 85)).drew.drew B r (.slice A np c) fuel (used + 1) (.slice (some ⟨g, 0, none⟩) (n + 1) cap) (l0 ++ [⟨#[.int .i64 f.fn, .int .i64 f.pc, .slice A1 f.stk.length c1, .slice A2 f.loc.length c2, .slice A3 f.slt.length c3, .int .i64 f.seed, .int .i64 f.spn, .int .i64 f.drw, .int .i64 f.st, .int .i64 f.wt, .int .i64 f.otr, .int .i64 f.ore, .int .i64 f.oim, .int .i64 f.uat, .int .i64 f.ugn, .int .i64 f.usl], f, sl⟩]) := hU1.below hUb
  have hZ1 : Held ((w.setCell ⟨r, 2, none⟩ (.int .i64 (used + 1))).alloc (.cells az0 85)).drew.drew w.heap.size 85 az0 := by have hq : Held ((w.setCell ⟨r, 2, none⟩ (.int .i64 (used + 1))).alloc (.cells az0 85)).drew.drew (w.setCell ⟨r, 2, none⟩ (.int .i64 (used + 1))).heap.size 85 az0 := Held.new (w.setCell ⟨r, 2, none⟩ (.int .i64 (used + 1))) 85 az0; rwa [hUs] at hq
  clear hU1 hUb hUs
  generalize hW1 : ((w.setCell ⟨r, 2, none⟩ (.int .i64 (used + 1))).alloc (.cells az0 85)).drew.drew = W1 at *
  have H1 := Lib.hid hR1
  have K1 := Lib.hid hK1
  have Z1 := Lib.hid hZ1
  have DO : ∀ W, Below W1.heap.size W1 W → Hid (Calls Tryz.prog 81 #[.slice A np c, .agg #[.int .i64 f.fn, .int .i64 f.pc, .slice A1 f.stk.length c1, .slice A2 f.loc.length c2, .slice A3 f.slt.length c3, .int .i64 f.seed, .int .i64 f.spn, .int .i64 f.drw, .int .i64 f.st, .int .i64 f.wt, .int .i64 f.otr, .int .i64 f.ore, .int .i64 f.oim, .int .i64 f.uat, .int .i64 f.ugn, .int .i64 f.usl]] W fun e w' => DoQ W (doF p f) e w') := fun W hb => by
    have hx := (H1.out.below hb).ok ⟨#[.int .i64 f.fn, .int .i64 f.pc, .slice A1 f.stk.length c1, .slice A2 f.loc.length c2, .slice A3 f.slt.length c3, .int .i64 f.seed, .int .i64 f.spn, .int .i64 f.drw, .int .i64 f.st, .int .i64 f.wt, .int .i64 f.otr, .int .i64 f.ore, .int .i64 f.oim, .int .i64 f.uat, .int .i64 f.ugn, .int .i64 f.usl], f, sl⟩ (by simp)
    exact Lib.hid (HCX.out.act W f _ _ ((HU.out.trans (K1.out.below.mono hUB)).trans (hb.mono (Nat.le_trans hUB (Nat.le_trans HB.out K1.out.kt.size)))) hx.own.at hx.bnd.len rfl)
  have hq0 := keepD H1.out HN.out (Below.refl W1.heap.size W1)
  have HBD := Lib.hid (Bnd.do (p := p) (H1.out.ok ⟨#[.int .i64 f.fn, .int .i64 f.pc, .slice A1 f.stk.length c1, .slice A2 f.loc.length c2, .slice A3 f.slt.length c3, .int .i64 f.seed, .int .i64 f.spn, .int .i64 f.drw, .int .i64 f.st, .int .i64 f.wt, .int .i64 f.otr, .int .i64 f.ore, .int .i64 f.oim, .int .i64 f.uat, .int .i64 f.ugn, .int .i64 f.usl], f, sl⟩ (by simp)).bnd).1
  generalize hRR : doF p f = R at *
  have HRR := Lib.hid hRR
  clear hW1 hRR hK1 hR1 hZ1 r0 r1 r2 r3 z2
  go_cut [4, 5] (fun v4 v5 wx => MidD W1 R v4 v5 wx)
  case first =>
    refine wp_region_held_drew (S := fun W => Below W1.heap.size W1 W) (by kernel_rfl) (Below.refl _ _).drew (fun hb0 => ?_)
    generalize W1.drew = W2 at hb0 ⊢
    show wpAnyH _ _ _ _ _ 16 #[false, false, false, false, false, false, false, false, false, false, false, false, false, false, false, false] _ _
    refine wpAnyH_take (i := 0) (v := .pointer (some ⟨r, 0, none⟩)) rfl (by kernel_rfl) (by kernel_rfl) (by kernel_rfl) (fun _ _ _ h => h) (Or.inl ⟨by rfl, fun W hW => ?_⟩) hb0 ?_
    · go_simp
    simp only [Act.put, List.getElem_toArray, List.getElem_cons_succ, List.getElem_cons_zero, List.setIfInBounds_toArray, List.set_cons_zero, List.set_cons_succ]
    refine wpAnyH_take (i := 1) (v := .pointer (some ⟨r, 0, none⟩)) rfl (by kernel_rfl) (by kernel_rfl) (by kernel_rfl) (fun _ _ _ h => h) (Or.inl ⟨by rfl, fun W hW => ?_⟩) hb0 ?_
    · go_simp
    simp only [Act.put, List.getElem_toArray, List.getElem_cons_succ, List.getElem_cons_zero, List.setIfInBounds_toArray, List.set_cons_zero, List.set_cons_succ]
    refine wpAnyH_take (i := 2) (v := .pointer (some ⟨r, 0, none⟩)) rfl (by kernel_rfl) (by kernel_rfl) (by kernel_rfl) (fun _ _ _ h => h) (Or.inl ⟨by rfl, fun W hW => ?_⟩) hb0 ?_
    · go_simp
    simp only [Act.put, List.getElem_toArray, List.getElem_cons_succ, List.getElem_cons_zero, List.setIfInBounds_toArray, List.set_cons_zero, List.set_cons_succ]
    refine wpAnyH_take (i := 3) (v := .slice A np c) rfl (by kernel_rfl) (by kernel_rfl) (by kernel_rfl) (fun _ _ _ h => h) (Or.inl ⟨by rfl, fun W hW => ?_⟩) hb0 ?_
    · (obtain ⟨q, q0, q1, q2, q3, q4, q5, q6, q7, q8, q9, q10, q11, q12, q13, q14, q15⟩ := keepD H1.out HN.out hW; go_simp)
    simp only [Act.put, List.getElem_toArray, List.getElem_cons_succ, List.getElem_cons_zero, List.setIfInBounds_toArray, List.set_cons_zero, List.set_cons_succ]
    refine wpAnyH_take (i := 4) (v := .pointer (some ⟨g, n * 17, none⟩)) rfl (by kernel_rfl) (by kernel_rfl) (by kernel_rfl) (fun _ _ _ h => h) (Or.inl ⟨by rfl, fun W hW => ?_⟩) hb0 ?_
    · go_simp
    simp only [Act.put, List.getElem_toArray, List.getElem_cons_succ, List.getElem_cons_zero, List.setIfInBounds_toArray, List.set_cons_zero, List.set_cons_succ]
    refine wpAnyH_take (i := 5) (v := .pointer (some ⟨g, n * 17, none⟩)) rfl (by kernel_rfl) (by kernel_rfl) (by kernel_rfl) (fun _ _ _ h => h) (Or.inl ⟨by rfl, fun W hW => ?_⟩) hb0 ?_
    · go_simp
    simp only [Act.put, List.getElem_toArray, List.getElem_cons_succ, List.getElem_cons_zero, List.setIfInBounds_toArray, List.set_cons_zero, List.set_cons_succ]
    refine wpAnyH_take (i := 6) (v := .pointer (some ⟨g, n * 17, none⟩)) rfl (by kernel_rfl) (by kernel_rfl) (by kernel_rfl) (fun _ _ _ h => h) (Or.inl ⟨by rfl, fun W hW => ?_⟩) hb0 ?_
    · go_simp
    simp only [Act.put, List.getElem_toArray, List.getElem_cons_succ, List.getElem_cons_zero, List.setIfInBounds_toArray, List.set_cons_zero, List.set_cons_succ]
    refine wpAnyH_take (i := 7) (v := .agg #[.int .i64 f.fn, .int .i64 f.pc, .slice A1 f.stk.length c1, .slice A2 f.loc.length c2, .slice A3 f.slt.length c3, .int .i64 f.seed, .int .i64 f.spn, .int .i64 f.drw, .int .i64 f.st, .int .i64 f.wt, .int .i64 f.otr, .int .i64 f.ore, .int .i64 f.oim, .int .i64 f.uat, .int .i64 f.ugn, .int .i64 f.usl]) rfl (by kernel_rfl) (by kernel_rfl) (by kernel_rfl) (fun _ _ _ h => h) (Or.inl ⟨by rfl, fun W hW => ?_⟩) hb0 ?_
    · (obtain ⟨q, q0, q1, q2, q3, q4, q5, q6, q7, q8, q9, q10, q11, q12, q13, q14, q15⟩ := keepD H1.out HN.out hW; go_simp)
    simp only [Act.put, List.getElem_toArray, List.getElem_cons_succ, List.getElem_cons_zero, List.setIfInBounds_toArray, List.set_cons_zero, List.set_cons_succ]
    refine wpAnyH_ready (rs := [8, 12, 13]) (by kernel_rfl) (by simp) ?_
    refine (AllReadyH.cons rfl (fun K hK => ?_) (AllReadyH.cons rfl (fun K hK => ?_) (AllReadyH.cons rfl (fun K hK => ?_) AllReadyH.nil)))
    · go_simp
      go_at_call 81
      (with_reducible refine (DO _ hb0).out.mono ?_)
      rintro _ u ⟨v', av, rfl, ho, ha, hbu⟩
      have ho1 := OwnF.mono ho (Nat.zero_le _)
      have ha1 := ActO.mono ha (Nat.zero_le _)
      clear ho ha
      have hb1 := Below.step hb0 hbu
      obtain ⟨cs', rfl, hfc⟩ := ho1.cells
      obtain ⟨cs2, rfl, hac⟩ := ha1.cells
      (try go_wp2_with fail)
      refine hK.out _ _ hb1 (fun _ => ?_)
      clear hK K
      (try simp only [Act.put, List.getElem_toArray, List.getElem_cons_succ, List.getElem_cons_zero, List.setIfInBounds_toArray, List.set_cons_zero, List.set_cons_succ])
      refine wpAnyH_take (i := 9) (v := .tuple #[.agg cs', .agg cs2]) rfl (by kernel_rfl) (by kernel_rfl) (by kernel_rfl) (fun _ _ _ h => h) (Or.inl ⟨by rfl, fun W hW => ?_⟩) hb1 ?_
      · go_simp
      simp only [Act.put, List.getElem_toArray, List.getElem_cons_succ, List.getElem_cons_zero, List.setIfInBounds_toArray, List.set_cons_zero, List.set_cons_succ]
      refine wpAnyH_take (i := 10) (v := .agg cs') rfl (by kernel_rfl) (by kernel_rfl) (by kernel_rfl) (fun _ _ _ h => h) (Or.inl ⟨by rfl, fun W hW => ?_⟩) hb1 ?_
      · go_simp
      simp only [Act.put, List.getElem_toArray, List.getElem_cons_succ, List.getElem_cons_zero, List.setIfInBounds_toArray, List.set_cons_zero, List.set_cons_succ]
      refine wpAnyH_take (i := 11) (v := .agg cs2) rfl (by kernel_rfl) (by kernel_rfl) (by kernel_rfl) (fun _ _ _ h => h) (Or.inl ⟨by rfl, fun W hW => ?_⟩) hb1 ?_
      · go_simp
      simp only [Act.put, List.getElem_toArray, List.getElem_cons_succ, List.getElem_cons_zero, List.setIfInBounds_toArray, List.set_cons_zero, List.set_cons_succ]
      refine wpAnyH_ready (rs := [12, 13]) (by kernel_rfl) (by simp) ?_
      refine (AllReadyH.cons rfl (fun K hK => ?_) (AllReadyH.cons rfl (fun K hK => ?_) AllReadyH.nil))
      · rw [if_pos (by rfl)]
        refine wp_alloc_arr 58 rfl fz0 (by kernel_rfl) ?_
        have hb2 := below_allocz hb1 (.cells fz0 58)
        have l4 := Below.size hb1
        have f42 : Held (u.alloc (.cells fz0 58)) _ 58 fz0 := Held.new _ _ _
        have ho2 := OwnF.alloc ho1 (.cells fz0 58)
        have ha2 := ActO.alloc ha1 (.cells fz0 58)
        refine hK.out _ _ hb2 (fun _ => ?_)
        clear hK K
        simp only [Act.put, List.getElem_toArray, List.getElem_cons_succ, List.getElem_cons_zero, List.setIfInBounds_toArray, List.set_cons_zero, List.set_cons_succ]
        refine wpAnyH_ready (rs := [13]) (by kernel_rfl) (by simp) ?_
        refine (AllReadyH.cons rfl (fun K hK => ?_) AllReadyH.nil)
        · rw [if_pos (by rfl)]
          refine wp_alloc_arr 85 rfl az0 (by kernel_rfl) ?_
          have hb3 := below_allocz hb2 (.cells az0 85)
          have l5 : W1.heap.size ≤ u.heap.size + 1 := by have := Below.size hb2; simpa using this
          have f43 := Held.alloc f42 (.cells az0 85)
          have f53 : Held ((u.alloc (.cells fz0 58)).alloc (.cells az0 85)) (u.heap.size + 1) 85 az0 := Held.new1 _ _ _ _
          rw [size_alloc1]
          have ho3 := OwnF.alloc ho2 (.cells az0 85)
          have ha3 := ActO.alloc ha2 (.cells az0 85)
          refine hK.out _ _ hb3 (fun _ => ?_)
          clear hK K
          simp only [Act.put, List.getElem_toArray, List.getElem_cons_succ, List.getElem_cons_zero, List.setIfInBounds_toArray, List.set_cons_zero, List.set_cons_succ]
          have st2 := stored_two f43 f53 ho3 ha3 hb3 l4 l5
          have hne := held_ne f43 f53 (by decide)
          refine wpAnyH_ready (rs := [14]) (by kernel_rfl) (by simp) ?_
          refine (AllReadyH.cons rfl (fun K hK => ?_) AllReadyH.nil)
          rw [if_pos (by rfl)]
          refine wp_store_row 58 _ _ rfl _ cs' (by rfl) (by rfl) _ _ f43 (fb_info hfc) (by rw [hfc.size]; rfl) hfc.one ?_
          have hbs := below_rowz hb3 l4 cs'
          have f5s := Held.row f53 (Ne.symm hne) cs'
          refine hK.out _ _ hbs (fun _ => ?_)
          clear hK K
          simp only [Act.put, List.getElem_toArray, List.getElem_cons_succ, List.getElem_cons_zero, List.setIfInBounds_toArray, List.set_cons_zero, List.set_cons_succ]
          refine wpAnyH_ready (rs := [15]) (by kernel_rfl) (by simp) ?_
          refine (AllReadyH.cons rfl (fun K hK => ?_) AllReadyH.nil)
          rw [if_pos (by rfl)]
          refine wp_store_row 85 _ _ rfl _ cs2 (by rfl) (by rfl) _ _ f5s (ab_info hac) (by rw [hac.size]; rfl) hac.one ?_
          refine hK.out _ _ (below_rowz hbs l5 cs2) (fun _ => ?_)
          clear hK K
          simp only [Act.put, List.getElem_toArray, List.getElem_cons_succ, List.getElem_cons_zero, List.setIfInBounds_toArray, List.set_cons_zero, List.set_cons_succ]
          refine wpAnyH_done (by kernel_rfl) ?_ _
          go_wp2_with fail
          go_meet
          case rel => exact ⟨_, _, cs', cs2, rfl, rfl, st2.1, hfc, st2.2.1, st2.2.2.1, hac, st2.2.2.2.1, st2.2.2.2.2⟩
      · rw [if_pos (by rfl)]
        refine wp_alloc_arr 85 rfl az0 (by kernel_rfl) ?_
        have hb2 := below_allocz hb1 (.cells az0 85)
        have l5 := Below.size hb1
        have f52 : Held (u.alloc (.cells az0 85)) _ 85 az0 := Held.new _ _ _
        have ho2 := OwnF.alloc ho1 (.cells az0 85)
        have ha2 := ActO.alloc ha1 (.cells az0 85)
        refine hK.out _ _ hb2 (fun _ => ?_)
        clear hK K
        simp only [Act.put, List.getElem_toArray, List.getElem_cons_succ, List.getElem_cons_zero, List.setIfInBounds_toArray, List.set_cons_zero, List.set_cons_succ]
        refine wpAnyH_ready (rs := [12]) (by kernel_rfl) (by simp) ?_
        refine (AllReadyH.cons rfl (fun K hK => ?_) AllReadyH.nil)
        · rw [if_pos (by rfl)]
          refine wp_alloc_arr 58 rfl fz0 (by kernel_rfl) ?_
          have hb3 := below_allocz hb2 (.cells fz0 58)
          have l4 : W1.heap.size ≤ u.heap.size + 1 := by have := Below.size hb2; simpa using this
          have f53 := Held.alloc f52 (.cells fz0 58)
          have f43 : Held ((u.alloc (.cells az0 85)).alloc (.cells fz0 58)) (u.heap.size + 1) 58 fz0 := Held.new1 _ _ _ _
          rw [size_alloc1]
          have ho3 := OwnF.alloc ho2 (.cells fz0 58)
          have ha3 := ActO.alloc ha2 (.cells fz0 58)
          refine hK.out _ _ hb3 (fun _ => ?_)
          clear hK K
          simp only [Act.put, List.getElem_toArray, List.getElem_cons_succ, List.getElem_cons_zero, List.setIfInBounds_toArray, List.set_cons_zero, List.set_cons_succ]
          have st2 := stored_two f43 f53 ho3 ha3 hb3 l4 l5
          have hne := held_ne f43 f53 (by decide)
          refine wpAnyH_ready (rs := [14]) (by kernel_rfl) (by simp) ?_
          refine (AllReadyH.cons rfl (fun K hK => ?_) AllReadyH.nil)
          rw [if_pos (by rfl)]
          refine wp_store_row 58 _ _ rfl _ cs' (by rfl) (by rfl) _ _ f43 (fb_info hfc) (by rw [hfc.size]; rfl) hfc.one ?_
          have hbs := below_rowz hb3 l4 cs'
          have f5s := Held.row f53 (Ne.symm hne) cs'
          refine hK.out _ _ hbs (fun _ => ?_)
          clear hK K
          simp only [Act.put, List.getElem_toArray, List.getElem_cons_succ, List.getElem_cons_zero, List.setIfInBounds_toArray, List.set_cons_zero, List.set_cons_succ]
          refine wpAnyH_ready (rs := [15]) (by kernel_rfl) (by simp) ?_
          refine (AllReadyH.cons rfl (fun K hK => ?_) AllReadyH.nil)
          rw [if_pos (by rfl)]
          refine wp_store_row 85 _ _ rfl _ cs2 (by rfl) (by rfl) _ _ f5s (ab_info hac) (by rw [hac.size]; rfl) hac.one ?_
          refine hK.out _ _ (below_rowz hbs l5 cs2) (fun _ => ?_)
          clear hK K
          simp only [Act.put, List.getElem_toArray, List.getElem_cons_succ, List.getElem_cons_zero, List.setIfInBounds_toArray, List.set_cons_zero, List.set_cons_succ]
          refine wpAnyH_done (by kernel_rfl) ?_ _
          go_wp2_with fail
          go_meet
          case rel => exact ⟨_, _, cs', cs2, rfl, rfl, st2.1, hfc, st2.2.1, st2.2.2.1, hac, st2.2.2.2.1, st2.2.2.2.2⟩
    · rw [if_pos (by rfl)]
      refine wp_alloc_arr 58 rfl fz0 (by kernel_rfl) ?_
      have hb1 := below_allocz hb0 (.cells fz0 58)
      have l4 := Below.size hb0
      have f41 : Held (W2.alloc (.cells fz0 58)) _ 58 fz0 := Held.new _ _ _
      refine hK.out _ _ hb1 (fun _ => ?_)
      clear hK K
      simp only [Act.put, List.getElem_toArray, List.getElem_cons_succ, List.getElem_cons_zero, List.setIfInBounds_toArray, List.set_cons_zero, List.set_cons_succ]
      refine wpAnyH_ready (rs := [8, 13]) (by kernel_rfl) (by simp) ?_
      refine (AllReadyH.cons rfl (fun K hK => ?_) (AllReadyH.cons rfl (fun K hK => ?_) AllReadyH.nil))
      · go_simp
        go_at_call 81
        (with_reducible refine (DO _ hb1).out.mono ?_)
        rintro _ u ⟨v', av, rfl, ho, ha, hbu⟩
        have ho2 := OwnF.mono ho (Nat.zero_le _)
        have ha2 := ActO.mono ha (Nat.zero_le _)
        clear ho ha
        have hb2 := Below.step hb1 hbu
        have f42 := Held.below f41 hbu
        obtain ⟨cs', rfl, hfc⟩ := ho2.cells
        obtain ⟨cs2, rfl, hac⟩ := ha2.cells
        (try go_wp2_with fail)
        refine hK.out _ _ hb2 (fun _ => ?_)
        clear hK K
        (try simp only [Act.put, List.getElem_toArray, List.getElem_cons_succ, List.getElem_cons_zero, List.setIfInBounds_toArray, List.set_cons_zero, List.set_cons_succ])
        refine wpAnyH_take (i := 9) (v := .tuple #[.agg cs', .agg cs2]) rfl (by kernel_rfl) (by kernel_rfl) (by kernel_rfl) (fun _ _ _ h => h) (Or.inl ⟨by rfl, fun W hW => ?_⟩) hb2 ?_
        · go_simp
        simp only [Act.put, List.getElem_toArray, List.getElem_cons_succ, List.getElem_cons_zero, List.setIfInBounds_toArray, List.set_cons_zero, List.set_cons_succ]
        refine wpAnyH_take (i := 10) (v := .agg cs') rfl (by kernel_rfl) (by kernel_rfl) (by kernel_rfl) (fun _ _ _ h => h) (Or.inl ⟨by rfl, fun W hW => ?_⟩) hb2 ?_
        · go_simp
        simp only [Act.put, List.getElem_toArray, List.getElem_cons_succ, List.getElem_cons_zero, List.setIfInBounds_toArray, List.set_cons_zero, List.set_cons_succ]
        refine wpAnyH_take (i := 11) (v := .agg cs2) rfl (by kernel_rfl) (by kernel_rfl) (by kernel_rfl) (fun _ _ _ h => h) (Or.inl ⟨by rfl, fun W hW => ?_⟩) hb2 ?_
        · go_simp
        simp only [Act.put, List.getElem_toArray, List.getElem_cons_succ, List.getElem_cons_zero, List.setIfInBounds_toArray, List.set_cons_zero, List.set_cons_succ]
        refine wpAnyH_ready (rs := [13]) (by kernel_rfl) (by simp) ?_
        refine (AllReadyH.cons rfl (fun K hK => ?_) AllReadyH.nil)
        · rw [if_pos (by rfl)]
          refine wp_alloc_arr 85 rfl az0 (by kernel_rfl) ?_
          have hb3 := below_allocz hb2 (.cells az0 85)
          have l5 := Below.size hb2
          have f43 := Held.alloc f42 (.cells az0 85)
          have f53 : Held (u.alloc (.cells az0 85)) _ 85 az0 := Held.new _ _ _
          have ho3 := OwnF.alloc ho2 (.cells az0 85)
          have ha3 := ActO.alloc ha2 (.cells az0 85)
          refine hK.out _ _ hb3 (fun _ => ?_)
          clear hK K
          simp only [Act.put, List.getElem_toArray, List.getElem_cons_succ, List.getElem_cons_zero, List.setIfInBounds_toArray, List.set_cons_zero, List.set_cons_succ]
          have st2 := stored_two f43 f53 ho3 ha3 hb3 l4 l5
          have hne := held_ne f43 f53 (by decide)
          refine wpAnyH_ready (rs := [14]) (by kernel_rfl) (by simp) ?_
          refine (AllReadyH.cons rfl (fun K hK => ?_) AllReadyH.nil)
          rw [if_pos (by rfl)]
          refine wp_store_row 58 _ _ rfl _ cs' (by rfl) (by rfl) _ _ f43 (fb_info hfc) (by rw [hfc.size]; rfl) hfc.one ?_
          have hbs := below_rowz hb3 l4 cs'
          have f5s := Held.row f53 (Ne.symm hne) cs'
          refine hK.out _ _ hbs (fun _ => ?_)
          clear hK K
          simp only [Act.put, List.getElem_toArray, List.getElem_cons_succ, List.getElem_cons_zero, List.setIfInBounds_toArray, List.set_cons_zero, List.set_cons_succ]
          refine wpAnyH_ready (rs := [15]) (by kernel_rfl) (by simp) ?_
          refine (AllReadyH.cons rfl (fun K hK => ?_) AllReadyH.nil)
          rw [if_pos (by rfl)]
          refine wp_store_row 85 _ _ rfl _ cs2 (by rfl) (by rfl) _ _ f5s (ab_info hac) (by rw [hac.size]; rfl) hac.one ?_
          refine hK.out _ _ (below_rowz hbs l5 cs2) (fun _ => ?_)
          clear hK K
          simp only [Act.put, List.getElem_toArray, List.getElem_cons_succ, List.getElem_cons_zero, List.setIfInBounds_toArray, List.set_cons_zero, List.set_cons_succ]
          refine wpAnyH_done (by kernel_rfl) ?_ _
          go_wp2_with fail
          go_meet
          case rel => exact ⟨_, _, cs', cs2, rfl, rfl, st2.1, hfc, st2.2.1, st2.2.2.1, hac, st2.2.2.2.1, st2.2.2.2.2⟩
      · rw [if_pos (by rfl)]
        refine wp_alloc_arr 85 rfl az0 (by kernel_rfl) ?_
        have hb2 := below_allocz hb1 (.cells az0 85)
        have l5 : W1.heap.size ≤ W2.heap.size + 1 := by have := Below.size hb1; simpa using this
        have f42 := Held.alloc f41 (.cells az0 85)
        have f52 : Held ((W2.alloc (.cells fz0 58)).alloc (.cells az0 85)) (W2.heap.size + 1) 85 az0 := Held.new1 _ _ _ _
        rw [size_alloc1]
        refine hK.out _ _ hb2 (fun _ => ?_)
        clear hK K
        simp only [Act.put, List.getElem_toArray, List.getElem_cons_succ, List.getElem_cons_zero, List.setIfInBounds_toArray, List.set_cons_zero, List.set_cons_succ]
        refine wpAnyH_ready (rs := [8]) (by kernel_rfl) (by simp) ?_
        refine (AllReadyH.cons rfl (fun K hK => ?_) AllReadyH.nil)
        · go_simp
          go_at_call 81
          (with_reducible refine (DO _ hb2).out.mono ?_)
          rintro _ u ⟨v', av, rfl, ho, ha, hbu⟩
          have ho3 := OwnF.mono ho (Nat.zero_le _)
          have ha3 := ActO.mono ha (Nat.zero_le _)
          clear ho ha
          have hb3 := Below.step hb2 hbu
          have f43 := Held.below f42 hbu
          have f53 := Held.below f52 hbu
          obtain ⟨cs', rfl, hfc⟩ := ho3.cells
          obtain ⟨cs2, rfl, hac⟩ := ha3.cells
          (try go_wp2_with fail)
          refine hK.out _ _ hb3 (fun _ => ?_)
          clear hK K
          (try simp only [Act.put, List.getElem_toArray, List.getElem_cons_succ, List.getElem_cons_zero, List.setIfInBounds_toArray, List.set_cons_zero, List.set_cons_succ])
          refine wpAnyH_take (i := 9) (v := .tuple #[.agg cs', .agg cs2]) rfl (by kernel_rfl) (by kernel_rfl) (by kernel_rfl) (fun _ _ _ h => h) (Or.inl ⟨by rfl, fun W hW => ?_⟩) hb3 ?_
          · go_simp
          simp only [Act.put, List.getElem_toArray, List.getElem_cons_succ, List.getElem_cons_zero, List.setIfInBounds_toArray, List.set_cons_zero, List.set_cons_succ]
          refine wpAnyH_take (i := 10) (v := .agg cs') rfl (by kernel_rfl) (by kernel_rfl) (by kernel_rfl) (fun _ _ _ h => h) (Or.inl ⟨by rfl, fun W hW => ?_⟩) hb3 ?_
          · go_simp
          simp only [Act.put, List.getElem_toArray, List.getElem_cons_succ, List.getElem_cons_zero, List.setIfInBounds_toArray, List.set_cons_zero, List.set_cons_succ]
          refine wpAnyH_take (i := 11) (v := .agg cs2) rfl (by kernel_rfl) (by kernel_rfl) (by kernel_rfl) (fun _ _ _ h => h) (Or.inl ⟨by rfl, fun W hW => ?_⟩) hb3 ?_
          · go_simp
          simp only [Act.put, List.getElem_toArray, List.getElem_cons_succ, List.getElem_cons_zero, List.setIfInBounds_toArray, List.set_cons_zero, List.set_cons_succ]
          have st2 := stored_two f43 f53 ho3 ha3 hb3 l4 l5
          have hne := held_ne f43 f53 (by decide)
          refine wpAnyH_ready (rs := [14]) (by kernel_rfl) (by simp) ?_
          refine (AllReadyH.cons rfl (fun K hK => ?_) AllReadyH.nil)
          rw [if_pos (by rfl)]
          refine wp_store_row 58 _ _ rfl _ cs' (by rfl) (by rfl) _ _ f43 (fb_info hfc) (by rw [hfc.size]; rfl) hfc.one ?_
          have hbs := below_rowz hb3 l4 cs'
          have f5s := Held.row f53 (Ne.symm hne) cs'
          refine hK.out _ _ hbs (fun _ => ?_)
          clear hK K
          simp only [Act.put, List.getElem_toArray, List.getElem_cons_succ, List.getElem_cons_zero, List.setIfInBounds_toArray, List.set_cons_zero, List.set_cons_succ]
          refine wpAnyH_ready (rs := [15]) (by kernel_rfl) (by simp) ?_
          refine (AllReadyH.cons rfl (fun K hK => ?_) AllReadyH.nil)
          rw [if_pos (by rfl)]
          refine wp_store_row 85 _ _ rfl _ cs2 (by rfl) (by rfl) _ _ f5s (ab_info hac) (by rw [hac.size]; rfl) hac.one ?_
          refine hK.out _ _ (below_rowz hbs l5 cs2) (fun _ => ?_)
          clear hK K
          simp only [Act.put, List.getElem_toArray, List.getElem_cons_succ, List.getElem_cons_zero, List.setIfInBounds_toArray, List.set_cons_zero, List.set_cons_succ]
          refine wpAnyH_done (by kernel_rfl) ?_ _
          go_wp2_with fail
          go_meet
          case rel => exact ⟨_, _, cs', cs2, rfl, rfl, st2.1, hfc, st2.2.1, st2.2.2.1, hac, st2.2.2.2.1, st2.2.2.2.2⟩
    · rw [if_pos (by rfl)]
      refine wp_alloc_arr 85 rfl az0 (by kernel_rfl) ?_
      have hb1 := below_allocz hb0 (.cells az0 85)
      have l5 := Below.size hb0
      have f51 : Held (W2.alloc (.cells az0 85)) _ 85 az0 := Held.new _ _ _
      refine hK.out _ _ hb1 (fun _ => ?_)
      clear hK K
      simp only [Act.put, List.getElem_toArray, List.getElem_cons_succ, List.getElem_cons_zero, List.setIfInBounds_toArray, List.set_cons_zero, List.set_cons_succ]
      refine wpAnyH_ready (rs := [8, 12]) (by kernel_rfl) (by simp) ?_
      refine (AllReadyH.cons rfl (fun K hK => ?_) (AllReadyH.cons rfl (fun K hK => ?_) AllReadyH.nil))
      · go_simp
        go_at_call 81
        (with_reducible refine (DO _ hb1).out.mono ?_)
        rintro _ u ⟨v', av, rfl, ho, ha, hbu⟩
        have ho2 := OwnF.mono ho (Nat.zero_le _)
        have ha2 := ActO.mono ha (Nat.zero_le _)
        clear ho ha
        have hb2 := Below.step hb1 hbu
        have f52 := Held.below f51 hbu
        obtain ⟨cs', rfl, hfc⟩ := ho2.cells
        obtain ⟨cs2, rfl, hac⟩ := ha2.cells
        (try go_wp2_with fail)
        refine hK.out _ _ hb2 (fun _ => ?_)
        clear hK K
        (try simp only [Act.put, List.getElem_toArray, List.getElem_cons_succ, List.getElem_cons_zero, List.setIfInBounds_toArray, List.set_cons_zero, List.set_cons_succ])
        refine wpAnyH_take (i := 9) (v := .tuple #[.agg cs', .agg cs2]) rfl (by kernel_rfl) (by kernel_rfl) (by kernel_rfl) (fun _ _ _ h => h) (Or.inl ⟨by rfl, fun W hW => ?_⟩) hb2 ?_
        · go_simp
        simp only [Act.put, List.getElem_toArray, List.getElem_cons_succ, List.getElem_cons_zero, List.setIfInBounds_toArray, List.set_cons_zero, List.set_cons_succ]
        refine wpAnyH_take (i := 10) (v := .agg cs') rfl (by kernel_rfl) (by kernel_rfl) (by kernel_rfl) (fun _ _ _ h => h) (Or.inl ⟨by rfl, fun W hW => ?_⟩) hb2 ?_
        · go_simp
        simp only [Act.put, List.getElem_toArray, List.getElem_cons_succ, List.getElem_cons_zero, List.setIfInBounds_toArray, List.set_cons_zero, List.set_cons_succ]
        refine wpAnyH_take (i := 11) (v := .agg cs2) rfl (by kernel_rfl) (by kernel_rfl) (by kernel_rfl) (fun _ _ _ h => h) (Or.inl ⟨by rfl, fun W hW => ?_⟩) hb2 ?_
        · go_simp
        simp only [Act.put, List.getElem_toArray, List.getElem_cons_succ, List.getElem_cons_zero, List.setIfInBounds_toArray, List.set_cons_zero, List.set_cons_succ]
        refine wpAnyH_ready (rs := [12]) (by kernel_rfl) (by simp) ?_
        refine (AllReadyH.cons rfl (fun K hK => ?_) AllReadyH.nil)
        · rw [if_pos (by rfl)]
          refine wp_alloc_arr 58 rfl fz0 (by kernel_rfl) ?_
          have hb3 := below_allocz hb2 (.cells fz0 58)
          have l4 := Below.size hb2
          have f53 := Held.alloc f52 (.cells fz0 58)
          have f43 : Held (u.alloc (.cells fz0 58)) _ 58 fz0 := Held.new _ _ _
          have ho3 := OwnF.alloc ho2 (.cells fz0 58)
          have ha3 := ActO.alloc ha2 (.cells fz0 58)
          refine hK.out _ _ hb3 (fun _ => ?_)
          clear hK K
          simp only [Act.put, List.getElem_toArray, List.getElem_cons_succ, List.getElem_cons_zero, List.setIfInBounds_toArray, List.set_cons_zero, List.set_cons_succ]
          have st2 := stored_two f43 f53 ho3 ha3 hb3 l4 l5
          have hne := held_ne f43 f53 (by decide)
          refine wpAnyH_ready (rs := [14]) (by kernel_rfl) (by simp) ?_
          refine (AllReadyH.cons rfl (fun K hK => ?_) AllReadyH.nil)
          rw [if_pos (by rfl)]
          refine wp_store_row 58 _ _ rfl _ cs' (by rfl) (by rfl) _ _ f43 (fb_info hfc) (by rw [hfc.size]; rfl) hfc.one ?_
          have hbs := below_rowz hb3 l4 cs'
          have f5s := Held.row f53 (Ne.symm hne) cs'
          refine hK.out _ _ hbs (fun _ => ?_)
          clear hK K
          simp only [Act.put, List.getElem_toArray, List.getElem_cons_succ, List.getElem_cons_zero, List.setIfInBounds_toArray, List.set_cons_zero, List.set_cons_succ]
          refine wpAnyH_ready (rs := [15]) (by kernel_rfl) (by simp) ?_
          refine (AllReadyH.cons rfl (fun K hK => ?_) AllReadyH.nil)
          rw [if_pos (by rfl)]
          refine wp_store_row 85 _ _ rfl _ cs2 (by rfl) (by rfl) _ _ f5s (ab_info hac) (by rw [hac.size]; rfl) hac.one ?_
          refine hK.out _ _ (below_rowz hbs l5 cs2) (fun _ => ?_)
          clear hK K
          simp only [Act.put, List.getElem_toArray, List.getElem_cons_succ, List.getElem_cons_zero, List.setIfInBounds_toArray, List.set_cons_zero, List.set_cons_succ]
          refine wpAnyH_done (by kernel_rfl) ?_ _
          go_wp2_with fail
          go_meet
          case rel => exact ⟨_, _, cs', cs2, rfl, rfl, st2.1, hfc, st2.2.1, st2.2.2.1, hac, st2.2.2.2.1, st2.2.2.2.2⟩
      · rw [if_pos (by rfl)]
        refine wp_alloc_arr 58 rfl fz0 (by kernel_rfl) ?_
        have hb2 := below_allocz hb1 (.cells fz0 58)
        have l4 : W1.heap.size ≤ W2.heap.size + 1 := by have := Below.size hb1; simpa using this
        have f52 := Held.alloc f51 (.cells fz0 58)
        have f42 : Held ((W2.alloc (.cells az0 85)).alloc (.cells fz0 58)) (W2.heap.size + 1) 58 fz0 := Held.new1 _ _ _ _
        rw [size_alloc1]
        refine hK.out _ _ hb2 (fun _ => ?_)
        clear hK K
        simp only [Act.put, List.getElem_toArray, List.getElem_cons_succ, List.getElem_cons_zero, List.setIfInBounds_toArray, List.set_cons_zero, List.set_cons_succ]
        refine wpAnyH_ready (rs := [8]) (by kernel_rfl) (by simp) ?_
        refine (AllReadyH.cons rfl (fun K hK => ?_) AllReadyH.nil)
        · go_simp
          go_at_call 81
          (with_reducible refine (DO _ hb2).out.mono ?_)
          rintro _ u ⟨v', av, rfl, ho, ha, hbu⟩
          have ho3 := OwnF.mono ho (Nat.zero_le _)
          have ha3 := ActO.mono ha (Nat.zero_le _)
          clear ho ha
          have hb3 := Below.step hb2 hbu
          have f43 := Held.below f42 hbu
          have f53 := Held.below f52 hbu
          obtain ⟨cs', rfl, hfc⟩ := ho3.cells
          obtain ⟨cs2, rfl, hac⟩ := ha3.cells
          (try go_wp2_with fail)
          refine hK.out _ _ hb3 (fun _ => ?_)
          clear hK K
          (try simp only [Act.put, List.getElem_toArray, List.getElem_cons_succ, List.getElem_cons_zero, List.setIfInBounds_toArray, List.set_cons_zero, List.set_cons_succ])
          refine wpAnyH_take (i := 9) (v := .tuple #[.agg cs', .agg cs2]) rfl (by kernel_rfl) (by kernel_rfl) (by kernel_rfl) (fun _ _ _ h => h) (Or.inl ⟨by rfl, fun W hW => ?_⟩) hb3 ?_
          · go_simp
          simp only [Act.put, List.getElem_toArray, List.getElem_cons_succ, List.getElem_cons_zero, List.setIfInBounds_toArray, List.set_cons_zero, List.set_cons_succ]
          refine wpAnyH_take (i := 10) (v := .agg cs') rfl (by kernel_rfl) (by kernel_rfl) (by kernel_rfl) (fun _ _ _ h => h) (Or.inl ⟨by rfl, fun W hW => ?_⟩) hb3 ?_
          · go_simp
          simp only [Act.put, List.getElem_toArray, List.getElem_cons_succ, List.getElem_cons_zero, List.setIfInBounds_toArray, List.set_cons_zero, List.set_cons_succ]
          refine wpAnyH_take (i := 11) (v := .agg cs2) rfl (by kernel_rfl) (by kernel_rfl) (by kernel_rfl) (fun _ _ _ h => h) (Or.inl ⟨by rfl, fun W hW => ?_⟩) hb3 ?_
          · go_simp
          simp only [Act.put, List.getElem_toArray, List.getElem_cons_succ, List.getElem_cons_zero, List.setIfInBounds_toArray, List.set_cons_zero, List.set_cons_succ]
          have st2 := stored_two f43 f53 ho3 ha3 hb3 l4 l5
          have hne := held_ne f43 f53 (by decide)
          refine wpAnyH_ready (rs := [14]) (by kernel_rfl) (by simp) ?_
          refine (AllReadyH.cons rfl (fun K hK => ?_) AllReadyH.nil)
          rw [if_pos (by rfl)]
          refine wp_store_row 58 _ _ rfl _ cs' (by rfl) (by rfl) _ _ f43 (fb_info hfc) (by rw [hfc.size]; rfl) hfc.one ?_
          have hbs := below_rowz hb3 l4 cs'
          have f5s := Held.row f53 (Ne.symm hne) cs'
          refine hK.out _ _ hbs (fun _ => ?_)
          clear hK K
          simp only [Act.put, List.getElem_toArray, List.getElem_cons_succ, List.getElem_cons_zero, List.setIfInBounds_toArray, List.set_cons_zero, List.set_cons_succ]
          refine wpAnyH_ready (rs := [15]) (by kernel_rfl) (by simp) ?_
          refine (AllReadyH.cons rfl (fun K hK => ?_) AllReadyH.nil)
          rw [if_pos (by rfl)]
          refine wp_store_row 85 _ _ rfl _ cs2 (by rfl) (by rfl) _ _ f5s (ab_info hac) (by rw [hac.size]; rfl) hac.one ?_
          refine hK.out _ _ (below_rowz hbs l5 cs2) (fun _ => ?_)
          clear hK K
          simp only [Act.put, List.getElem_toArray, List.getElem_cons_succ, List.getElem_cons_zero, List.setIfInBounds_toArray, List.set_cons_zero, List.set_cons_succ]
          refine wpAnyH_done (by kernel_rfl) ?_ _
          go_wp2_with fail
          go_meet
          case rel => exact ⟨_, _, cs', cs2, rfl, rfl, st2.1, hfc, st2.2.1, st2.2.2.1, hac, st2.2.2.2.1, st2.2.2.2.2⟩
  case rest =>
    obtain ⟨g4, g5, cs', c1', rfl, rfl, h4, hfc, ho4, h5, hac, ho5, hbW⟩ := hcut
    obtain rfl := HN.out
    obtain rfl := HRR.out
    have H2 := H1.out.below hbW
    obtain ⟨_, _, e2, _, _, _, _, _, _, hth, _⟩ := H2.last
    simp only [Value.slice.injEq, Option.some.injEq, Addr.mk.injEq, and_true, true_and] at e2
    obtain ⟨rfl, rfl⟩ := e2
    obtain ⟨S1, S2⟩ := H2.setF (cs := cs') (F := (doF p f).1) ⟨ho4, hfc, HBD.out⟩
    have h5b := h5.kt S2.kt tyAr tyAt
    have hZb := (Held.below Z1.out hbW).kt S2.kt tyAr tyAt
    have ho5b := ho5.kt S2.kt
    have hKK := (K1.out.trans (KS.of hbW (Nat.le_trans HB.out K1.out.kt.size))).trans S2
    have S1 := Lib.hid S1
    have hKK := Lib.hid hKK
    clear H1 Z1 K1 hq0 DO H2 S2
    go_upto_region 7 with (first
      | (guard_target = wpList _ _ _ (Oper.mk _ (Op.load 58 (.tmp 4)) _ _ _ none :: _) _ _; refine wpList_load_row rfl 58 _ rfl g4 rfl 58 cs' (0, 0) _ h4 Tryz.underlying58 rfl (fb_info hfc) ?_)
      | (guard_target = wpList _ _ _ (Oper.mk _ (Op.store 58 (.tmp 49) (.tmp 47)) _ _ _ none :: _) _ _; refine wpList_store_mid rfl 58 _ _ rfl g (l0.length * 17) cs' rfl rfl (fun j hj => hth j (by have := hfc.size; omega)) (fb_info hfc) hfc.one ?_))
    generalize wc.setCells g (l0.length * 17) cs'.toList = W2 at *
    go_wp2_with (first
      | (guard_target = wpList _ _ _ (Oper.mk _ (Op.load 85 (.tmp 5)) _ _ _ none :: _) _ _; refine wpList_load_row rfl 85 _ rfl g5 rfl 85 c1' (0, 0) _ h5b Tryz.underlying85 rfl (ab_info hac) ?_)
      | (guard_target = wpList _ _ _ (Oper.mk _ (Op.store 85 (.tmp 2) (.tmp 50)) _ _ _ none :: _) _ _; refine wpList_store_row rfl 85 _ _ rfl w.heap.size c1' rfl rfl _ _ hZb (ab_info hac) (by rw [hac.size]; rfl) hac.one ?_))
    have hW3 := hZb.rowSelf c1'
    have kb : KB W2 (W2.setRow w.heap.size c1') w.heap.size := (KB.of_below (Below.refl _ _) _).row c1'
    refine bodyPost_ret (v := .agg c1') (results_cell_row rfl _ _ w.heap.size 85 c1' (0, 0) _ rfl hW3 Tryz.underlying85 rfl (ab_info hac)) rfl ⟨_, rfl, ho5b.kb hZb tyAV kb, ⟨cs', S1.out.rowFar hZb tyAr tyAt tyAV tyAS c1'⟩, ⟨below_row hKK.out.below HB.out _, hKK.out.kt.rowNew (Nat.le_refl _) _⟩⟩
end Go.Proofs.YtagjddnpaahebaaGreatDoor

