/- Layer 9's code: what an instruction names, the depth it needs, the instruction at the place. -/
import Derived.Test.YtoeinpiekfmbgaaGreatDoorzFc
import Derived.Test.YtoeinpiekfmbgaaGreatDoorzOps
import Derived.Test.YtoeinpiekfmbgaaGreatDoorzGd
namespace Go.Proofs.YtoeinpiekfmbgaaGreatDoor
set_option linter.unusedVariables false
set_option linter.unusedSimpArgs false
open Gm Go.RowKit Go.ChangeShapes Go.WideShapes Go.ChangeAt Go.Sort

theorem Cs.quiet2 {P : Program} {f : Nat} {args : Array Value} {v : Value} (h : Cs P f args v) (W : World) (n : Nat) : Calls P f args (W.drewN n) fun e w' => e = .returned v ∧ ∃ m, w' = W.drewN m :=
  (h (W.drewN n)).mono fun _ _ ⟨he, hw⟩ => ⟨he, n, hw.symm⟩
section
variable {B r : Nat} {pv l o s : Value} {f : Frm}
set_option maxHeartbeats 1000000 in
set_option maxRecDepth 100000 in
theorem rknows_any {A : Option Addr} {p : List Fun} {cp : Nat} (x : Int × Int × Int) (w : World) (h : RunAt w B r (.slice A p.length cp) l o f s) :
    Calls Tryz.prog 111 #[.pointer (some ⟨r, 0, none⟩), iv x.1 x.2.1 x.2.2] w fun e w' => e = .returned (.bool (knowsF p f x)) ∧ Below w.heap.size w w' := by
  obtain ⟨_, ⟨Al, cl, rfl, _⟩, ⟨Ao, co, rfl, _⟩⟩ := h.slices
  have HV := fun i => hasV_any Al f.loc.length cl i
  have HS := fun i => hasS_any Ao f.slt.length co i
  have HF := fun i => hasF_any A p.length cp i
  have r3 := h.cells 3
  have r4 := h.cells 4
  have r16 := h.cells 16
  have hrl := h.rlt
  have hrw := Nat.ne_of_lt hrl
  simp at r3 r4 r16
  obtain ⟨n, a, b⟩ := x
  unfold knowsF
  simp only
  generalize f.loc.length = nl at *
  generalize f.slt.length = ns at *
  generalize p.length = np at *
  clear h
  by_cases h1 : n = 1
  · rw [if_pos (.inl h1)]
    subst h1
    go_enter Tryz.func111, Tryz.ntmps111
    go_upto_region 4 with (fail)
    go_region_with (go_at_call 119; (with_reducible refine ((HV a).go _).mono ?_); rintro _ u ⟨rfl, rfl⟩)
    all_goals go_wp2_with fail
    all_goals go_ret
    all_goals exact ⟨rfl, by go_grown⟩
  by_cases h2 : n = 2
  · rw [if_pos (.inr h2)]
    subst h2
    go_enter Tryz.func111, Tryz.ntmps111
    go_upto_region 4 with (fail)
    go_region_with (go_at_call 119; (with_reducible refine ((HV a).go _).mono ?_); rintro _ u ⟨rfl, rfl⟩)
    all_goals go_wp2_with fail
    all_goals go_ret
    all_goals exact ⟨rfl, by go_grown⟩
  rw [if_neg (by omega)]
  have e1 : (n == 1) = false := by simpa using h1
  have e2 : (n == 2) = false := by simpa using h2
  by_cases h13 : n = 13
  · rw [if_pos h13]
    subst h13
    have HF2 := HF a
    have HS2 := HS b
    generalize hasI np a = b1 at *
    generalize hasI ns b = b2 at *
    cases b1
    · go_enter Tryz.func111, Tryz.ntmps111
      go_upto_region 6 with (fail)
      go_quiet ((go_at_call 20; exact HF2.quiet2 _ _))
      all_goals go_wp2_with fail
      all_goals go_ret
      all_goals exact ⟨rfl, below_drewN (by go_grown) _⟩
    · go_enter Tryz.func111, Tryz.ntmps111
      go_upto_region 6 with (fail)
      go_quiet (first
        | (go_at_call 20; exact HF2.quiet2 _ _)
        | (go_at_call 96; exact HS2.quiet2 _ _))
      all_goals go_wp2_with fail
      all_goals go_ret
      all_goals exact ⟨by simp, below_drewN (by go_grown) _⟩
  rw [if_neg h13]
  have e13 : (n == 13) = false := by simpa using h13
  by_cases h14 : n = 14
  · rw [if_pos h14]
    subst h14
    go_enter Tryz.func111, Tryz.ntmps111
    go_upto_region 8 with (fail)
    go_region_with (go_at_call 96; (with_reducible refine ((HS a).go _).mono ?_); rintro _ u ⟨rfl, rfl⟩)
    all_goals go_wp2_with fail
    all_goals go_ret
    all_goals exact ⟨rfl, by go_grown⟩
  rw [if_neg h14]
  have e14 : (n == 14) = false := by simpa using h14
  clear h1 h2 h13 h14
  go_enter Tryz.func111, Tryz.ntmps111
  go_wp2_with fail
  go_ret
  exact ⟨rfl, by go_grown⟩

theorem rz_bd (n : Int) : (0 ≤ (rz n).q ∧ (rz n).q ≤ 2) ∧ 0 ≤ (rz n).p ∧ (rz n).p ≤ 2 := by
  rcases okZ_cases n with ⟨k, hk, rfl⟩ | h
  · rw [rz_in hk]
    have := onq_bd k hk
    exact ⟨⟨this.1, this.2.1⟩, this.2.2.1, this.2.2.2.1⟩
  · rw [rz_out h]
    decide
set_option maxHeartbeats 2000000 in
set_option maxRecDepth 100000 in
theorem rdepth_any {A : Option Addr} {p : List Fun} {cp C : Nat} (x : Int × Int × Int) (w : World) (h : RunAt w B r (.slice A p.length cp) l o f s) (hp : ProgAt w C A p) (hC : C ≤ w.heap.size) (hT : Otab w) (hx : x.1 = 13 → hasI p.length x.2.1 = true) (hlen : f.stk.length ≤ 1000) :
    Calls Tryz.prog 105 #[.pointer (some ⟨r, 0, none⟩), iv x.1 x.2.1 x.2.2] w fun e w' => e = .returned (.int .i64 (depthF p f x)) ∧ Below w.heap.size w w' := by
  obtain ⟨⟨As, cs, rfl, _⟩, _, _⟩ := h.slices
  have r2 := h.cells 2
  have r16 := h.cells 16
  have hrl := h.rlt
  simp at r2 r16
  have hS := fun W (hb : Below w.heap.size w W) => Lib.hid (stack_any x.1 W (hT.below hb))
  have bd := rz_bd x.1
  have H := Lib.hid h
  obtain ⟨n, a, b⟩ := x
  simp only at *
  have hlenI : (f.stk.length : Int) ≤ 1000 := by omega
  have key : ∀ (off : Int), offI p (n, a, b) = off → Calls Tryz.prog 105 #[.pointer (some ⟨r, 0, none⟩), iv n a b] w fun e w' => e = .returned (.int .i64 (if off < 0 ∨ (f.stk.length : Int) < off then 3 else if 0 < (rz n).q ∧ 16 < (f.stk.length : Int) - off + (rz n).q then 3 else 0)) ∧ Below w.heap.size w w' := by
    intro off hoff
    generalize f.stk.length = L at *
    by_cases h13 : n = 13
    · obtain ⟨k, rfl, hk⟩ := (show ∃ k : Nat, a = k ∧ k < p.length by
        have := hx h13
        simp [hasI] at this
        exact ⟨a.toNat, by omega, by omega⟩)
      obtain ⟨b2, off2, rfl, hbl, hpc⟩ := hp (by omega)
      obtain ⟨pa, _⟩ := hpc k hk
      have har : p[k].ar = off := by rw [← hoff]; unfold offI arP; rw [if_pos h13]; simp [hk]
      rw [har] at pa
      have hbw : b2 < w.heap.size := by omega
      have hk2 : (k : Int) < p.length := by omega
      subst h13
      have PA := Lib.hid pa
      generalize rz 13 = R at *
      obtain ⟨nm, f0, p0, q, lo0, la0, lb0⟩ := R
      simp only at bd hS ⊢
      generalize hR : (if off < 0 ∨ (L : Int) < off then (3 : Int) else if 0 < q ∧ 16 < (L : Int) - off + q then 3 else 0) = Res
      have HR := Lib.hid hR
      clear hx hoff har hpc hp hR h pa
      go_enter Tryz.func105, Tryz.ntmps105
      go_upto_region 3 with (go_at_call 101; ((with_reducible refine (hS _ ?_).out.mono ?_); (focus (go_grown))); rintro _ u ⟨rfl, hb⟩; have hbx := (Held.new w 92 #[.int .i64 13, .int .i64 k, .int .i64 b]).below hb; have hbw2 := below_laid hb; have x0 := hbx.cell 0; have x1 := hbx.cell 1; simp at x0 x1; have r2 := (hbw2.cell (p := ⟨r, 2, none⟩) hrl).trans r2; have r16 := (hbw2.cell (p := ⟨r, 16, none⟩) hrl).trans r16; have pa := (hbw2.cell (p := ⟨b2, off2 + k * 4, none⟩) hbw).trans PA.out)
      go_region
      all_goals
        by_cases d1 : off < 0
        · go_wp2_with fail
          go_ret
          exact ⟨ret_int (by rw [← HR.out, if_pos (.inl d1)]), hbw2.drew⟩
        by_cases d2 : (L : Int) < off
        · go_wp2_with fail
          go_ret
          exact ⟨ret_int (by rw [← HR.out, if_pos (.inr d2)]), hbw2.drew⟩
        have d5 : ¬ (off < 0 ∨ (L : Int) < off) := by omega
        have D5 := Lib.hid d5
        clear d5
        have bq := bd.1
        by_cases d3 : 0 < q
        · by_cases d4 : 16 < (L : Int) - off + q
          · go_wp2_with fail
            go_ret
            exact ⟨ret_int (by rw [← HR.out, if_neg D5.out, if_pos ⟨d3, d4⟩]), hbw2.drew⟩
          · go_wp2_with fail
            go_ret
            exact ⟨ret_int (by rw [← HR.out, if_neg D5.out, if_neg (by omega)]), hbw2.drew⟩
        · go_wp2_with fail
          go_ret
          exact ⟨ret_int (by rw [← HR.out, if_neg D5.out, if_neg (by omega)]), hbw2.drew⟩
    · have e13 : (n == 13) = false := by simpa using h13
      have ho : (rz n).p = off := by rw [← hoff]; unfold offI; rw [if_neg h13]
      generalize rz n = R at *
      obtain ⟨nm, f0, p0, q, lo0, la0, lb0⟩ := R
      simp only at bd hS ho ⊢
      subst ho
      generalize hR : (if p0 < 0 ∨ (L : Int) < p0 then (3 : Int) else if 0 < q ∧ 16 < (L : Int) - p0 + q then 3 else 0) = Res
      have HR := Lib.hid hR
      have bp := bd.2
      have bq := bd.1
      clear hx hoff hp hR h h13 r16 bd
      obtain ⟨bp1, bp2⟩ := bp
      obtain ⟨bq1, bq2⟩ := bq
      have d1 : ¬ p0 < 0 := by omega
      by_cases d2 : (L : Int) < p0
      · go_enter Tryz.func105, Tryz.ntmps105
        go_wp2_with (go_at_call 101; ((with_reducible refine (hS _ ?_).out.mono ?_); (focus (go_grown))); rintro _ u ⟨rfl, hb⟩; have hbx := (Held.new w 92 #[.int .i64 n, .int .i64 a, .int .i64 b]).below hb; have hbw2 := below_laid hb; have x0 := hbx.cell 0; have x1 := hbx.cell 1; simp at x0 x1; have r2 := (hbw2.cell (p := ⟨r, 2, none⟩) hrl).trans r2)
        go_ret
        exact ⟨ret_int (by rw [← HR.out, if_pos (.inr d2)]), hbw2⟩
      by_cases d3 : 0 < q
      · by_cases d4 : 16 < (L : Int) - p0 + q
        · go_enter Tryz.func105, Tryz.ntmps105
          go_wp2_with (go_at_call 101; ((with_reducible refine (hS _ ?_).out.mono ?_); (focus (go_grown))); rintro _ u ⟨rfl, hb⟩; have hbx := (Held.new w 92 #[.int .i64 n, .int .i64 a, .int .i64 b]).below hb; have hbw2 := below_laid hb; have x0 := hbx.cell 0; have x1 := hbx.cell 1; simp at x0 x1; have r2 := (hbw2.cell (p := ⟨r, 2, none⟩) hrl).trans r2)
          go_ret
          exact ⟨ret_int (by rw [← HR.out, if_neg (by omega), if_pos ⟨d3, d4⟩]), hbw2⟩
        · go_enter Tryz.func105, Tryz.ntmps105
          go_wp2_with (go_at_call 101; ((with_reducible refine (hS _ ?_).out.mono ?_); (focus (go_grown))); rintro _ u ⟨rfl, hb⟩; have hbx := (Held.new w 92 #[.int .i64 n, .int .i64 a, .int .i64 b]).below hb; have hbw2 := below_laid hb; have x0 := hbx.cell 0; have x1 := hbx.cell 1; simp at x0 x1; have r2 := (hbw2.cell (p := ⟨r, 2, none⟩) hrl).trans r2)
          go_ret
          exact ⟨ret_int (by rw [← HR.out, if_neg (by omega), if_neg (by omega)]), hbw2⟩
      · go_enter Tryz.func105, Tryz.ntmps105
        go_wp2_with (go_at_call 101; ((with_reducible refine (hS _ ?_).out.mono ?_); (focus (go_grown))); rintro _ u ⟨rfl, hb⟩; have hbx := (Held.new w 92 #[.int .i64 n, .int .i64 a, .int .i64 b]).below hb; have hbw2 := below_laid hb; have x0 := hbx.cell 0; have x1 := hbx.cell 1; simp at x0 x1; have r2 := (hbw2.cell (p := ⟨r, 2, none⟩) hrl).trans r2)
        go_ret
        exact ⟨ret_int (by rw [← HR.out, if_neg (by omega), if_neg (by omega)]), hbw2⟩
  unfold depthF
  exact key _ rfl
end
end Go.Proofs.YtoeinpiekfmbgaaGreatDoor

/- Layer 9's code: the instruction at the place. -/
namespace Go.Proofs.YtoeinpiekfmbgaaGreatDoor
set_option linter.unusedVariables false
set_option linter.unusedSimpArgs false
open Gm Go.RowKit Go.ChangeShapes Go.WideShapes Go.ChangeAt Go.Sort

theorem three {W : World} {g : Nat} {t : TypeId} {a0 a1 a2 : Value} (h : Held W g t #[a0, a1, a2]) : W.cell? ⟨g, 0, none⟩ = some a0 ∧ W.cell? ⟨g, 1, none⟩ = some a1 ∧ W.cell? ⟨g, 2, none⟩ = some a2 ∧
    W.frozen? ⟨g, 0, none⟩ = false ∧ W.frozen? ⟨g, 1, none⟩ = false ∧ W.frozen? ⟨g, 2, none⟩ = false := ⟨h.cell 0, h.cell 1, h.cell 2, h.fz 0, h.fz 1, h.fz 2⟩
theorem set3h {W : World} {g : Nat} {t : TypeId} {a0 a1 a2 : Value} (h : Held W g t #[a0, a1, a2]) (x0 x1 x2 : Value) :
    Held (((W.setCell ⟨g, 0, none⟩ x0).setCell ⟨g, 1, none⟩ x1).setCell ⟨g, 2, none⟩ x2) g t #[x0, x1, x2] := ((h.set_at 0 x0).set_at 1 x1).set_at 2 x2
theorem set3b {w v : World} {k : Nat} {x y z : Value} (hk : w.heap.size ≤ k) (hw : Below w.heap.size w v) : Below w.heap.size w (((v.setCell ⟨k, 0, none⟩ x).setCell ⟨k, 1, none⟩ y).setCell ⟨k, 2, none⟩ z) :=
  ((hw.setCell hk _).setCell hk _).setCell hk _
section
variable {B r : Nat} {pv l o s : Value} {f : Frm}
set_option maxHeartbeats 2000000 in
set_option maxRecDepth 100000 in
theorem rfetch_any {A : Option Addr} {p : List Fun} {cp C : Nat} (w : World) (h : RunAt w B r (.slice A p.length cp) l o f s) (hp : ProgAt w C A p) (hC : C ≤ w.heap.size) (hT : Otab w) (hfn : hasI p.length f.fn = true) (hz : SizedP p) :
    Calls Tryz.prog 104 #[.pointer (some ⟨r, 0, none⟩)] w fun e w' => e = .returned (.tuple #[iv (fetchF p f).1.1 (fetchF p f).1.2.1 (fetchF p f).1.2.2, .int .i64 (fetchF p f).2]) ∧ Below w.heap.size w w' := by
  obtain ⟨k, hk, hkl⟩ := (show ∃ k : Nat, f.fn = k ∧ k < p.length by
    simp [hasI] at hfn
    exact ⟨f.fn.toNat, by omega, by omega⟩)
  obtain ⟨b, off, rfl, hbl, hpc⟩ := hp (by omega)
  obtain ⟨_, _, _, Ac, cc, pc3, hcode⟩ := hpc k hkl
  have hcp : codeP p f.fn = p[k].code := by unfold codeP; rw [hk, Int.toNat_natCast, List.getElem?_eq_getElem hkl]
  have hlen := hz.2 _ (List.getElem_mem hkl)
  have r0 := h.cells 0
  have r1 := h.cells 1
  have r16 := h.cells 16
  have hrl := h.rlt
  have hrw := Nat.ne_of_lt hrl
  have hbw : b < w.heap.size := by omega
  have hbn := Nat.ne_of_lt hbw
  simp at r0 r1 r16
  rw [hk] at r0
  have hkl2 : (k : Int) < p.length := by omega
  have KN := fun x W (hb : Below w.heap.size w W) => Lib.hid (rknows_any x W (h.below hb))
  have MA := fun a b c W (hb : Below w.heap.size w W) => Lib.hid (opmay_any a b c W (hT.below hb))
  unfold fetchF
  rw [hcp]
  clear hT hp hpc hz hfn
  generalize p[k].code = code at *
  by_cases hh : hasI code.length f.pc = true
  · rw [if_pos hh]
    obtain ⟨j, hj, hjl⟩ := (show ∃ j : Nat, f.pc = j ∧ j < code.length by
      simp [hasI] at hh
      exact ⟨f.pc.toNat, by omega, by omega⟩)
    obtain ⟨b2, off2, rfl, hb2, hcc⟩ := hcode (by omega)
    obtain ⟨a0, a1, a2⟩ := hcc j hjl
    have hget : code.getD f.pc.toNat (0, 0, 0) = code[j] := by rw [hj, Int.toNat_natCast, List.getD_eq_getElem?_getD, List.getElem?_eq_getElem hjl]; rfl
    rw [hget]
    have hb2w : b2 < w.heap.size := by omega
    have hb2n := Nat.ne_of_lt hb2w
    have hjl2 : (j : Int) < code.length := by omega
    have HI := hasI_any (some ⟨b2, off2, none⟩) code.length cc (j : Int)
    rw [hj] at hh r1
    rw [hh] at HI
    have KX := fun W hb => KN code[j] W hb
    have MX := fun W hb => MA code[j].1 code[j].2.1 code[j].2.2 W hb
    generalize knowsF p f code[j] = kn at *
    generalize mayZ code[j].1 code[j].2.1 code[j].2.2 = mz at *
    generalize code[j] = x at *
    have HJ := Lib.hid hjl2
    clear hget hcc hcode hh hj hjl KN MA h
    cases mz
    · rw [if_neg (by simp)]
      go_enter Tryz.func104, Tryz.ntmps104
      go_upto_region 1 with (fail)
      go_region
      all_goals
        go_wp2_with (first
          | (go_at_call 110; ((with_reducible refine (HI.go _).mono ?_); rintro _ u ⟨rfl, rfl⟩))
          | (go_at_call 64; go_loud (((with_reducible refine (MX _ ?_).out.mono ?_); (focus (go_grown))); rintro _ u ⟨rfl, hb⟩; (first | (have hr := (held_drew ((Held.new w 92 #[.int .i64 0, .int .i64 0, .int .i64 0]).alloc (.cells #[.int .i64 x.1, .int .i64 x.2.1, .int .i64 x.2.2] 92))).below hb; have hx := (held_drew (Held.new1 w (.cells #[.int .i64 0, .int .i64 0, .int .i64 0] 92) 92 #[.int .i64 x.1, .int .i64 x.2.1, .int .i64 x.2.2])).below hb)); obtain ⟨q0, q1, q2, z0, z1, z2⟩ := three hr; obtain ⟨x0, x1, x2, _⟩ := three hx; have hbw := Below.step (below2 w _ _).drew hb)))
        have h3 := set3h hr (.int .i64 0) (.int .i64 0) (.int .i64 0)
        obtain ⟨d0, d1, d2, _⟩ := three h3
        refine bodyPost_ret (v := .tuple #[iv 0 0 0, .int .i64 4]) (by simp [results, Tryz.results104, go_sem, d0, d1, d2]) rfl ⟨rfl, set3b (Nat.le_refl _) hbw⟩
    · cases kn
      · rw [if_neg (by simp)]
        go_enter Tryz.func104, Tryz.ntmps104
        go_upto_region 1 with (fail)
        go_region
        all_goals
          go_wp2_with (first
            | (go_at_call 110; ((with_reducible refine (HI.go _).mono ?_); rintro _ u ⟨rfl, rfl⟩))
            | (go_at_call 64; go_loud (((with_reducible refine (MX _ ?_).out.mono ?_); (focus (go_grown))); rintro _ u ⟨rfl, hb⟩; (first | (have hr := (held_drew ((Held.new w 92 #[.int .i64 0, .int .i64 0, .int .i64 0]).alloc (.cells #[.int .i64 x.1, .int .i64 x.2.1, .int .i64 x.2.2] 92))).below hb; have hx := (held_drew (Held.new1 w (.cells #[.int .i64 0, .int .i64 0, .int .i64 0] 92) 92 #[.int .i64 x.1, .int .i64 x.2.1, .int .i64 x.2.2])).below hb)); obtain ⟨q0, q1, q2, z0, z1, z2⟩ := three hr; obtain ⟨x0, x1, x2, _⟩ := three hx; have hbw := Below.step (below2 w _ _).drew hb))
            | (go_at_call 111; go_loud ((with_reducible refine (KX _ hbw).out.mono ?_); rintro _ u2 ⟨rfl, hb2⟩; replace hr := hr.below hb2; replace hx := hx.below hb2; obtain ⟨q0, q1, q2, z0, z1, z2⟩ := three hr; obtain ⟨x0, x1, x2, _⟩ := three hx; replace hbw := Below.step hbw hb2)))
          have h3 := set3h hr (.int .i64 0) (.int .i64 0) (.int .i64 0)
          obtain ⟨d0, d1, d2, _⟩ := three h3
          refine bodyPost_ret (v := .tuple #[iv 0 0 0, .int .i64 4]) (by simp [results, Tryz.results104, go_sem, d0, d1, d2]) rfl ⟨rfl, set3b (Nat.le_refl _) hbw⟩
      · rw [if_pos (by simp)]
        go_enter Tryz.func104, Tryz.ntmps104
        go_upto_region 1 with (fail)
        go_region
        all_goals
          go_wp2_with (first
            | (go_at_call 110; ((with_reducible refine (HI.go _).mono ?_); rintro _ u ⟨rfl, rfl⟩))
            | (go_at_call 64; go_loud (((with_reducible refine (MX _ ?_).out.mono ?_); (focus (go_grown))); rintro _ u ⟨rfl, hb⟩; (first | (have hr := (held_drew ((Held.new w 92 #[.int .i64 0, .int .i64 0, .int .i64 0]).alloc (.cells #[.int .i64 x.1, .int .i64 x.2.1, .int .i64 x.2.2] 92))).below hb; have hx := (held_drew (Held.new1 w (.cells #[.int .i64 0, .int .i64 0, .int .i64 0] 92) 92 #[.int .i64 x.1, .int .i64 x.2.1, .int .i64 x.2.2])).below hb)); obtain ⟨q0, q1, q2, z0, z1, z2⟩ := three hr; obtain ⟨x0, x1, x2, _⟩ := three hx; have hbw := Below.step (below2 w _ _).drew hb))
            | (go_at_call 111; go_loud ((with_reducible refine (KX _ hbw).out.mono ?_); rintro _ u2 ⟨rfl, hb2⟩; replace hr := hr.below hb2; replace hx := hx.below hb2; obtain ⟨q0, q1, q2, z0, z1, z2⟩ := three hr; obtain ⟨x0, x1, x2, _⟩ := three hx; replace hbw := Below.step hbw hb2)))
          have h3 := set3h hr (.int .i64 x.1) (.int .i64 x.2.1) (.int .i64 x.2.2)
          obtain ⟨d0, d1, d2, _⟩ := three h3
          refine bodyPost_ret (v := .tuple #[iv x.1 x.2.1 x.2.2, .int .i64 0]) (by simp [results, Tryz.results104, go_sem, d0, d1, d2]) rfl ⟨rfl, set3b (Nat.le_refl _) hbw⟩
  · rw [if_neg hh]
    have HI := hasI_any Ac code.length cc f.pc
    rw [Bool.not_eq_true] at hh
    rw [hh] at HI
    clear KN MA h hcode
    go_enter Tryz.func104, Tryz.ntmps104
    go_upto_region 1 with (fail)
    go_region
    all_goals go_wp2_with (go_at_call 110; go_loud ((with_reducible refine (HI.go _).mono ?_); rintro _ u ⟨rfl, rfl⟩))
    all_goals go_returns
    all_goals exact ⟨rfl, by go_grown⟩
end
end Go.Proofs.YtoeinpiekfmbgaaGreatDoor

