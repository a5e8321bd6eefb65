/- Layer 9's code: the runner does an instruction. -/
import Derived.Test.YtoeinpiekfmbgaaGreatDoorzFex
import Derived.Test.YtoeinpiekfmbgaaGreatDoorzHe
import Derived.Test.YtoeinpiekfmbgaaGreatDoorzGa
namespace Go.Proofs.YtoeinpiekfmbgaaGreatDoor
set_option linter.unusedVariables false
set_option linter.unusedSimpArgs false
open Gm Go.RowKit Go.ChangeShapes Go.WideShapes Go.ChangeAt Go.Sort

section
variable {B r : Nat} {pv l o s : Value} {f : Frm}
theorem fetch_ok {p : List Fun} {f : Frm} (h : (fetchF p f).2 = 0) : hasI (codeP p f.fn).length f.pc = true ∧ mayZ (fetchF p f).1.1 (fetchF p f).1.2.1 (fetchF p f).1.2.2 = true ∧ knowsF p f (fetchF p f).1 = true := by
  unfold fetchF at h ⊢
  split at h
  · rename_i h1
    rw [if_pos h1]
    split at h
    · rename_i h2
      rw [if_pos h2]
      exact ⟨h1, h2⟩
    · simp at h
  · simp at h
theorem depth_ok {p : List Fun} {f : Frm} {x : Int × Int × Int} (h : depthF p f x = 0) : 0 ≤ offI p x ∧ offI p x ≤ f.stk.length := by
  unfold depthF at h
  split at h
  · simp at h
  · omega
theorem Held.far5 {W : World} {g k : Nat} {t : TypeId} {cs : Array Value} (h : Held W g t cs) (hk : g ≠ k) (x0 x1 x2 x3 x4 : Value) :
    Held (((((W.setCell ⟨k, 0, none⟩ x0).setCell ⟨k, 1, none⟩ x1).setCell ⟨k, 2, none⟩ x2).setCell ⟨k, 3, none⟩ x3).setCell ⟨k, 4, none⟩ x4) g t cs := ((((h.far hk 0 x0).far hk 1 x1).far hk 2 x2).far hk 3 x3).far hk 4 x4
theorem OwnVs.far5 {W : World} {B k : Nat} {v : Value} {l : List V} (h : OwnVs W B v l) (hk : k < B) (x0 x1 x2 x3 x4 : Value) :
    OwnVs (((((W.setCell ⟨k, 0, none⟩ x0).setCell ⟨k, 1, none⟩ x1).setCell ⟨k, 2, none⟩ x2).setCell ⟨k, 3, none⟩ x3).setCell ⟨k, 4, none⟩ x4) B v l := row_same h fun g e => by
  have hq := (h.lt g e).1
  have h1 : g ≠ k := by omega
  exact (Below.heap_setCell _ ⟨k, _, none⟩ _ g h1).trans ((Below.heap_setCell _ ⟨k, _, none⟩ _ g h1).trans ((Below.heap_setCell _ ⟨k, _, none⟩ _ g h1).trans ((Below.heap_setCell _ ⟨k, _, none⟩ _ g h1).trans (Below.heap_setCell _ ⟨k, _, none⟩ _ g h1))))
/-- On the way to the label: the runner is to end with the trap t. -/
def DoW (B r : Nat) (pv l o s : Value) (F : Frm) (t : Int) (a' : Act) (w w' : World) : Prop := (∃ s1, Aft B r pv l o s w F s1 w' ∧ Off4 r s1 l o w.heap.size) ∧ Held w' w.heap.size 77 az0 ∧ ∃ u1 u3 u4 u6 u7 u8 u9 u10 u11 u12 u13 u14 u15 u16 u17 u18 u19 u20 u21 u22 u23 u24 u25 u26 u27 u28 u29 u30 : Value,  a' = { tmps := #[.pointer (some ⟨r, 0, none⟩), u1, .pointer (some ⟨w.heap.size, 0, none⟩), u3, u4, .int .i64 t, u6, u7, u8, u9, u10, u11, u12, u13, u14, u15, u16, u17, u18, u19, u20, u21, u22, u23, u24, u25, u26, u27, u28, u29, u30], defers := [] }
/-- What the runner leaves. -/
def DoR (B r : Nat) (pv l o s : Value) (w : World) (R : Frm × ActP) (e : Ending) (w' : World) : Prop := ∃ av, e = .returned av ∧ ActO w' w.heap.size av R.2 ∧ ∃ s', Aft B r pv l o s w R.1 s' w'
set_option maxHeartbeats 2000000 in
set_option maxRecDepth 100000 in
theorem rdo_any {A : Option Addr} {p : List Fun} {cp C : Nat} (w : World) (h : RunAt w B r (.slice A p.length cp) l o f s) (hp : ProgAt w C A p) (hC : C ≤ B) (hT : TabB w B) (hfn : hasI p.length f.fn = true) (hz : SizedP p) (hlen : f.stk.length ≤ 1000) (hB : B ≤ w.heap.size) :
    Calls Tryz.prog 91 #[.pointer (some ⟨r, 0, none⟩)] w fun e w' => DoR B r (.slice A p.length cp) l o s w (runF p f) e w' := by
  have FE := fun W (hb : Below w.heap.size w W) => Lib.hid (rfetch_any W (h.below hb) (hp.below hb (by omega)) (by have := hb.size; omega) (hT.below hb hB).ot hfn hz)
  have DE := fun x (hx : x.1 = 13 → hasI p.length x.2.1 = true) W (hb : Below w.heap.size w W) => Lib.hid (rdepth_any x W (h.below hb) (hp.below hb (by omega)) (by have := hb.size; omega) (hT.below hb hB).ot hx hlen)
  have EX := fun x (hm : mayZ x.1 x.2.1 x.2.2 = true) (hk : knowsF p f x = true) (ho : 0 ≤ offI p x ∧ offI p x ≤ f.stk.length) (hpc : 0 ≤ f.pc ∧ f.pc < 9223372036854775807) W (hb : Below w.heap.size w W) => Lib.hid (rexec_any x W (h.below hb) (hp.below hb (by omega)) hC (hT.below hb hB) hm hk ho hlen hpc (Nat.le_trans hB hb.size))
  have EN := fun F t s1 W (hr : RunAt W B r (.slice A p.length cp) l o F s1) => Lib.hid (rend_any t 0 0 W hr)
  have OFF := Lib.hid (h.off (Nat.le_refl w.heap.size))
  have OFY := Lib.hid (h.off (Nat.le_succ w.heap.size))
  have A0 := Lib.hid (Aft.refl h)
  have hfo := fetch_ok (p := p) (f := f)
  have hcl : (fetchF p f).2 = 0 → 0 ≤ f.pc ∧ f.pc < 9223372036854775807 := fun e => by
    have h1 := (hfo e).1
    simp [hasI] at h1
    have h2 : (codeP p f.fn).length ≤ 9223372036854775807 := by
      unfold codeP
      split
      · rename_i g hg
        have := hz.2 g (List.mem_of_getElem? hg)
        unfold maxLen at this
        omega
      · simp
    omega
  have hkx : ∀ x, knowsF p f x = true → x.1 = 13 → hasI p.length x.2.1 = true := fun x hk e => by
    unfold knowsF at hk
    rw [if_neg (by omega), if_pos e, Bool.and_eq_true] at hk
    exact hk.1
  have hdo := fun x => depth_ok (p := p) (f := f) (x := x)
  unfold runF
  generalize hft : fetchF p f = R at *
  obtain ⟨x, t⟩ := R
  simp only at hfo hcl FE ⊢
  have HB := Lib.hid hB
  have HZ := Lib.hid hlen
  clear h hp hT hfn hz hft hB hlen
  by_cases ht : t = 0
  · subst ht
    rw [if_neg (by simp)]
    have hpc := hcl rfl
    have hfk := hfo rfl
    have DX := fun W hb => DE x (hkx x hfk.2.2) W hb
    have EX2 := fun ho W hb => EX x hfk.2.1 hfk.2.2 ho hpc W hb
    have HD := fun e => hdo x e
    clear DE EX hkx hdo hcl hfo hpc hfk
    generalize depthF p f x = dt at *
    by_cases hd : dt = 0
    · subst hd
      rw [if_neg (by simp)]
      have EX3 := fun W hb => EX2 (HD rfl) W hb
      clear EX2 HD
      unfold ExeR at EX3
      generalize execF p f x = E at *
      obtain ⟨E1, ⟨k1, k2, k3, k4, ar⟩, et⟩ := E
      simp only at EX3 ⊢
      by_cases he : et = 0
      · subst he
        rw [if_neg (by simp)]
        clear EN
        go_enter Tryz.func91, Tryz.ntmps91
        go_wp2
        refine wp_scope_once 0 (fun a' w' => False) (fun _ _ => 0) rfl ?_ ?_
        · rintro a' w' h; exact h.elim
        · intro hp
          clear hp
          go_wp2_with (first
            | (go_at_call 104; go_loud (((with_reducible refine (FE _ ?_).out.mono ?_); (focus (go_grown))); rintro _ u1 ⟨rfl, hb1⟩; have hbw1 := Below.step (below2 w _ _) hb1; have hr := ((Held.new w 77 az0).alloc (.cells az0 77)).below hb1; have hy := (Held.new1 w (.cells az0 77) 77 az0).below hb1))
            | (go_at_call 105; go_loud ((with_reducible refine (DX _ (hbw1.alloc hbw1.size _)).out.mono ?_); rintro _ u2 ⟨rfl, hb2⟩; have hbw2 := Below.step (hbw1.alloc hbw1.size _) hb2; have hr2 := (hr.alloc _).below hb2; have hy2 := (hy.alloc _).below hb2; have hx2 := (Held.new u1 92 #[.int .i64 x.1, .int .i64 x.2.1, .int .i64 x.2.2]).below hb2; obtain ⟨x0, x1, x2, _⟩ := three hx2))
            | (go_at_call 106; go_loud ((with_reducible refine (EX3 _ hbw2).out.mono ?_); rintro _ u3 ⟨av, s3, rfl, ⟨A3, c3, rfl, ho3⟩, ha3⟩; have ha4 := Aft.pre hbw2 ha3; have hr3 := ha3.held hr2 OFF.out; have hy3 := ha3.held hy2 OFY.out; have of3 := ha3.off OFF.out hr2.lt; have oy3 := ha3.off OFY.out hy2.lt; have hul := hy2.lt; obtain ⟨y0, y1, y2, y3, y4, z0, z1, z2, z3, z4⟩ := five hy3; obtain ⟨q0, q1, q2, q3, q4, v0, v1, v2, v3, v4⟩ := five hr3; simp at ho3)))
          simp only [Exit.jump]
          obtain ⟨A5, h5⟩ := ha4.res oy3 (Nat.le_succ _) hy3 (.int .i64 k1) (.int .i64 k2) (.int .i64 k3) (.int .i64 k4) (.slice A3 ar.length c3)
          obtain ⟨A6, h6⟩ := A5.res of3 (Nat.le_refl _) (hr3.far5 (by omega) _ _ _ _ _) (.int .i64 k1) (.int .i64 k2) (.int .i64 k3) (.int .i64 k4) (.slice A3 ar.length c3)
          obtain ⟨d0, d1, d2, d3, d4, _⟩ := five h6
          exact bodyPost_ret (v := .agg #[.int .i64 k1, .int .i64 k2, .int .i64 k3, .int .i64 k4, .slice A3 ar.length c3]) (by simp [results, Tryz.results91, go_sem, d0, d1, d2, d3, d4]) rfl ⟨_, rfl, ⟨A3, c3, rfl, row_mono ((ho3.far5 hul _ _ _ _ _).far5 (by omega) _ _ _ _ _) (by omega)⟩, _, A6⟩
      · rw [if_pos he]
        have hne : (et != 0) = true := by simpa using he
        go_enter Tryz.func91, Tryz.ntmps91
        go_wp2
        refine wp_scope_once 0 (fun a' w' => DoW B r (.slice A p.length cp) l o s E1 et a' w w') (fun _ _ => 0) rfl ?_ ?_
        · rintro a' w' ⟨⟨s1, ha, hof⟩, hr, u1, u3, u4, u6, u7, u8, u9, u10, u11, u12, u13, u14, u15, u16, u17, u18, u19, u20, u21, u22, u23, u24, u25, u26, u27, u28, u29, u30, rfl⟩
          go_wp2_with (go_at_call 107; go_loud ((with_reducible refine (EN _ _ _ _ ha.run).out.mono ?_); rintro _ u3 ⟨rfl, ha3⟩; have hr3 := ha3.held hr hof; have hof3 := ha3.off hof hr.lt; have ha4 := ha.trans ha3; obtain ⟨q0, q1, q2, q3, q4, z0, z1, z2, z3, z4⟩ := five hr3))
          simp only [Exit.jump]
          obtain ⟨A5, h5⟩ := ha4.res hof3 (Nat.le_refl _) hr3 (.int .i64 4) (.int .i64 0) (.int .i64 0) (.int .i64 0) (.slice none 0 0)
          obtain ⟨d0, d1, d2, d3, d4, _⟩ := five h5
          exact bodyPost_ret (v := akv 4) (by simp [results, Tryz.results91, go_sem, d0, d1, d2, d3, d4]) rfl ⟨_, rfl, ActO.k _ _ _, _, A5⟩
        · intro hp
          have Hp := Lib.hid hp; clear hp
          go_wp2_with (first
            | (go_at_call 104; go_loud (((with_reducible refine (FE _ ?_).out.mono ?_); (focus (go_grown))); rintro _ u1 ⟨rfl, hb1⟩; have hbw1 := Below.step (below2 w _ _) hb1; have hr := ((Held.new w 77 az0).alloc (.cells az0 77)).below hb1; have hy := (Held.new1 w (.cells az0 77) 77 az0).below hb1))
            | (go_at_call 105; go_loud ((with_reducible refine (DX _ (hbw1.alloc hbw1.size _)).out.mono ?_); rintro _ u2 ⟨rfl, hb2⟩; have hbw2 := Below.step (hbw1.alloc hbw1.size _) hb2; have hr2 := (hr.alloc _).below hb2; have hy2 := (hy.alloc _).below hb2; have hx2 := (Held.new u1 92 #[.int .i64 x.1, .int .i64 x.2.1, .int .i64 x.2.2]).below hb2; obtain ⟨x0, x1, x2, _⟩ := three hx2))
            | (go_at_call 106; go_loud ((with_reducible refine (EX3 _ hbw2).out.mono ?_); rintro _ u3 ⟨av, s3, rfl, ⟨A3, c3, rfl, ho3⟩, ha3⟩; have ha4 := Aft.pre hbw2 ha3; have hr3 := ha3.held hr2 OFF.out; have hy3 := ha3.held hy2 OFY.out; have of3 := ha3.off OFF.out hr2.lt; have oy3 := ha3.off OFY.out hy2.lt; have hul := hy2.lt; obtain ⟨y0, y1, y2, y3, y4, z0, z1, z2, z3, z4⟩ := five hy3; obtain ⟨q0, q1, q2, q3, q4, v0, v1, v2, v3, v4⟩ := five hr3; simp at ho3)))
          go_step3
          exact ⟨rfl, ⟨s3, (ha4.res oy3 (Nat.le_succ _) hy3 _ _ _ _ _).1, of3⟩, hr3.far5 (k := w.heap.size + 1) (by omega) _ _ _ _ _, _, _, _, _, _, _, _, _, _, _, _, _, _, _, _, _, _, _, _, _, _, _, _, _, _, _, _, _, rfl⟩
    · rw [if_pos hd]
      have hne : (dt != 0) = true := by simpa using hd
      clear EX2 HD
      go_enter Tryz.func91, Tryz.ntmps91
      go_wp2
      refine wp_scope_once 0 (fun a' w' => DoW B r (.slice A p.length cp) l o s f dt a' w w') (fun _ _ => 0) rfl ?_ ?_
      · rintro a' w' ⟨⟨s1, ha, hof⟩, hr, u1, u3, u4, u6, u7, u8, u9, u10, u11, u12, u13, u14, u15, u16, u17, u18, u19, u20, u21, u22, u23, u24, u25, u26, u27, u28, u29, u30, rfl⟩
        go_wp2_with (go_at_call 107; go_loud ((with_reducible refine (EN _ _ _ _ ha.run).out.mono ?_); rintro _ u3 ⟨rfl, ha3⟩; have hr3 := ha3.held hr hof; have hof3 := ha3.off hof hr.lt; have ha4 := ha.trans ha3; obtain ⟨q0, q1, q2, q3, q4, z0, z1, z2, z3, z4⟩ := five hr3))
        simp only [Exit.jump]
        obtain ⟨A5, h5⟩ := ha4.res hof3 (Nat.le_refl _) hr3 (.int .i64 4) (.int .i64 0) (.int .i64 0) (.int .i64 0) (.slice none 0 0)
        obtain ⟨d0, d1, d2, d3, d4, _⟩ := five h5
        exact bodyPost_ret (v := akv 4) (by simp [results, Tryz.results91, go_sem, d0, d1, d2, d3, d4]) rfl ⟨_, rfl, ActO.k _ _ _, _, A5⟩
      · intro hp
        have Hp := Lib.hid hp; clear hp
        go_wp2_with (first
          | (go_at_call 104; go_loud (((with_reducible refine (FE _ ?_).out.mono ?_); (focus (go_grown))); rintro _ u1 ⟨rfl, hb1⟩; have hbw1 := Below.step (below2 w _ _) hb1; have hr := ((Held.new w 77 az0).alloc (.cells az0 77)).below hb1; have hy := (Held.new1 w (.cells az0 77) 77 az0).below hb1))
          | (go_at_call 105; go_loud ((with_reducible refine (DX _ (hbw1.alloc hbw1.size _)).out.mono ?_); rintro _ u2 ⟨rfl, hb2⟩; have hbw2 := Below.step (hbw1.alloc hbw1.size _) hb2; have hr2 := (hr.alloc _).below hb2; have hy2 := (hy.alloc _).below hb2; have hx2 := (Held.new u1 92 #[.int .i64 x.1, .int .i64 x.2.1, .int .i64 x.2.2]).below hb2; obtain ⟨x0, x1, x2, _⟩ := three hx2)))
        go_step3
        exact ⟨rfl, ⟨s, A0.out.below hbw2, OFF.out⟩, hr2, _, _, _, _, _, _, _, _, _, _, _, _, _, _, _, _, _, _, _, _, _, _, _, _, _, _, _, _, rfl⟩
  · rw [if_pos ht]
    have hne : (t != 0) = true := by simpa using ht
    clear DE EX hkx hdo hcl hfo
    go_enter Tryz.func91, Tryz.ntmps91
    go_wp2
    refine wp_scope_once 0 (fun a' w' => DoW B r (.slice A p.length cp) l o s f t a' w w') (fun _ _ => 0) rfl ?_ ?_
    · rintro a' w' ⟨⟨s1, ha, hof⟩, hr, u1, u3, u4, u6, u7, u8, u9, u10, u11, u12, u13, u14, u15, u16, u17, u18, u19, u20, u21, u22, u23, u24, u25, u26, u27, u28, u29, u30, rfl⟩
      go_wp2_with (go_at_call 107; go_loud ((with_reducible refine (EN _ _ _ _ ha.run).out.mono ?_); rintro _ u3 ⟨rfl, ha3⟩; have hr3 := ha3.held hr hof; have hof3 := ha3.off hof hr.lt; have ha4 := ha.trans ha3; obtain ⟨q0, q1, q2, q3, q4, z0, z1, z2, z3, z4⟩ := five hr3))
      simp only [Exit.jump]
      obtain ⟨A5, h5⟩ := ha4.res hof3 (Nat.le_refl _) hr3 (.int .i64 4) (.int .i64 0) (.int .i64 0) (.int .i64 0) (.slice none 0 0)
      obtain ⟨d0, d1, d2, d3, d4, _⟩ := five h5
      exact bodyPost_ret (v := akv 4) (by simp [results, Tryz.results91, go_sem, d0, d1, d2, d3, d4]) rfl ⟨_, rfl, ActO.k _ _ _, _, A5⟩
    · intro hp
      have Hp := Lib.hid hp; clear hp
      go_wp2_with (first
        | (go_at_call 104; go_loud (((with_reducible refine (FE _ ?_).out.mono ?_); (focus (go_grown))); rintro _ u1 ⟨rfl, hb1⟩; have hbw1 := Below.step (below2 w _ _) hb1; have hr := ((Held.new w 77 az0).alloc (.cells az0 77)).below hb1; have hy := (Held.new1 w (.cells az0 77) 77 az0).below hb1)))
      go_step3
      exact ⟨rfl, ⟨s, A0.out.below (hbw1.alloc hbw1.size _), OFF.out⟩, hr.alloc _, _, _, _, _, _, _, _, _, _, _, _, _, _, _, _, _, _, _, _, _, _, _, _, _, _, _, _, _, rfl⟩
end
end Go.Proofs.YtoeinpiekfmbgaaGreatDoor

