/- PenGens. -/
import Derived.Test.YtkpjlobpaippdaaYl
import Derived.Test.YtkpjlobpaippdaaYz
import Derived.Test.YtkpjlobpaippdaaYfl
import Derived.Test.YtkpjlobpaippdaaYq2
import Derived.Deep.DeepCutAuto
import Derived.Deep.CutBlock
namespace Go.Proofs.Ytkpjlobpaippdaa.penGens
set_option linter.unusedVariables false
set_option linter.unusedSimpArgs false
open Go.RowKit Go.ChangeShapes Go.WideShapes Go.ChangeAt Go.Sort Go.Proofs.Ytkpjlobpaippdaa

/-- The pen ahead of turn i, and with its frame laid. -/
def Pn (i : Nat) : Zp := if i = 0 then ⟨[], [], 1⟩ else ⟨[⟨(i : Int), false, frm0⟩], [0], 1⟩
def Qn (i : Nat) (f : Frm) : Zp := ⟨[⟨(i : Int), true, f⟩], [], 1⟩
theorem ok_pn (i : Nat) (h : i ≤ 41) : okZ (Pn i) = true := by
  unfold Pn
  split
  · exact ok_mk (by unfold topZ; simp) (by simp) (by simp) (by simp) (by simp)
  · refine ok_mk (by unfold topZ; simp) (by simp) (by simp) (fun k c hc => ?_) (fun k c hc => ?_)
    · cases k with
      | zero => simp at hc; subst hc; simp
      | succ k => simp at hc
    · cases k with
      | zero => simp at hc; subst hc; simp; omega
      | succ k => simp at hc
theorem ok_qn (i : Nat) (f : Frm) (h : i ≤ 41) : okZ (Qn i f) = true := by
  refine ok_mk (by unfold topZ Qn; simp) (by simp [Qn]) (by simp [Qn]) (fun k c hc => ?_) (fun k c hc => ?_)
  · cases k with
    | zero => simp [Qn] at hc; subst hc; simp [Qn]
    | succ k => simp [Qn] at hc
  · cases k with
    | zero => simp [Qn] at hc; subst hc; simp; omega
    | succ k => simp [Qn] at hc
theorem lay_pn (i : Nat) (f : Frm) (h : i ≤ 41) : layZ (Pn i) f = (Qn i f, (0, (i : Int)), 0) := by
  unfold layZ
  rw [if_neg (by rw [ok_pn i h]; decide)]
  unfold Pn
  by_cases e : i = 0
  · subst e
    simp [Qn]
  · rw [if_neg e]
    simp [Qn, genZ, lastZ]
theorem get_qn (i : Nat) (f : Frm) (h : i ≤ 41) : getZ (Qn i f) (0, (i : Int)) = (f, true) := get_at (ok_qn i f h) (j := 0) rfl rfl
theorem get_old (i k : Nat) (f : Frm) (h : k ≠ i) : getZ (Qn i f) (0, (k : Int)) = (frm0, false) := get_no1 (j := 0) (c := ⟨(i : Int), true, f⟩) rfl rfl (.inr (by simp only; omega))
theorem drop_qn (i : Nat) (f : Frm) (h : i ≤ 40) : dropZ (Qn i f) (0, (i : Int)) = (Pn (i + 1), 0) := by
  unfold dropZ
  rw [if_neg (by rw [ok_qn i f (by omega)]; decide), if_neg (by rw [has_at.2 ⟨0, f, rfl, rfl⟩]; decide)]
  have e : ((i : Int) + 1) % 4294967296 = ((i + 1 : Nat) : Int) := by omega
  simp [Qn, Pn, e]
theorem refs_pn (i : Nat) (h : i ≤ 41) : refsZ (Pn i) = [] := by
  rw [refsZ_ok (ok_pn i h)]
  unfold Pn
  split <;> simp [refsL]
theorem sm_pn (i : Nat) : SmP (Pn i) 1 := by
  unfold Pn
  split
  · exact ⟨by simp, by simp, by simp⟩
  · exact ⟨by simp, by simp, fun c hc => by simp at hc; subst hc; exact frm0_len⟩
theorem sm_qn (i : Nat) {f : Frm} (h : FrmLen f) : SmP (Qn i f) 1 := ⟨by simp [Qn], by simp [Qn], fun c hc => by simp [Qn] at hc; subst hc; exact h⟩
def rl (i : Nat) : List V := (List.range i).map fun (k : Nat) => ((0 : Int), (k : Int))
theorem rl_len (i : Nat) : (rl i).length = i := by simp [rl]
theorem rl_at {i k : Nat} (h : k < (rl i).length) : (rl i)[k] = (0, (k : Int)) := by simp [rl]
theorem rl_succ (i : Nat) : rl (i + 1) = rl i ++ [(0, (i : Int))] := by simp [rl, List.range_succ]
set_option maxHeartbeats 8000000 in
set_option maxRecDepth 100000 in
theorem walk (CF : ∀ w, Calls Try.prog 11 #[] w fun e w' => e = .returned (.bool true) ∧ Below w.heap.size w w') {f : Frm} {fs : Array Value} {B : Nat} (n : Int) (w : World) (hf : FrmAt w B (.agg fs) f) (hfs : fs.size = 16) (hfn : fs.all (·.oneCell') = true) (hB : B ≤ w.heap.size) :
    Calls Try.prog 7 #[.agg fs, .int .i64 n] w fun e w' => e = .returned (.bool true) ∧ Below w.heap.size w w' := by
  have hW : Below w.heap.size w (w.alloc (.cells fs 35)) := (Below.refl _ _).alloc (Nat.le_refl _) _
  have v2 : Held (w.alloc (.cells fs 35)) w.heap.size 35 fs := Held.new w 35 fs
  have HF := Lib.hid hf
  have H16 := Lib.hid hfs
  have HBB := Lib.hid hB
  have hcs : (decide (n < 0) = false ∧ decide (40 < n) = false ∧ 0 ≤ n ∧ n ≤ 40) ∨ decide (n < 0) = true ∨ (decide (n < 0) = false ∧ decide (40 < n) = true) := by
    simp only [decide_eq_true_eq, decide_eq_false_iff_not]
    omega
  obtain ⟨b2, hb2⟩ : ∃ b, smB f = b := ⟨_, rfl⟩
  have H2 := Lib.hid hb2
  have FA : ∀ W, Below w.heap.size w W → FrmAt W W.heap.size (.agg fs) f := fun W hb => (HF.out.below hb HBB.out).more (Nat.le_trans HBB.out hb.size)
  clear hf hfs hfn hB hb2
  go_enter Try.func7, Try.ntmps7
  go_upto_region 1 with (guard_target = wpList _ _ _ (Oper.mk (some 2) _ _ _ _ none :: _) _ _; refine wpList_box_arr rfl 35 _ rfl fs rfl ?_)
  generalize (w.alloc (.cells fs 35)) = W0 at *
  cases b2
  case false =>
    rcases hcs with ⟨e1, e2, -, -⟩ | e1 | ⟨e1, e2⟩
    all_goals
      go_wp2_with (first
        | (go_at_call 11; (with_reducible refine (CF _).mono ?_); rintro _ uf ⟨rfl, hbf⟩; replace v2 := Held.below v2 hbf; replace hW := Below.step hW hbf)
        | (guard_target = wpList _ _ _ (Oper.mk (some 22) _ _ _ _ _ :: _) _ _; refine wpList_done rfl ?_; refine wpList_load_row rfl 35 _ rfl w.heap.size rfl _ _ _ _ v2 Try.underlying35 rfl (by rw [H16.out]; kernel_rfl) ?_)
        | (go_at_call 10; (with_reducible refine (smallf_c H2.out _ (FA _ hW)).mono ?_); rintro _ ut ⟨rfl, hbt⟩; replace v2 := Held.below v2 hbt; replace hW := Below.step hW hbt))
      go_ret
      exact ⟨rfl, hW⟩
  case true =>
  rcases hcs with ⟨e1, e2, hn0, hn1⟩ | e1 | ⟨e1, e2⟩
  case inr.inl =>
    go_wp2_with (first
      | (go_at_call 11; (with_reducible refine (CF _).mono ?_); rintro _ uf ⟨rfl, hbf⟩; replace v2 := Held.below v2 hbf; replace hW := Below.step hW hbf)
      | (guard_target = wpList _ _ _ (Oper.mk (some 22) _ _ _ _ _ :: _) _ _; refine wpList_done rfl ?_; refine wpList_load_row rfl 35 _ rfl w.heap.size rfl _ _ _ _ v2 Try.underlying35 rfl (by rw [H16.out]; kernel_rfl) ?_)
      | (go_at_call 10; (with_reducible refine (smallf_c H2.out _ (FA _ hW)).mono ?_); rintro _ ut ⟨rfl, hbt⟩; replace v2 := Held.below v2 hbt; replace hW := Below.step hW hbt))
    go_ret
    exact ⟨rfl, hW⟩
  case inr.inr =>
    go_wp2_with (first
      | (go_at_call 11; (with_reducible refine (CF _).mono ?_); rintro _ uf ⟨rfl, hbf⟩; replace v2 := Held.below v2 hbf; replace hW := Below.step hW hbf)
      | (guard_target = wpList _ _ _ (Oper.mk (some 22) _ _ _ _ _ :: _) _ _; refine wpList_done rfl ?_; refine wpList_load_row rfl 35 _ rfl w.heap.size rfl _ _ _ _ v2 Try.underlying35 rfl (by rw [H16.out]; kernel_rfl) ?_)
      | (go_at_call 10; (with_reducible refine (smallf_c H2.out _ (FA _ hW)).mono ?_); rintro _ ut ⟨rfl, hbt⟩; replace v2 := Held.below v2 hbt; replace hW := Below.step hW hbt))
    go_ret
    exact ⟨rfl, hW⟩
  case inl =>
  have LF := sm_frm H2.out
  obtain ⟨N, rfl⟩ : ∃ N : Nat, n = N := ⟨n.toNat, by omega⟩
  have hN : N ≤ 40 := by omega
  go_upto_region 3 with (first
    | (go_at_call 11; (with_reducible refine (CF _).mono ?_); rintro _ uf ⟨rfl, hbf⟩; replace v2 := Held.below v2 hbf; replace hW := Below.step hW hbf)
    | (guard_target = wpList _ _ _ (Oper.mk (some 22) _ _ _ _ _ :: _) _ _; refine wpList_done rfl ?_; refine wpList_load_row rfl 35 _ rfl w.heap.size rfl _ _ _ _ v2 Try.underlying35 rfl (by rw [H16.out]; kernel_rfl) ?_)
    | (go_at_call 10; (with_reducible refine (smallf_c H2.out _ (FA _ hW)).mono ?_); rintro _ ut ⟨rfl, hbt⟩; replace v2 := Held.below v2 hbt; replace hW := Below.step hW hbt))
  have NW : newZ 1 = (Pn 0, true) := by kernel_rfl
  go_upto_region 4 with (first
    | (go_at_call 20; (with_reducible refine (new_c NW _).mono ?_); rintro _ u ⟨rfl, ho, hb⟩; have hn := Held.new u 25 pz0)
    | (guard_target = wpList _ _ _ (Oper.mk _ (Op.store 25 (.tmp 5) _) _ _ _ none :: _) _ _; refine wpList_store_row rfl 25 _ _ rfl u.heap.size (pc none (Pn 0).cells.length 0 none (Pn 0).free.length 0 (Pn 0).most) rfl rfl _ _ hn (by kernel_rfl) rfl (by simp [Value.oneCell']) ?_))
  obtain ⟨v5, hbW⟩ := new_p1 (c := 0) (c2 := 0) (P := Pn 0) hb ho
  have hgu := hW.size
  have hg5 : w.heap.size ≤ u.heap.size := Nat.le_trans hW.size hb.size
  clear hb ho hn hgu
  replace v2 := Held.below v2 hbW
  replace hW := Below.step hW hbW
  clear hbW
  generalize World.setRow _ u.heap.size _ = W3 at *
  generalize u.heap.size = g5 at *
  have hbE := ((Below.refl _ _).alloc (Nat.le_refl _) _ : Below W3.heap.size W3 (W3.alloc (.cells #[] 27)))
  have hol : OwnR _ w.heap.size _ _ := r_mono (Own2.made 27 W3) hW.size
  go_upto_region 5 with (first
    | (refine wpList_plain rfl fun K hK => wp_build0R rfl (hK _ _ ?_)))
  replace v2 := Held.below v2 hbE
  replace v5 := v5.below hbE
  replace hW := Below.step hW hbE
  clear hbE
  generalize W3.alloc (.cells #[] 27) = W4 at *
  generalize W3.heap.size = g7 at *
  have hne2 : w.heap.size ≠ g5 := fun e => by
    have h9 := v5.x
    rw [← e] at h9
    rw [Held] at h9 v2
    rw [v2] at h9
    simp at h9
  go_upto_region 6 with (fail)
  go_loopw [8, 7] (fun iv sv W => ∃ (i : Nat) (A7 : Option Addr) (c7 : Nat) (A c A2 c2 : _), iv = .int .i64 i ∧ sv = .slice A7 i c7 ∧ i ≤ N ∧ OwnR W w.heap.size (.slice A7 i c7) (rl i) ∧ PV W g5 A c A2 c2 (Pn i) ∧ Held W w.heap.size 35 fs ∧ Below w.heap.size w W) (fun iv _ _ => N - (intOf iv).toNat)
  case atStart => exact ⟨0, _, _, _, _, _, _, rfl, rfl, by omega, hol, v5, v2, hW⟩
  case round =>
    clear v5 v2 hW hol
    obtain ⟨i, A7, c7, A, c, A2, c2, rfl, rfl, hi, w7, v5, v2, hW⟩ := hrel
    have hi0 : (0 : Int) ≤ i := by omega
    by_cases hlt : i < N
    · have hlt2 : (i : Int) < (N : Nat) := by omega
      have LPn := (sm_pn i).len (by decide)
      have LQn := (sm_qn i LF).len (by decide)
      have LPn1 := (sm_pn (i + 1)).len (by decide)
      have hi41 : i ≤ 41 := by omega
      have hi40 : i ≤ 40 := by omega
      have HQ : Hid (∀ q, Value.ownBlock (.slice A7 i c7) = some q → q < wr.heap.size) := Lib.hid (fun q e => (w7.lt q e).2)
      have YL := Lib.hid (lay_pn i f hi41)
      have YG := Lib.hid (get_qn i f hi41)
      have YD := Lib.hid (drop_qn i f hi40)
      have YR := Lib.hid (refs_pn (i + 1) (by omega))
      go_upto_region 9 with (first
        | (guard_target = wpList _ _ _ (Oper.mk (some 46) _ _ _ _ none :: _) _ _; refine wpList_load_row rfl 25 _ rfl g5 rfl _ _ _ _ v5.x Try.underlying25 rfl (by kernel_rfl) ?_)
        | (guard_target = wpList _ _ _ (Oper.mk (some 47) _ _ _ _ none :: _) _ _; refine wpList_load_row rfl 35 _ rfl w.heap.size rfl _ _ _ _ v2 Try.underlying35 rfl (by rw [H16.out]; kernel_rfl) ?_)
        | (go_at_call 12; (with_reducible refine (lay_c YL.out LPn LF _ _ _ v5.p H16.out (FA _ hW)).mono ?_); rintro _ u ⟨A9, c9, B9, d9, rfl, ho, hb⟩; have hn := (Held.new u 25 pz0).alloc (.cells (refc 0 0) 27); have hm := Held.new1 u (.cells pz0 25) 27 (refc 0 0))
        | (guard_target = wpList _ _ _ (Oper.mk _ (Op.store 25 (.tmp 9) _) _ _ _ none :: _) _ _; refine wpList_store_row rfl 25 _ _ rfl u.heap.size (pc A9 (Qn i f).cells.length c9 B9 (Qn i f).free.length d9 (Qn i f).most) rfl rfl _ _ hn (by kernel_rfl) rfl (by simp [Value.oneCell']) ?_; have hm2 := held_row hm (Nat.succ_ne_self u.heap.size) (pc A9 (Qn i f).cells.length c9 B9 (Qn i f).free.length d9 (Qn i f).most))
        | (guard_target = wpList _ _ _ (Oper.mk _ (Op.store 27 (.tmp 10) _) _ _ _ none :: _) _ _; refine wpList_store_row rfl 27 _ _ rfl (u.heap.size + 1) (refc 0 (i : Int)) rfl rfl _ _ hm2 (by kernel_rfl) rfl (by simp [Value.oneCell']) ?_))
      obtain ⟨v9, v10, hbW⟩ := new_p2 (c := c9) (c2 := d9) (P := (Qn i f)) (x := 0) (y := (i : Int)) hb ho
      have hs_v9 := hb.size
      have hs_v9r := (show _ < u.heap.size + 1 from Nat.lt_succ_of_le hb.size)
      clear hb ho hn hm hm2
      replace v2 := Held.below v2 hbW
      replace v5 := v5.below hbW
      replace w7 := own_later w7 hbW
      replace hW := Below.step hW hbW
      clear hbW
      generalize World.setRow _ (u.heap.size + 1) _ = W9 at *
      generalize u.heap.size + 1 = g9r at *
      generalize u.heap.size = g9 at *
      have HG9 : Hid (wr.heap.size < g9r) := Lib.hid hs_v9r
      go_upto_region 10 with (first
        | (guard_target = wpList _ _ _ (Oper.mk (some 53) _ _ _ _ none :: _) _ _; refine wpList_load_row rfl 25 _ rfl g9 rfl _ _ _ _ v9.x Try.underlying25 rfl (by kernel_rfl) ?_)
        | (guard_target = wpList _ _ _ (Oper.mk (some 54) _ _ _ _ none :: _) _ _; refine wpList_load_row rfl 27 _ rfl g9r rfl _ _ _ _ v10 Try.underlying27 rfl (by kernel_rfl) ?_)
        | (go_at_call 18; (with_reducible refine (get_c (r := (0, (i : Int))) YG.out LQn _ _ _ v9.p).mono ?_); rintro _ u ⟨ds12, rfl, d1, d2, ho, hb⟩; have hn := Held.new u 35 fzc)
        | (guard_target = wpList _ _ _ (Oper.mk _ (Op.store 35 (.tmp 12) _) _ _ _ none :: _) _ _; refine wpList_store_row rfl 35 _ _ rfl u.heap.size ds12 rfl rfl _ _ hn (by rw [d1]; kernel_rfl) (by rw [d1]; rfl) d2 ?_))
      obtain ⟨v12, hbW⟩ := new_f1 hb d1 d2 ho
      clear hb ho hn d1 d2
      replace v2 := Held.below v2 hbW
      replace v5 := v5.below hbW
      replace w7 := own_later w7 hbW
      replace v10 := Held.below v10 hbW
      replace v9 := v9.below hbW
      replace hW := Below.step hW hbW
      clear hbW
      generalize World.setRow _ u.heap.size _ = W10 at *
      generalize u.heap.size = g12 at *
      have z0 := v10.cell 0
      have z1 := v10.cell 1
      simp at z0 z1
      have eii : ((i : Int) != (i : Int)) = false := by simp
      go_upto_region 13 with (first
        | (guard_target = wpList _ _ _ (Oper.mk (some 65) _ _ _ _ _ :: _) _ _; refine wpList_done rfl ?_; refine wpList_load_row rfl 35 _ rfl w.heap.size rfl _ _ _ _ v2 Try.underlying35 rfl (by rw [H16.out]; kernel_rfl) ?_)
        | (guard_target = wpList _ _ _ (Oper.mk (some 66) _ _ _ _ _ :: _) _ _; refine wpList_done rfl ?_; refine wpList_load_row rfl 35 _ rfl g12 rfl _ _ _ _ v12.x Try.underlying35 rfl (by rw [v12.s]; kernel_rfl) ?_)
        | (go_at_call 23; (with_reducible refine (rsamef_c (decide_eq_true (rfl : f = f)) LF LF _ (FA _ hW) v12.p).mono ?_); rintro _ us ⟨rfl, hbs⟩; replace v2 := Held.below v2 hbs; replace v5 := v5.below hbs; replace w7 := own_later w7 hbs; replace v10 := Held.below v10 hbs; replace v9 := v9.below hbs; replace v12 := v12.below hbs; replace hW := Below.step hW hbs; have z0 := v10.cell 0; have z1 := v10.cell 1; simp at z0 z1))
      clear v12 z0 z1 eii
      have HV := Lib.hid (And.intro v5 (And.intro v9 (And.intro v10 (And.intro v2 (And.intro w7 hW)))))
      clear v5 v9 v10 v2 w7 hW
      obtain ⟨W17, hW17⟩ : ∃ W, W = us := ⟨_, rfl⟩
      rw [← hW17] at HV ⊢
      clear hW17
      have hII : ((i : Nat) : Int) ≤ 40 := by omega
      go_loopw [14] (fun iv W => ∃ j : Nat, iv = .int .i64 j ∧ j ≤ i ∧ Below W17.heap.size W17 W) (fun iv _ => i - (intOf iv).toNat)
      case atStart => exact ⟨0, rfl, by omega, Below.refl _ _⟩
      case round =>
        obtain ⟨k, rfl, hk, hw⟩ := hrel
        have HWR := Lib.hid hw
        have hk0 : (0 : Int) ≤ k := by omega
        by_cases hltk : k < i
        · have hltk2 : (k : Int) < (i : Nat) := by omega
          obtain ⟨-, v9, -, -, w7, -⟩ := HV.out
          replace v9 := v9.below hw
          replace w7 := own_later w7 hw
          obtain ⟨b, off, rfl, -, hc7⟩ := (own2_at w7) (by rw [rl_len]; omega)
          obtain ⟨y0, y1⟩ := hc7 k (by rw [rl_len]; exact hltk)
          rw [rl_at] at y0 y1
          have hbl : b < wr.heap.size := block_lt_of_cell y0
          have GU := Lib.hid (get_old i k f (by omega))
          clear hw hc7 w7
          go_upto_region 15 with (fail)
          go_cut [15, 16] from 81 to 96 (fun vf vb wx => ∃ k ds, vf = .pointer (some ⟨k, 0, none⟩) ∧ vb = .bool false ∧ FV wx k ds frm0 ∧ Below wr.heap.size wr wx)
          case first =>
            have hdr := (Below.refl wr.heap.size wr).drew
            have HDR := Lib.hid hdr
            replace v9 := v9.below hdr
            replace y0 := (hdr.cell (p := ⟨b, _, none⟩) hbl).trans y0
            replace y1 := (hdr.cell (p := ⟨b, _, none⟩) hbl).trans y1
            replace hbl : b < wr.drew.heap.size := hbl
            clear hdr
            refine wp_region_held_drew (S := fun W => Below wr.drew.heap.size wr.drew W) (by kernel_rfl) (Below.refl _ _) (fun hS => ?_)
            generalize wr.drew = Wq at *
            show wpAnyH _ _ _ _ _ 12 #[false, false, false, false, false, false, false, false, false, false, false, false] _ _
            refine wpAnyH_begin (by kernel_rfl) (fun HNS => ?_)
            refine wpAnyH_takeS HNS (i := 0) (v := .agg (pc A9 (Qn i f).cells.length c9 B9 (Qn i f).free.length d9 (Qn i f).most)) rfl (by kernel_rfl) (by kernel_rfl) (fun _ _ _ h => h) (Or.inl ⟨by kernel_rfl, fun W hW => ?_⟩) hS ?_
            · (have hz := Held.below v9.x hW; have z0 := hz.cell 0; have z1 := hz.cell 1; have z2 := hz.cell 2; simp at z0 z1 z2; go_simp)
            simp only [Act.put, List.getElem_toArray, List.getElem_cons_succ, List.getElem_cons_zero, List.setIfInBounds_toArray, List.set_cons_zero, List.set_cons_succ]
            refine wpAnyH_takeS HNS (i := 1) (v := .slice (some ⟨b, off, none⟩) i c7) rfl (by kernel_rfl) (by kernel_rfl) (fun _ _ _ h => h) (Or.inl ⟨by kernel_rfl, fun W hW => ?_⟩) hS ?_
            · go_simp
            simp only [Act.put, List.getElem_toArray, List.getElem_cons_succ, List.getElem_cons_zero, List.setIfInBounds_toArray, List.set_cons_zero, List.set_cons_succ]
            refine wpAnyH_takeS HNS (i := 2) (v := .int .i64 k) rfl (by kernel_rfl) (by kernel_rfl) (fun _ _ _ h => h) (Or.inl ⟨by kernel_rfl, fun W hW => ?_⟩) hS ?_
            · go_simp
            simp only [Act.put, List.getElem_toArray, List.getElem_cons_succ, List.getElem_cons_zero, List.setIfInBounds_toArray, List.set_cons_zero, List.set_cons_succ]
            refine wpAnyH_takeS HNS (i := 3) (v := .pointer (some ⟨b, off + k * 2, none⟩)) rfl (by kernel_rfl) (by kernel_rfl) (fun _ _ _ h => h) (Or.inl ⟨by kernel_rfl, fun W hW => ?_⟩) hS ?_
            · go_simp
            simp only [Act.put, List.getElem_toArray, List.getElem_cons_succ, List.getElem_cons_zero, List.setIfInBounds_toArray, List.set_cons_zero, List.set_cons_succ]
            refine wpAnyH_takeS HNS (i := 4) (v := .agg #[.int .i64 0, .int .i64 k]) rfl (by kernel_rfl) (by kernel_rfl) (fun _ _ _ h => h) (Or.inl ⟨by kernel_rfl, fun W hW => ?_⟩) hS ?_
            · (have z0 := (hW.cell (p := ⟨b, _, none⟩) hbl).trans y0; have z1 := (hW.cell (p := ⟨b, _, none⟩) hbl).trans y1; go_simp)
            simp only [Act.put, List.getElem_toArray, List.getElem_cons_succ, List.getElem_cons_zero, List.setIfInBounds_toArray, List.set_cons_zero, List.set_cons_succ]
            refine wpAnyH_ready (rs := [5, 9]) (by kernel_rfl) (by simp) ?_
            refine (AllReadyH.cons rfl (fun K hK => ?_) (AllReadyH.cons rfl (fun K hK => ?_) AllReadyH.nil))
            · rw [if_pos (by kernel_rfl)]
              go_simp
              go_at_call 18
              (with_reducible refine (get_o (r := (0, (k : Int))) GU.out LQn _ _ _ (v9.below hS).p).mono ?_)
              rintro _ u1 ⟨ds1, rfl, d11, d21, ho1, hb1⟩
              replace hS := Below.step hS hb1
              have hof := ho1
              have hd1 := d11
              have hd2 := d21
              (repeat (first | go_skip | go_guarded | go_step | go_upon))
              refine hK.out _ _ hS (fun _ => ?_)
              clear hK K
              (try simp only [Act.put, List.getElem_toArray, List.getElem_cons_succ, List.getElem_cons_zero, List.setIfInBounds_toArray, List.set_cons_zero, List.set_cons_succ])
              refine wpAnyH_takeS HNS (i := 6) (v := .tuple #[.agg ds1, .bool false]) rfl (by kernel_rfl) (by kernel_rfl) (fun _ _ _ h => h) (Or.inl ⟨by kernel_rfl, fun W hW => ?_⟩) hS ?_
              · go_simp
              simp only [Act.put, List.getElem_toArray, List.getElem_cons_succ, List.getElem_cons_zero, List.setIfInBounds_toArray, List.set_cons_zero, List.set_cons_succ]
              refine wpAnyH_takeS HNS (i := 7) (v := .agg ds1) rfl (by kernel_rfl) (by kernel_rfl) (fun _ _ _ h => h) (Or.inl ⟨by kernel_rfl, fun W hW => ?_⟩) hS ?_
              · go_simp
              simp only [Act.put, List.getElem_toArray, List.getElem_cons_succ, List.getElem_cons_zero, List.setIfInBounds_toArray, List.set_cons_zero, List.set_cons_succ]
              refine wpAnyH_takeS HNS (i := 8) (v := .bool false) rfl (by kernel_rfl) (by kernel_rfl) (fun _ _ _ h => h) (Or.inl ⟨by kernel_rfl, fun W hW => ?_⟩) hS ?_
              · go_simp
              simp only [Act.put, List.getElem_toArray, List.getElem_cons_succ, List.getElem_cons_zero, List.setIfInBounds_toArray, List.set_cons_zero, List.set_cons_succ]
              refine wpAnyH_ready (rs := [9]) (by kernel_rfl) (by simp) ?_
              refine (AllReadyH.cons rfl (fun K hK => ?_) AllReadyH.nil)
              · rw [if_pos (by kernel_rfl)]
                refine wp_alloc_R 35 rfl fzc (by kernel_rfl) ?_
                have hbA := ((Below.refl _ _).alloc (Nat.le_refl _) _ : Below u1.heap.size u1 (u1.alloc (.cells fzc 35)))
                replace hof := OwnF.below hof hbA
                have hfr := Held.new u1 35 fzc
                have lhfr := hS.size
                replace hS := Below.step hS hbA
                clear hbA
                generalize u1.alloc (.cells fzc 35) = Wd2 at *
                refine hK.out _ _ hS (fun _ => ?_)
                clear hK K
                (try simp only [Act.put, List.getElem_toArray, List.getElem_cons_succ, List.getElem_cons_zero, List.setIfInBounds_toArray, List.set_cons_zero, List.set_cons_succ])
                refine wpAnyH_ready (rs := [10]) (by kernel_rfl) (by simp) ?_
                refine (AllReadyH.cons rfl (fun K hK => ?_) AllReadyH.nil)
                · rw [if_pos (by kernel_rfl)]
                  refine wp_store_row 35 _ _ rfl _ ds1 (by rfl) (by rfl) _ _ hfr (by rw [hd1]; kernel_rfl) (by rw [hd1]; rfl) hd2 ?_
                  have hff := (hof.kt (kt_row hfr ds1) (by decide) (by decide)).at
                  have hfv := held_rowSelf hfr ds1
                  replace hS := below_setRow hS lhfr ds1
                  clear hof hfr
                  generalize World.setRow _ _ ds1 = Wst at *
                  refine hK.out _ _ hS (fun _ => ?_)
                  clear hK K
                  (try simp only [Act.put, List.getElem_toArray, List.getElem_cons_succ, List.getElem_cons_zero, List.setIfInBounds_toArray, List.set_cons_zero, List.set_cons_succ])
                  refine wpAnyH_takeS HNS (i := 11) (v := .bool false) rfl (by kernel_rfl) (by kernel_rfl) (fun _ _ _ h => h) (Or.inl ⟨by kernel_rfl, fun W hW => ?_⟩) hS ?_
                  · go_simp
                  simp only [Act.put, List.getElem_toArray, List.getElem_cons_succ, List.getElem_cons_zero, List.setIfInBounds_toArray, List.set_cons_zero, List.set_cons_succ]
                  refine wpAnyH_done (by kernel_rfl) ?_ _
                  go_wp2_with fail
                  go_meet
                  case rel => exact ⟨_, _, rfl, rfl, ⟨hfv, hd1, hd2, hff⟩, Below.step HDR.out hS⟩
            · rw [if_pos (by kernel_rfl)]
              refine wp_alloc_R 35 rfl fzc (by kernel_rfl) ?_
              have hbA := ((Below.refl _ _).alloc (Nat.le_refl _) _ : Below Wq.heap.size Wq (Wq.alloc (.cells fzc 35)))
              have hfr := Held.new Wq 35 fzc
              have lhfr := hS.size
              replace hS := Below.step hS hbA
              clear hbA
              generalize Wq.alloc (.cells fzc 35) = Wd3 at *
              refine hK.out _ _ hS (fun _ => ?_)
              clear hK K
              (try simp only [Act.put, List.getElem_toArray, List.getElem_cons_succ, List.getElem_cons_zero, List.setIfInBounds_toArray, List.set_cons_zero, List.set_cons_succ])
              refine wpAnyH_ready (rs := [5]) (by kernel_rfl) (by simp) ?_
              refine (AllReadyH.cons rfl (fun K hK => ?_) AllReadyH.nil)
              · rw [if_pos (by kernel_rfl)]
                go_simp
                go_at_call 18
                (with_reducible refine (get_o (r := (0, (k : Int))) GU.out LQn _ _ _ (v9.below hS).p).mono ?_)
                rintro _ u4 ⟨ds4, rfl, d14, d24, ho4, hb4⟩
                replace hfr := Held.below hfr hb4
                replace hS := Below.step hS hb4
                have hof := ho4
                have hd1 := d14
                have hd2 := d24
                (repeat (first | go_skip | go_guarded | go_step | go_upon))
                refine hK.out _ _ hS (fun _ => ?_)
                clear hK K
                (try simp only [Act.put, List.getElem_toArray, List.getElem_cons_succ, List.getElem_cons_zero, List.setIfInBounds_toArray, List.set_cons_zero, List.set_cons_succ])
                refine wpAnyH_takeS HNS (i := 6) (v := .tuple #[.agg ds4, .bool false]) rfl (by kernel_rfl) (by kernel_rfl) (fun _ _ _ h => h) (Or.inl ⟨by kernel_rfl, fun W hW => ?_⟩) hS ?_
                · go_simp
                simp only [Act.put, List.getElem_toArray, List.getElem_cons_succ, List.getElem_cons_zero, List.setIfInBounds_toArray, List.set_cons_zero, List.set_cons_succ]
                refine wpAnyH_takeS HNS (i := 7) (v := .agg ds4) rfl (by kernel_rfl) (by kernel_rfl) (fun _ _ _ h => h) (Or.inl ⟨by kernel_rfl, fun W hW => ?_⟩) hS ?_
                · go_simp
                simp only [Act.put, List.getElem_toArray, List.getElem_cons_succ, List.getElem_cons_zero, List.setIfInBounds_toArray, List.set_cons_zero, List.set_cons_succ]
                refine wpAnyH_takeS HNS (i := 8) (v := .bool false) rfl (by kernel_rfl) (by kernel_rfl) (fun _ _ _ h => h) (Or.inl ⟨by kernel_rfl, fun W hW => ?_⟩) hS ?_
                · go_simp
                simp only [Act.put, List.getElem_toArray, List.getElem_cons_succ, List.getElem_cons_zero, List.setIfInBounds_toArray, List.set_cons_zero, List.set_cons_succ]
                refine wpAnyH_ready (rs := [10]) (by kernel_rfl) (by simp) ?_
                refine (AllReadyH.cons rfl (fun K hK => ?_) AllReadyH.nil)
                · rw [if_pos (by kernel_rfl)]
                  refine wp_store_row 35 _ _ rfl _ ds4 (by rfl) (by rfl) _ _ hfr (by rw [hd1]; kernel_rfl) (by rw [hd1]; rfl) hd2 ?_
                  have hff := (hof.kt (kt_row hfr ds4) (by decide) (by decide)).at
                  have hfv := held_rowSelf hfr ds4
                  replace hS := below_setRow hS lhfr ds4
                  clear hof hfr
                  generalize World.setRow _ _ ds4 = Wst at *
                  refine hK.out _ _ hS (fun _ => ?_)
                  clear hK K
                  (try simp only [Act.put, List.getElem_toArray, List.getElem_cons_succ, List.getElem_cons_zero, List.setIfInBounds_toArray, List.set_cons_zero, List.set_cons_succ])
                  refine wpAnyH_takeS HNS (i := 11) (v := .bool false) rfl (by kernel_rfl) (by kernel_rfl) (fun _ _ _ h => h) (Or.inl ⟨by kernel_rfl, fun W hW => ?_⟩) hS ?_
                  · go_simp
                  simp only [Act.put, List.getElem_toArray, List.getElem_cons_succ, List.getElem_cons_zero, List.setIfInBounds_toArray, List.set_cons_zero, List.set_cons_succ]
                  refine wpAnyH_done (by kernel_rfl) ?_ _
                  go_wp2_with fail
                  go_meet
                  case rel => exact ⟨_, _, rfl, rfl, ⟨hfv, hd1, hd2, hff⟩, Below.step HDR.out hS⟩
          case rest =>
            obtain ⟨k15, ds15, rfl, rfl, -, hwc⟩ := hcut
            go_wp2_with fail
            go_roundw
            case rel => exact ⟨k + 1, by go_num, by omega, Below.step HWR.out hwc⟩
            case measure => simp [intOf]; omega
        · obtain rfl : k = i := by omega
          obtain ⟨v5, v9, v10, v2, w7, hW⟩ := HV.out
          replace v5 := v5.below hw
          replace v9 := v9.below hw
          replace v10 := Held.below v10 hw
          replace v2 := Held.below v2 hw
          replace w7 := own_later w7 hw
          replace hW := Below.step hW hw
          clear hw hltk HV
          have hbA : Below wr.heap.size wr (wr.alloc (.cells #[.int .i64 0, .int .i64 k] 27)) := (Below.refl _ _).alloc (Nat.le_refl _) _
          have HOA := Lib.hid (r_later w7 hbA : OwnR _ w.heap.size (.slice A7 k c7) (rl k))
          have HVA := Lib.hid (one2_at (t := 27) (w := wr) 0 (k : Int))
          have HLE := Lib.hid (show (rl k).length + 1 ≤ 1000000 by rw [rl_len]; omega)
          have HA5 := Lib.hid (v5.below hbA)
          have HA9 := Lib.hid (v9.below hbA)
          have HA10 := Lib.hid (Held.below v10 hbA)
          have HA2 := Lib.hid (Held.below v2 hbA)
          have HAW := Lib.hid (Below.step hW hbA)
          have HRL := Lib.hid (rl_len k)
          clear w7 hbA v5 v9 v2 hW
          go_upto_region 19 with (first
            | (guard_target = wpList _ _ _ (Oper.mk (some 98) _ _ _ _ none :: _) _ _; refine wpList_load_row rfl 27 _ rfl g9r rfl _ _ _ _ v10 Try.underlying27 rfl (by kernel_rfl) ?_)
            | (at_builtin; refine wpList_append_rs (k := [(0, (k : Int))]) (n := 1) rfl _ _ rfl w.heap.size _ (rl k) rfl HOA.out rfl rfl HVA.out (Nat.le_refl _) HLE.out HAW.out.size ?_; intro v' u6 k1 k2 k3; obtain ⟨A', c', rfl, _⟩ := k1.lies; have K1 := Lib.hid k1; have K2 := Lib.hid k2; clear k1 k2 k3))
          have k1 := K1.out
          have k2 := K2.out
          have hkt := kt_own HOA.out k2
          have hlen9 : (rl k ++ [(0, (k : Int))]).length = k + 1 := by rw [List.length_append, rl_len]; rfl
          have w7 : OwnR u6 w.heap.size (.slice A' (k + 1) c') (rl (k + 1)) := by rw [rl_succ, ← hlen9]; exact k1
          have v9 : PV u6 g9 A9 c9 B9 d9 (Qn k f) := ⟨held_kt HA9.out.x hkt (by decide), HA9.out.o.kt hkt (by decide) (by decide) (by decide) (by decide)⟩
          have v5 : PV u6 g5 A c A2 c2 (Pn k) := ⟨held_kt HA5.out.x hkt (by decide), HA5.out.o.kt hkt (by decide) (by decide) (by decide) (by decide)⟩
          have v2 : Held u6 w.heap.size 35 fs := held_kt HA2.out hkt (by decide)
          have hW : Below w.heap.size w u6 := below_grown2 HAW.out k2 (fun q e => (HOA.out.lt q e).1) HAW.out.size
          have v10 : Held u6 g9r 27 (refc 0 k) := held_grown HA10.out k2 (fun e => by have h9 := HQ.out _ e; have := HG9.out; omega)
          have hsl : (Value.slice A' (rl k ++ [(0, (k : Int))]).length c') = .slice A' (k + 1) c' := by rw [hlen9]
          clear k1 k2 hkt HOA HVA HA5 HA9 HA10 HA2 HAW K1 K2
          go_upto_region 20 with (first
            | (guard_target = wpList _ _ _ (Oper.mk (some 102) _ _ _ _ none :: _) _ _; refine wpList_load_row rfl 25 _ rfl g9 rfl _ _ _ _ v9.x Try.underlying25 rfl (by kernel_rfl) ?_)
            | (guard_target = wpList _ _ _ (Oper.mk (some 103) _ _ _ _ none :: _) _ _; refine wpList_load_row rfl 27 _ rfl g9r rfl _ _ _ _ v10 Try.underlying27 rfl (by kernel_rfl) ?_)
            | (go_at_call 16; (with_reducible refine (drop_c (r := (0, (k : Int))) YD.out LQn _ _ _ v9.p).mono ?_); rintro _ u ⟨A17, c17, B17, d17, rfl, ho, hb⟩; have hn := Held.new u 25 pz0)
            | (guard_target = wpList _ _ _ (Oper.mk _ (Op.store 25 (.tmp 17) _) _ _ _ none :: _) _ _; refine wpList_store_row rfl 25 _ _ rfl u.heap.size (pc A17 (Pn (k + 1)).cells.length c17 B17 (Pn (k + 1)).free.length d17 (Pn (k + 1)).most) rfl rfl _ _ hn (by kernel_rfl) rfl (by simp [Value.oneCell']) ?_))
          obtain ⟨v17, hbW⟩ := new_p1 (c := c17) (c2 := d17) (P := (Pn (k + 1))) hb ho
          have hs_v17 := hb.size
          clear hb ho hn
          replace v2 := Held.below v2 hbW
          replace v5 := v5.below hbW
          replace v9 := v9.below hbW
          replace v10 := Held.below v10 hbW
          replace w7 := own_later w7 hbW
          replace hW := Below.step hW hbW
          clear hbW
          generalize World.setRow _ u.heap.size _ = W19 at *
          generalize u.heap.size = g17 at *
          have q1 : ((((Pn (k + 1)).cells.length : Nat) : Int) != 1) = false := by simp [Pn]
          have x0 := v17.x.cell 0
          simp at x0
          go_upto_region 22 with (first
            | (guard_target = wpList _ _ _ (Oper.mk (some 110) _ _ _ _ _ :: _) _ _; refine wpList_done rfl ?_; refine wpList_load_row rfl 25 _ rfl g17 rfl _ _ _ _ v17.x Try.underlying25 rfl (by kernel_rfl) ?_)
            | (go_at_call 25; (with_reducible refine (refs_c YR.out LPn1 _ _ _ v17.p).mono ?_); rintro _ ur ⟨Ar, cr, rfl, -, hbr⟩; replace v2 := Held.below v2 hbr; replace v5 := v5.below hbr; replace v9 := v9.below hbr; replace v10 := Held.below v10 hbr; replace w7 := own_later w7 hbr; replace v17 := v17.below hbr; replace hW := Below.step hW hbr; have x0 := v17.x.cell 0; simp at x0))
          clear x0 q1
          have w8 : OwnR (ur.setRow g5 (pc A17 (Pn (k + 1)).cells.length c17 B17 (Pn (k + 1)).free.length d17 (Pn (k + 1)).most)) w.heap.size (.slice A' (k + 1) c') (rl (k + 1)) := row_kt w7 (kt_row v5.x _) (by decide)
          have v5' := over_p v5.x v17.o
          have v2' := held_row v2 hne2 (pc A17 (Pn (k + 1)).cells.length c17 B17 (Pn (k + 1)).free.length d17 (Pn (k + 1)).most)
          have hW' := below_setRow hW hg5 (pc A17 (Pn (k + 1)).cells.length c17 B17 (Pn (k + 1)).free.length d17 (Pn (k + 1)).most)
          have FIN := Lib.hid (And.intro w8 (And.intro v5' (And.intro v2' hW')))
          have X5 := Lib.hid v5.x
          clear w8 v5' v2' hW' w7 v9 v10 v2 hW v5
          go_wp2_with (first
            | (guard_target = wpList _ _ _ (Oper.mk (some 121) _ _ _ _ none :: _) _ _; refine wpList_load_row rfl 25 _ rfl g17 rfl _ _ _ _ v17.x Try.underlying25 rfl (by kernel_rfl) ?_)
            | (guard_target = wpList _ _ _ (Oper.mk _ (Op.store 25 (.tmp 5) _) _ _ _ none :: _) _ _; refine wpList_store_row rfl 25 _ _ rfl g5 (pc A17 (Pn (k + 1)).cells.length c17 B17 (Pn (k + 1)).free.length d17 (Pn (k + 1)).most) rfl rfl _ _ X5.out (by kernel_rfl) rfl (by simp [Value.oneCell']) ?_))
          go_roundw
          case rel => exact ⟨k + 1, A', c', A17, c17, B17, d17, by go_num, by first | rfl | exact hsl | rw [HRL.out], by omega, FIN.out.1, FIN.out.2.1, FIN.out.2.2.1, FIN.out.2.2.2⟩
          case measure => simp [intOf]; omega
    · obtain rfl : i = N := by omega
      clear hlt v5 w7 v2
      go_wp2_with fail
      go_ret
      exact ⟨rfl, hW⟩
end Go.Proofs.Ytkpjlobpaippdaa.penGens
