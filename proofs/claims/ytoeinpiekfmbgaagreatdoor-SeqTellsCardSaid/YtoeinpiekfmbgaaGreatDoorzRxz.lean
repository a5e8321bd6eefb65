/- Layer 10, plain: what a frame that is safe executes. -/
import Derived.Test.YtoeinpiekfmbgaaGreatDoorzRtz
import Derived.Test.YtoeinpiekfmbgaaGreatDoorzRjo
import Derived.Test.YtoeinpiekfmbgaaGreatDoorzRdx
import Derived.Test.YtoeinpiekfmbgaaGreatDoorzRdw
import Derived.Test.YtoeinpiekfmbgaaGreatDoorzRpz
import Derived.Test.YtoeinpiekfmbgaaGreatDoorzPlz
import Derived.Test.YtoeinpiekfmbgaaGreatDoorzFnw
import Derived.Test.YtoeinpiekfmbgaaGreatDoorzSr
import Derived.Test.YtoeinpiekfmbgaaGreatDoorzRsz
import Derived.Test.YtoeinpiekfmbgaaGreatDoorzSb
namespace Go.Proofs.YtoeinpiekfmbgaaGreatDoor
set_option linter.unusedVariables false
set_option linter.unusedSimpArgs false
open Gm Go Go.RowKit

/-- At a place that is reached an instruction stands that can be executed. -/
theorem safe_ready {p : List Fun} {k : Nat} {g : Fun} {T : Int → Prop} {f : Frm} (hc : (checkP p).2.2 = 0) (hg : p[k]? = some g) (h : Safe p k g T f) (hs : f.st = 0) :
    ∃ (hk : k < p.length) (i : Nat) (hi : i < p[k].code.length) (o a b : Int), f.pc = i ∧ i < 200 ∧ p[k].code[i] = (o, a, b) ∧ mayZ o a b = true ∧ knowsF p f (o, a, b) = true ∧ depthF p f (o, a, b) = 0 ∧ doF p f = trapT (execF p f (o, a, b)) ∧ f.stk.length ≤ 16 ∧ f.loc.length ≤ 1000 ∧ f.slt.length ≤ 1000 := by
  obtain ⟨hk, rfl⟩ := List.getElem?_eq_some_iff.1 hg
  have hmem : p[k] ∈ p := List.getElem_mem hk
  have hS := solved_in hc hk
  have hok := check_ok hc hmem
  have hfi := (fun_facts ((check_facts hc).2 _ hmem)).2.1
  have hmf := ((mayP_iff p).1 (check_facts hc).1).2.2 _ hmem
  obtain ⟨i, hpc, hD⟩ := h.at_
  have hiD : i < p[k].code.length := by
    have := (List.getElem?_eq_some_iff.1 hD).1
    rw [hS.dl] at this
    exact this
  have hx : p[k].code[i] ∈ p[k].code := List.getElem_mem hiD
  have hmz := ((mayF_iff _).1 hmf).2.2.2 _ hx
  have h200 := ((mayF_iff _).1 hmf).2.2.1
  have hhd := ((mayF_iff _).1 hmf).1
  obtain ⟨⟨a0, a1⟩, ⟨b0, b1⟩, c0, c1⟩ := (headB_iff _ _ _).1 hhd
  have hfo := fields_ok (hfi _ hx)
  have hoff := hok.off _ hx
  have hdn := hS.done i _ hD (by omega)
  rw [grF_at hiD] at hdn
  change offI p p[k].code[i] ≤ (f.stk.length : Int) ∧ (f.stk.length : Int) - offI p p[k].code[i] + (rz p[k].code[i].1).q ≤ 16 ∧ ∀ t ∈ nextI p[k].code[i] i, t < p[k].code.length ∧ (depthsP p k)[t.toNat]? = some ((f.stk.length : Int) - offI p p[k].code[i] + (rz p[k].code[i].1).q) at hdn
  have hrg := (hS.range i _ hD).2
  have hcode : codeP p f.fn = p[k].code := by unfold codeP; rw [h.fn, Int.toNat_natCast, List.getElem?_eq_getElem hk]
  have hget : (codeP p f.fn).getD f.pc.toNat (0, 0, 0) = p[k].code[i] := by
    rw [hcode, hpc, Int.toNat_natCast, List.getD_eq_getElem?_getD, List.getElem?_eq_getElem hiD]; rfl
  have hkn : knowsF p f p[k].code[i] = true := by
    have hl := h.loc
    have hl2 := h.slt
    have ha := (may_node hmz).2.2
    have hb : 0 ≤ p[k].code[i].2.2 := by
      simp only [mayZ, Bool.and_eq_true, decide_eq_true_eq] at hmz
      exact hmz.2.1
    unfold knowsF hasI
    split
    · have := hfo.1 ‹_›
      simp; omega
    · split
      · have := hfo.2.2.1 ‹_›
        simp; omega
      · split
        · have := hfo.2.1 ‹_›
          simp; omega
        · rfl
  have hfe : fetchF p f = (p[k].code[i], 0) := by
    unfold fetchF
    rw [hget, if_pos (by rw [hcode, hpc]; simp [hasI]; omega), if_pos ⟨hmz, hkn⟩]
  have hde : depthF p f p[k].code[i] = 0 := by
    unfold depthF
    rw [if_neg (by omega), if_neg (by omega)]
  have hdo : doF p f = trapT (execF p f p[k].code[i]) := by
    unfold doF
    rw [if_neg (by rw [h.fn]; simp [hs, hasI]; omega)]
    unfold runF
    rw [hfe]
    simp only []
    rw [if_neg (by simp), hde, if_neg (by simp)]
    rfl
  have hl := h.loc
  have hl2 := h.slt
  generalize hz : p[k].code[i] = z at *
  obtain ⟨o, a, b⟩ := z
  exact ⟨hk, i, hiD, o, a, b, hpc, by omega, hz, hmz, hkn, hde, hdo, by omega, by omega, by omega⟩
/-- A child that is asked for stands in its slot. -/
theorem do_spawn {p : List Fun} {f : Frm} (hk : (doF p f).2.kd = 2) : ∃ m : Nat, (doF p f).2.sl = m ∧ ∃ h : m < (doF p f).1.slt.length, (doF p f).1.slt[m].st = 1 := by
  obtain ⟨_, h2, h3, h4, e⟩ := do_exec (.inr hk)
  rw [e] at hk
  have h13 := exec_two hk
  obtain ⟨_, hm, hkn⟩ := fetch_mem h2
  clear h2 h4
  generalize (fetchF p f).1 = x at *
  have ex : execF p f x = spawnF p f x.2.1 x.2.2 := by unfold execF; rw [if_neg (by omega), if_neg (by omega), if_pos h13]
  rw [ex] at hk e
  unfold knowsF at hkn
  rw [if_neg (by omega), if_pos h13, Bool.and_eq_true] at hkn
  have hsl := hkn.2
  simp [hasI] at hsl
  have h5 : ¬ (sltAt f x.2.2).st ≠ 0 := by
    intro h5
    unfold spawnF at hk
    rw [if_pos h5] at hk
    simp [act0] at hk
  have es : spawnF p f x.2.1 x.2.2 = ({ f with slt := f.slt.set x.2.2.toNat { sltAt f x.2.2 with st := 1, kat := -1, kgn := 0 }, stk := f.stk.take (f.stk.length - (arP p x.2.1).toNat), spn := wrap64 (f.spn + 1), pc := f.pc + 1 },
    ⟨2, x.2.1, x.2.2, useZ f.seed 1 f.spn, f.stk.drop (f.stk.length - (arP p x.2.1).toNat)⟩, 0) := if_neg h5
  rw [e, es]
  refine ⟨x.2.2.toNat, by simp only; omega, ?_, ?_⟩
  · simp only [List.length_set]; omega
  · simp
/-- A frame that ended has ended. -/
theorem do_fin {p : List Fun} {f : Frm} (hk : (doF p f).2.kd = 4) : (doF p f).1.st = 2 := by
  unfold doF at hk ⊢
  by_cases h1 : f.st ≠ 0 ∨ hasI p.length f.fn = false
  · rw [if_pos h1] at hk; simp [act0] at hk
  rw [if_neg h1] at hk ⊢
  unfold runF at hk ⊢
  by_cases h2 : (fetchF p f).2 ≠ 0
  · rw [if_pos h2]; rfl
  rw [if_neg h2] at hk ⊢
  by_cases h3 : depthF p f (fetchF p f).1 ≠ 0
  · rw [if_pos h3]; rfl
  rw [if_neg h3] at hk ⊢
  by_cases h4 : (execF p f (fetchF p f).1).2.2 ≠ 0
  · rw [if_pos h4]; rfl
  rw [if_neg h4] at hk ⊢
  generalize (fetchF p f).1 = x at *
  unfold execF at hk ⊢
  by_cases h16 : x.1 = 16
  · rw [if_pos h16] at hk; simp [act0] at hk
  rw [if_neg h16] at hk ⊢
  by_cases h15 : x.1 = 15
  · rw [if_pos h15]; rfl
  rw [if_neg h15] at hk ⊢
  exfalso
  unfold spawnF joinF compF at hk
  repeat' split at hk
  all_goals simp [act0, actK] at hk
/-- A child's end, given. -/
theorem give_is {f : Frm} {m : Nat} (h : m < f.slt.length) (h1 : f.slt[m].st = 1) (h0 : f.st = 0) (o : OutP) : giveO f m o = { f with slt := f.slt.set m ⟨2, -1, 0, o.1, o.2.1, o.2.2⟩ } := by
  have hs : sltAt f m = f.slt[m] := by unfold sltAt; rw [Int.toNat_natCast, List.getD_eq_getElem?_getD, List.getElem?_eq_getElem h]; rfl
  unfold giveO giveF
  rw [if_pos ⟨by simp [hasI]; omega, by rw [hs]; exact h1⟩, if_neg (by rw [h0]; rintro ⟨e, _⟩; cases e), Int.toNat_natCast]
/-- What is known of a round. -/
structure Rnd (p : List Fun) (k : Nat) (g : Fun) (m : Nat) (F : Frm) (a : ActP) (R : Option (OutP × Nat)) : Prop where
  bnd : Bnd F
  inv : Inv (GoodT p) F
  zz : InvZ F
  arl : a.ar.length ≤ 16
  kd : a.kd = 1 ∨ a.kd = 2 ∨ a.kd = 4
  kid : a.kd = 2 → (mayP p = true ∧ hasI p.length a.fn = true ∧ isZ a.sd = true) ∧ (∃ j : Nat, a.sl = j ∧ ∃ h : j < F.slt.length, F.slt[j].st = 1) ∧ F.st = 0 ∧
    (∃ (k2 : Nat) (g2 : Fun), p[k2]? = some g2 ∧ Safe p k2 g2 (GoodT p) (newF p a.fn a.ar a.sd).1 ∧ (newF p a.fn a.ar a.sd).1.st = 0 ∧ Inv (GoodT p) (newF p a.fn a.ar a.sd).1 ∧ InvZ (newF p a.fn a.ar a.sd).1) ∧
    (runT p m [((newF p a.fn a.ar a.sd).1, 0)] = none → R = none) ∧
    ∀ (o : OutP) (m' : Nat), runT p m [((newF p a.fn a.ar a.sd).1, 0)] = some (o, m') → m' < m ∧ R = runT p m' [(giveO F a.sl o, 0)] ∧ Safe p k g (GoodT p) (giveO F a.sl o) ∧ Inv (GoodT p) (giveO F a.sl o) ∧ InvZ (giveO F a.sl o) ∧ (giveO F a.sl o).st = 0
  fin : a.kd = 4 → F.st = 2 ∧ R = some (outF F, m)
  on : a.kd = 1 → F.st = 0 ∧ Safe p k g (GoodT p) F ∧ R = runT p m [(F, 0)]
theorem rnd_of {p : List Fun} {k m : Nat} {g : Fun} {F F1 : Frm} {a : ActP} {R : Option (OutP × Nat)} (hc : (checkP p).2.2 = 0) (hg : p[k]? = some g) (hs : Safe p k g (GoodT p) F) (hi : Inv (GoodT p) F) (hz : InvZ F) (hst : F.st = 0) (hR : R = runT p (m + 1) [(F, 0)]) (hFa : doF p F = (F1, a)) : Rnd p k g m F1 a R := by
  obtain ⟨_, i, _, o, x, y, _, _, _, _, _, _, _, l1, l2, l3⟩ := safe_ready hc hg hs hst
  obtain ⟨d1, d2, d3⟩ := do_inv (p := p) hi (good0 p) (good1 p) (good2 p) (goodT p)
  have dz := do_z (p := p) hz
  obtain ⟨b1, b2⟩ := Bnd.do (p := p) (f := F) ⟨l1, l2, l3⟩
  obtain ⟨s1, s2, s3⟩ := safe_step hc hg hs hst 0 (0, 0) (good0 p)
  have hss := fun o : OutP => safe_step hc hg hs hst o.1 o.2
  have hkd := do_kid (f := F) hc d2
  have hsp := do_spawn (p := p) (f := F)
  have hfi := do_fin (p := p) (f := F)
  have hs1 := do_st (p := p) (f := F)
  have e1 := step_kid (p := p) (f := F) (sl := 0) (ts := [])
  have e2 := step_fin (p := p) (f := F) (sl := 0)
  have e3 := step_on (p := p) (f := F) (sl := 0) (ts := [])
  unfold stepP at s1 s2 s3 hss
  rw [hFa] at d1 d2 d3 dz b1 b2 s1 s2 s3 hkd hsp hfi hs1 e1 e2 e3
  simp only [hFa] at hss
  simp only at d1 d2 d3 dz b1 b2 s1 s2 s3 hkd hsp hfi hs1 e1 e2 e3
  refine ⟨b1, d1, dz, b2, ?_, fun h2 => ?_, fun h4 => ?_, fun h1 => ?_⟩
  · by_cases h2 : a.kd = 2
    · exact .inr (.inl h2)
    · rw [if_neg h2] at s1
      exact s1
  · have hkid := hkd h2
    obtain ⟨hm, hsz, kk, hkk, hfn, _, _, _, _⟩ := new_facts hkid
    have hnew := new_safe hc hkid (T := GoodT p)
    have hni := new_inv (T := GoodT p) (good0 p) (p := p) (fn := a.fn) (s := a.sd) d2
    have hnz := new_z p a.fn a.ar a.sd
    obtain ⟨k2, g2, hg2, hs2, hst2⟩ := hnew
    have hst1 := hs1 (.inr h2)
    refine ⟨⟨hm, by rw [hfn]; simp [hasI]; omega, hsz⟩, hsp h2, hst1, ⟨k2, g2, hg2, hs2, hst2, hni, hnz⟩, fun hn => ?_, fun o m' ho => ?_⟩
    · rw [hR, runT_inl (e1 h2), runT_behind]
      show (match runT p m [(kidF p a, 0)] with | none => none | some (o, m) => runT p m (backT a.sl o [(F1, 0)])) = none
      unfold kidF
      rw [hn]
    · have hv := run_value hc m k2 g2 _ o m' hg2 hs2 hni hst2 ho
      have hs3 := hss o hv.2.1
      simp only [if_pos h2] at hs3
      have hgs := give_st hst1 a.sl o
      refine ⟨runT_left ho, ?_, hs3.2.2 hgs, give_inv d1 _ hv, give_z dz _ _, hgs⟩
      rw [hR, runT_inl (e1 h2), runT_behind]
      show (match runT p m [(kidF p a, 0)] with | none => none | some (o, m) => runT p m (backT a.sl o [(F1, 0)])) = _
      unfold kidF
      rw [ho]
      rfl
  · exact ⟨hfi h4, by rw [hR, runT_inr (e2 h4)]⟩
  · have hst1 := hs1 (.inl h1)
    rw [if_neg (by omega)] at s3
    exact ⟨hst1, s3 hst1, by rw [hR, runT_inl (e3 (by omega) (by omega))]⟩
end Go.Proofs.YtoeinpiekfmbgaaGreatDoor

/- Layer 9: the document's Do at a frame that is safe. -/
namespace Go.Proofs.YtoeinpiekfmbgaaGreatDoor
set_option linter.unusedVariables false
set_option linter.unusedSimpArgs false
open Gm Go.RowKit Go.ChangeShapes Go.WideShapes Go.ChangeAt Go.Sort

theorem r9do_any {C k : Nat} {g : Fun} {A : Option Addr} {p : List Fun} {f : Frm} {A1 A2 A3 : Option Addr} {c1 c2 c3 : Nat} (c : Nat) (w : World) (hc : (checkP p).2.2 = 0) (hg : p[k]? = some g) (hs : Safe p k g (GoodT p) f) (hst : f.st = 0) (hZ : InvZ f) (hp : ProgAt w C A p) (hC : C ≤ w.heap.size) (hf : FrmAt w w.heap.size (fv f (.slice A1 f.stk.length c1) (.slice A2 f.loc.length c2) (.slice A3 f.slt.length c3)) f) :
    Calls Tryz.prog 30 #[.slice A p.length c, fv f (.slice A1 f.stk.length c1) (.slice A2 f.loc.length c2) (.slice A3 f.slt.length c3)] w (TwoR w w.heap.size (doF p f).1 (doF p f).2) := by
  obtain ⟨hk, i, hi, o, a, b, hpc, h200, hx, hm, hkn, hde, hdo, l1, l2, l3⟩ := safe_ready hc hg hs hst
  rw [hdo]
  have hl : FrmLen f := ⟨Nat.le_trans l1 (by decide), l2, l3⟩
  by_cases hh : o = 13 ∨ o = 14 ∨ o = 15 ∨ o = 16 ∨ (o = 6 ∧ gNorm ((f.stk.drop ((f.stk.length : Int) - offI p (o, a, b)).toNat).getD 1 (0, 0)) = 0)
  · exact r9do_x c w hp hC hf (Nat.le_refl _) hl hst hk hs.fn hi hpc h200 hx hm hkn hde hZ hh
  · exact r9do_w c w hp hC hf (Nat.le_refl _) hl hst hk hs.fn hi hpc h200 hx hm hkn hde hZ ⟨fun e => hh (.inl e), fun e => hh (.inr (.inl e)), fun e => hh (.inr (.inr (.inl e))), fun e => hh (.inr (.inr (.inr (.inl e)))), fun e e2 => hh (.inr (.inr (.inr (.inr ⟨e, e2⟩))))⟩
end Go.Proofs.YtoeinpiekfmbgaaGreatDoor

/- Layer 9: what the document's New makes, on the way. -/
namespace Go.Proofs.YtoeinpiekfmbgaaGreatDoor
set_option linter.unusedVariables false
set_option linter.unusedSimpArgs false
open Gm Go.RowKit Go.ChangeShapes Go.WideShapes Go.ChangeAt Go.Sort

theorem wpList_append_ss {w : World} {ops : Array Oper} {rest : List Oper} {o : Oper} {a : Act} {Q : Exit → Act → World → Prop}
    (hg : o.guard = none) (s x : Operand) (hop : o.op = Op.call { callee := Callee.builtin Builtin.append, args := #[s, x], argTypes := #[41, 41] })
    (B : Nat) (v : Value) (l : List Slt) (hs : a.eval s = v) (own : OwnSs w B v l) {A : Option Addr} {k : List Slt} {n c C : Nat} (hn : k.length = n) (hx : a.eval x = .slice A n c) (hc : SAt w C A k)
    (h1 : 1 ≤ n) (hlen : l.length + n ≤ 1000000) (hB : B ≤ w.heap.size)
    (h : ∀ v' w', OwnSs w' B v' (l ++ k) → w.grownBy w' v.ownBlock → (∀ b, v'.ownBlock = some b → v.ownBlock = some b ∨ w.heap.size ≤ b) → wpList Tryz.prog ops Q rest (a.put o.dst v') w') : wpList Tryz.prog ops Q (o :: rest) a w := by
  subst hn
  obtain ⟨b, off, rfl, hbC, hf⟩ := hc (by omega)
  obtain ⟨q, hi, hz0, hz1, hz2⟩ := info_parts infoS
  refine wpList_append_lies _ hg s x 41 hop B 75 q (.agg #[.int .i64 0, .int .i64 0, .int .i64 0, .int .i64 0, .int .i64 0, .int .i64 0]) 6 48 Tryz.underlying41 hi hz0 hz1 hz2 rfl (by decide) v l.length (flatS l) hs own ⟨b, off, none⟩ k.length c
    (flatS k) hx (flatS_len k) (newsS hf) oneS (by omega) (by unfold maxLen; omega) (by omega) hB _ rfl ?_
  intro g cap w' k1 k2 k3 k4
  refine h _ w' ?_ k2 ?_
  · have e : flatS (l ++ k) = flatS l ++ flatS k := by simp [flatS]
    unfold OwnSs
    rw [List.length_append, e]
    exact k1
  · intro b hb
    simp only [Value.ownBlock, Option.some.injEq] at hb
    subst hb
    rcases k3 with k3 | k3
    · exact .inl k3
    · exact .inr (by omega)
abbrev frmN (k s : Int) (L : List V) (S : List Slt) : Frm := ⟨k, 0, [], L, S, s, 0, 0, 0, 0, 0, 0, 0, -1, 0, 0⟩
abbrev sz0 : Array Value := #[.int .i64 0, .int .i64 0, .int .i64 0, .int .i64 0, .int .i64 0, .int .i64 0]
theorem tyUF : 57 ≠ 45 := by decide
theorem tyUV : 57 ≠ 30 := by decide
theorem tyUS : 57 ≠ 75 := by decide
/-- Locals are laid, one by one. -/
structure NwL (w : World) (gX gF : Nat) (xs : Array Value) (k s : Int) (P : List V) (j : Nat) (A9 : Option Addr) (c9 : Nat) (W : World) : Prop where
  hx : Held W gX 57 xs
  hf : Held W gF 45 (fcA (frmN k s P []) (.slice none 0 0) (.slice A9 j c9) (.slice none 0 0))
  h8 : Held W w.heap.size 45 fz0
  ol : OwnVs W w.heap.size (.slice A9 j c9) P
  bw : Below w.heap.size w W
  ne : w.heap.size < gF
theorem NwL.below {w W W' : World} {gX gF j c9 : Nat} {xs : Array Value} {k s : Int} {P : List V} {A9 : Option Addr} (h : NwL w gX gF xs k s P j A9 c9 W) (hb : Below W.heap.size W W') : NwL w gX gF xs k s P j A9 c9 W' :=
  ⟨h.hx.below hb, h.hf.below hb, h.h8.below hb, row_later h.ol hb, Below.step h.bw hb, h.ne⟩
theorem NwL.app {w W u : World} {gX gF j c9 c' n' : Nat} {xs : Array Value} {k s : Int} {P K : List V} {A9 A' : Option Addr} (h : NwL w gX gF xs k s P j A9 c9 W) (k1 : OwnVs u w.heap.size (.slice A' n' c') K) (k2 : W.grownBy u (Value.slice A9 j c9).ownBlock) :
    NwL w gX gF xs k s K n' A' c' (u.setCell ⟨gF, 3, none⟩ (.slice A' n' c')) := by
  have nx : (Value.slice A9 j c9).ownBlock ≠ some gX := fun e => row_apart h.ol h.hx tyUV _ e rfl
  have nf : (Value.slice A9 j c9).ownBlock ≠ some gF := fun e => row_apart h.ol h.hf tyFV _ e rfl
  have n8 : (Value.slice A9 j c9).ownBlock ≠ some w.heap.size := fun e => row_apart h.ol h.h8 tyFV _ e rfl
  have hne := h.ne
  have hx := h.hx.grown k2 nx
  have hf := h.hf.grown k2 nf
  have h8 := h.h8.grown k2 n8
  have far : ∀ q, q ≠ gF → (u.setCell ⟨gF, 3, none⟩ (.slice A' n' c')).heap[q]? = u.heap[q]? := fun q hq => Below.heap_setCell u ⟨gF, 3, none⟩ _ q hq
  exact ⟨(far _ (held_ne hx hf tyUF)).trans hx, hf.set_at 3 _, (far _ (by omega)).trans h8, row_same k1 fun b e => far b (row_apart k1 hf tyFV b e),
    (h.bw.grown k2 h.bw.size (fun q e => (h.ol.lt q e).1)).setCell (p := ⟨gF, 3, none⟩) (by show w.heap.size ≤ gF; omega) _, hne⟩
/-- Slots are laid, one by one. -/
structure NwS (w : World) (gX gF : Nat) (xs : Array Value) (k s : Int) (P : List V) (lv : Value) (S : List Slt) (j : Nat) (A9 : Option Addr) (c9 : Nat) (W : World) : Prop where
  hx : Held W gX 57 xs
  hf : Held W gF 45 (fcA (frmN k s P S) (.slice none 0 0) lv (.slice A9 j c9))
  h8 : Held W w.heap.size 45 fz0
  ol : OwnVs W w.heap.size lv P
  os : OwnSs W w.heap.size (.slice A9 j c9) S
  bw : Below w.heap.size w W
  ne : w.heap.size < gF
theorem NwL.slots {w W : World} {gX gF j c9 : Nat} {xs : Array Value} {k s : Int} {P : List V} {A9 : Option Addr} (h : NwL w gX gF xs k s P j A9 c9 W) : NwS w gX gF xs k s P (.slice A9 j c9) [] 0 none 0 W :=
  ⟨h.hx, h.hf, h.h8, h.ol, OwnSs.nil _ _, h.bw, h.ne⟩
theorem NwS.below {w W W' : World} {gX gF j c9 : Nat} {xs : Array Value} {k s : Int} {P : List V} {lv : Value} {S : List Slt} {A9 : Option Addr} (h : NwS w gX gF xs k s P lv S j A9 c9 W) (hb : Below W.heap.size W W') : NwS w gX gF xs k s P lv S j A9 c9 W' :=
  ⟨h.hx.below hb, h.hf.below hb, h.h8.below hb, row_later h.ol hb, row_later h.os hb, Below.step h.bw hb, h.ne⟩
theorem NwS.app {w W u : World} {gX gF j c9 c' n' : Nat} {xs : Array Value} {k s : Int} {P : List V} {lv : Value} {S K : List Slt} {A9 A' : Option Addr} (h : NwS w gX gF xs k s P lv S j A9 c9 W) (k1 : OwnSs u w.heap.size (.slice A' n' c') K) (k2 : W.grownBy u (Value.slice A9 j c9).ownBlock) :
    NwS w gX gF xs k s P lv K n' A' c' (u.setCell ⟨gF, 4, none⟩ (.slice A' n' c')) := by
  have nx : (Value.slice A9 j c9).ownBlock ≠ some gX := fun e => row_apart h.os h.hx tyUS _ e rfl
  have nf : (Value.slice A9 j c9).ownBlock ≠ some gF := fun e => row_apart h.os h.hf tyFS _ e rfl
  have n8 : (Value.slice A9 j c9).ownBlock ≠ some w.heap.size := fun e => row_apart h.os h.h8 tyFS _ e rfl
  have hne := h.ne
  have hx := h.hx.grown k2 nx
  have hf := h.hf.grown k2 nf
  have h8 := h.h8.grown k2 n8
  have ol := row_off k2 h.ol (fun b e e2 => rows_ne h.ol h.os tyVS b e2 e)
  have far : ∀ q, q ≠ gF → (u.setCell ⟨gF, 4, none⟩ (.slice A' n' c')).heap[q]? = u.heap[q]? := fun q hq => Below.heap_setCell u ⟨gF, 4, none⟩ _ q hq
  exact ⟨(far _ (held_ne hx hf tyUF)).trans hx, hf.set_at 4 _, (far _ (by omega)).trans h8, row_same ol fun b e => far b (row_apart ol hf tyFV b e), row_same k1 fun b e => far b (row_apart k1 hf tyFS b e),
    (h.bw.grown k2 h.bw.size (fun q e => (h.os.lt q e).1)).setCell (p := ⟨gF, 4, none⟩) (by show w.heap.size ≤ gF; omega) _, hne⟩
theorem NwS.done {w W : World} {gX gF j c9 : Nat} {xs : Array Value} {k s : Int} {P : List V} {lv : Value} {S : List Slt} {A9 : Option Addr} (h : NwS w gX gF xs k s P lv S j A9 c9 W) :
    OwnF (W.setRow w.heap.size (fcA (frmN k s P S) (.slice none 0 0) lv (.slice A9 j c9))) w.heap.size (.agg (fcA (frmN k s P S) (.slice none 0 0) lv (.slice A9 j c9))) (frmN k s P S) :=
  ⟨_, _, _, rfl, OwnVs.nil _ _, row_same h.ol fun b e => setRow_far _ _ _ b (row_apart h.ol h.h8 tyFV b e), row_same h.os fun b e => setRow_far _ _ _ b (row_apart h.os h.h8 tyFS b e)⟩
theorem one_at {w : World} (x y : Int) : VAt (w.alloc (.cells #[.int .i64 x, .int .i64 y] 30)) (w.alloc (.cells #[.int .i64 x, .int .i64 y] 30)).heap.size (some ⟨w.heap.size, 0, none⟩) [(x, y)] := fun _ => by
  have h := Held.new w 30 #[.int .i64 x, .int .i64 y]
  refine ⟨_, _, rfl, h.lt, fun j hj => ?_⟩
  obtain rfl : j = 0 := by simpa using hj
  exact ⟨h.cell 0, h.cell 1⟩
theorem slot_at {w : World} : SAt (w.alloc (.cells sz0 75)) (w.alloc (.cells sz0 75)).heap.size (some ⟨w.heap.size, 0, none⟩) [slt0] := fun _ => by
  have h := Held.new w 75 sz0
  refine ⟨_, _, rfl, h.lt, fun j hj => ?_⟩
  obtain rfl : j = 0 := by simpa using hj
  exact ⟨h.cell 0, h.cell 1, h.cell 2, h.cell 3, h.cell 4, h.cell 5⟩
end Go.Proofs.YtoeinpiekfmbgaaGreatDoor

/- Layer 9: the document's New. -/
namespace Go.Proofs.YtoeinpiekfmbgaaGreatDoor
set_option linter.unusedVariables false
set_option linter.unusedSimpArgs false
open Gm Go.RowKit Go.ChangeShapes Go.WideShapes Go.ChangeAt Go.Sort

set_option maxHeartbeats 2000000 in
set_option maxRecDepth 100000 in
theorem rnew_no {C : Nat} {A A2 : Option Addr} {p : List Fun} {args : List V} (c c2 : Nat) (fn s : Int) (w : World) (h : ProgAt w C A p) (hz : SizedP p) (hC : C ≤ w.heap.size) (hno : ¬ (mayP p = true ∧ hasI p.length fn = true ∧ isZ s = true)) :
    Calls Tryz.prog 13 #[.slice A p.length c, .int .i64 fn, .slice A2 args.length c2, .int .i64 s] w (NewQ w (newF p fn args s)) := by
  rw [newF_no hno]
  have h8 := Held.new w 45 fz0
  have hw0 : Below w.heap.size w (w.alloc (.cells fz0 45)) := (Below.refl _ _).alloc (Nat.le_refl _) _
  have CM := Lib.hid (pmay_any c (w.alloc (.cells fz0 45)) (h.below hw0 hC) hz (Nat.le_trans hC hw0.size))
  have IS := fun W => Lib.hid (is_any s W)
  have HFz := Lib.hid (fz0_own)
  have hcs : (mayP p = false) ∨ (mayP p = true ∧ decide (fn < 0) = true) ∨ (mayP p = true ∧ decide (fn < 0) = false ∧ decide ((p.length : Int) ≤ fn) = true) ∨ (mayP p = true ∧ decide (fn < 0) = false ∧ decide ((p.length : Int) ≤ fn) = false ∧ isZ s = false) := by
    by_cases h1 : mayP p = true
    · by_cases h2 : fn < 0
      · exact .inr (.inl ⟨h1, by simpa using h2⟩)
      · by_cases h3 : (p.length : Int) ≤ fn
        · exact .inr (.inr (.inl ⟨h1, by simpa using h2, by simpa using h3⟩))
        · refine .inr (.inr (.inr ⟨h1, by simpa using h2, by simpa using h3, ?_⟩))
          cases h4 : isZ s with
          | false => rfl
          | true => exact absurd ⟨h1, by simp [hasI]; omega, h4⟩ hno
    · exact .inl (by simpa using h1)
  clear h hz hC hno
  generalize mayP p = m at *
  generalize isZ s = iz at *
  generalize p.length = pl at *
  generalize args.length = al at *
  go_enter Tryz.func13, Tryz.ntmps13
  go_upto_region 1 with (fail)
  generalize w.alloc (.cells fz0 45) = W0 at *
  rcases hcs with rfl | ⟨rfl, e1⟩ | ⟨rfl, e1, e2⟩ | ⟨rfl, e1, e2, rfl⟩
  all_goals
    go_wp2_with (first
      | (go_at_call 26; (with_reducible refine CM.out.mono ?_); rintro _ u ⟨rfl, hb⟩; have hx := h8.below hb; have hbw := Below.step hw0 hb)
      | (go_at_call 27; (with_reducible refine (IS _).out.mono ?_); rintro _ u2 ⟨rfl, rfl⟩)
      | (refine wpList_store_row rfl 45 _ _ rfl w.heap.size fz0 rfl rfl _ _ hx (by kernel_rfl) rfl (by simp [Value.oneCell']) ?_))
    have l1 := run_loadVar_row (P := Tryz.prog) _ w.heap.size 45 45 _ (0, 0) _ (hx.rowSelf fz0) Tryz.underlying45 rfl (by kernel_rfl)
    exact bodyPost_ret (results_ct rfl _ _ rfl rfl l1) rfl ⟨_, rfl, HFz.out _ _, below_setRow hbw (Nat.le_refl _) _⟩
set_option maxHeartbeats 4000000 in
set_option maxRecDepth 100000 in
theorem rnew_yes {C D : Nat} {A A2 : Option Addr} {p : List Fun} {args : List V} (c c2 : Nat) (fn s : Int) (w : World) (h : ProgAt w C A p) (hz : SizedP p) (hC : C ≤ w.heap.size) (ha : VAt w D A2 args) (hl : args.length ≤ 1000) (hD : D ≤ w.heap.size) (h1 : mayP p = true) (h2 : hasI p.length fn = true) (h3 : isZ s = true) :
    Calls Tryz.prog 13 #[.slice A p.length c, .int .i64 fn, .slice A2 args.length c2, .int .i64 s] w (NewQ w (newF p fn args s)) := by
  obtain ⟨k, rfl, hk⟩ : ∃ k : Nat, fn = k ∧ k < p.length := by
    simp [hasI] at h2
    exact ⟨fn.toNat, by omega, by omega⟩
  have hR := newF_at (args := args) h1 h2 h3 (g := p[k]) (by rw [Int.toNat_natCast, List.getElem?_eq_getElem hk])
  generalize newF p k args s = R at *
  have HR := Lib.hid hR
  clear hR
  have hmf := ((mayP_iff p).1 h1).2.2 p[k] (List.getElem_mem hk)
  have hhd : headB p[k].ar p[k].lo p[k].sl = true := by
    unfold mayF at hmf
    simp at hmf
    exact hmf.1.1
  obtain ⟨⟨a0, a1⟩, ⟨b0, b1⟩, c0, c1⟩ := (headB_iff _ _ _).1 hhd
  have h8 := Held.new w 45 fz0
  have hw0 : Below w.heap.size w (w.alloc (.cells fz0 45)) := (Below.refl _ _).alloc (Nat.le_refl _) _
  have CM := Lib.hid (pmay_any c (w.alloc (.cells fz0 45)) (h.below hw0 hC) hz (Nat.le_trans hC hw0.size))
  have IS := fun W => Lib.hid (is_any s W)
  rw [h1] at CM
  rw [h3] at IS
  have MY := fun a b W => Lib.hid (rgmay_any a b W)
  have HFz := Lib.hid (fz0_own)
  have HP : ∀ W, Below w.heap.size w W → Hid (∃ b off, A = some ⟨b, off, none⟩ ∧ b < C ∧ FunAt W C b (off + k * 4) p[k]) := fun W hb => by
    obtain ⟨b, off, e1, hbl, hf⟩ := (h.below hb hC) (by omega)
    exact Lib.hid ⟨b, off, e1, hbl, hf k hk⟩
  have HA := Lib.hid (fun W (hb : Below w.heap.size w W) => ha.below hb hD)
  have HD := Lib.hid hD
  have s0 : decide ((k : Int) < 0) = false := by simp
  have s1 : decide ((p.length : Int) ≤ k) = false := by simp; omega
  have hk2 : (k : Int) < p.length := by omega
  have HL := Lib.hid hl
  generalize p[k] = g at *
  obtain ⟨ar, lo, sl, code⟩ := g
  simp only at a0 a1 b0 b1 c0 c1
  clear hmf hhd h hz ha hl h1 h2 h3 hk hC hD
  generalize hnL : args.length = nL at *
  generalize hpL : p.length = pL at *
  go_enter Tryz.func13, Tryz.ntmps13
  go_upto_region 1 with (fail)
  generalize w.alloc (.cells fz0 45) = W0 at *
  go_upto_region 3 with (first
    | (go_at_call 26; (with_reducible refine CM.out.mono ?_); rintro _ u ⟨rfl, hb⟩; have hx := h8.below hb; have hbw := Below.step hw0 hb)
    | (go_at_call 27; (with_reducible refine (IS _).out.mono ?_); rintro _ u2 ⟨rfl, rfl⟩))
  obtain ⟨b, off, e1, hbl, hf⟩ := (HP _ hbw).out
  subst e1
  obtain ⟨f0, f1, f2, Ac, cc, f3, _⟩ := hf
  simp only at f0 f1 f2 f3
  have hxl := hx.lt
  clear hb h8 hw0 CM IS HP
  go_upto_region 4 with fail
  have g0 := hx.alloc (.cells #[.int .i64 ar, .int .i64 lo, .int .i64 sl, .slice Ac code.length cc] 57)
  have g1 := Held.new u 57 #[.int .i64 ar, .int .i64 lo, .int .i64 sl, .slice Ac code.length cc]
  have gb := hbw.alloc hbw.size (.cells #[.int .i64 ar, .int .i64 lo, .int .i64 sl, .slice Ac code.length cc] 57)
  clear hx hbw f0 f1 f2 f3
  generalize u.alloc (.cells #[.int .i64 ar, .int .i64 lo, .int .i64 sl, .slice Ac code.length cc] 57) = W1 at *
  generalize u.heap.size = fb at *
  generalize (Value.slice Ac code.length cc) = cv at *
  have y0 := g1.cell 0
  have y1 := g1.cell 1
  simp at y0 y1
  have hcs : (decide (lo < ar) = true ∧ ¬ (ar ≤ lo)) ∨ (decide (lo < ar) = false ∧ ((nL : Int) != ar) = true ∧ ar ≠ nL) ∨ (decide (lo < ar) = false ∧ ((nL : Int) != ar) = false ∧ ar ≤ lo ∧ ar = nL) := by
    by_cases q1 : lo < ar
    · exact .inl ⟨by simpa using q1, by omega⟩
    · by_cases q2 : ar = nL
      · exact .inr (.inr ⟨by simpa using q1, by simpa using q2.symm, by omega, q2⟩)
      · exact .inr (.inl ⟨by simpa using q1, by simpa using fun e : (nL : Int) = ar => q2 e.symm, q2⟩)
  rcases hcs with ⟨q1, q2⟩ | ⟨q1, q2, q3⟩ | ⟨q1, q2, q3, q4⟩
  · obtain rfl : R = (frm0, false) := by rw [HR.out, if_neg (fun e => q2 (by have := e.1; omega))]
    clear q2
    go_wp2_with (first
      | (refine wpList_store_row rfl 45 _ _ rfl w.heap.size fz0 rfl rfl _ _ g0 (by kernel_rfl) rfl (by simp [Value.oneCell']) ?_))
    have l1 := run_loadVar_row (P := Tryz.prog) _ w.heap.size 45 45 _ (0, 0) _ (g0.rowSelf fz0) Tryz.underlying45 rfl (by kernel_rfl)
    exact bodyPost_ret (results_ct rfl _ _ rfl rfl l1) rfl ⟨_, rfl, HFz.out _ _, below_setRow gb (Nat.le_refl _) _⟩
  · obtain rfl : R = (frm0, false) := by rw [HR.out, if_neg (fun e => q3 (by have := e.2.1; omega))]
    clear q3
    go_wp2_with (first
      | (refine wpList_store_row rfl 45 _ _ rfl w.heap.size fz0 rfl rfl _ _ g0 (by kernel_rfl) rfl (by simp [Value.oneCell']) ?_))
    have l1 := run_loadVar_row (P := Tryz.prog) _ w.heap.size 45 45 _ (0, 0) _ (g0.rowSelf fz0) Tryz.underlying45 rfl (by kernel_rfl)
    exact bodyPost_ret (results_ct rfl _ _ rfl rfl l1) rfl ⟨_, rfl, HFz.out _ _, below_setRow gb (Nat.le_refl _) _⟩
  · obtain ⟨nl, hnl⟩ : ∃ n : Nat, lo = n := ⟨lo.toNat, by omega⟩
    obtain ⟨ns, hns⟩ : ∃ n : Nat, sl = n := ⟨sl.toNat, by omega⟩
    subst hnl hns
    have hwl : w.heap.size < W1.heap.size := g0.lt
    have f11 := Held.new W1 45 fz0
    go_upto_region 7 with (first
      | (guard_target = wpList _ _ _ (Oper.mk _ (Op.alloc 45) _ _ _ none :: _) _ _; refine wpList_alloc_arr rfl 45 rfl fz0 (by kernel_rfl) ?_)
      | (guard_target = wpList _ _ _ (Oper.mk _ (Op.store 45 (.tmp 11) _) _ _ _ none :: _) _ _; refine wpList_store_row rfl 45 _ _ rfl W1.heap.size (fcA (frmN k s [] []) (.slice none 0 0) (.slice none 0 0) (.slice none 0 0)) rfl rfl _ _ f11 (by kernel_rfl) rfl (by simp [Value.oneCell']) ?_))
    have hN0 : NwL w fb W1.heap.size #[.int .i64 ar, .int .i64 nl, .int .i64 ns, cv] k s [] 0 none 0 ((W1.alloc (.cells fz0 45)).setRow W1.heap.size (fcA (frmN k s [] []) (.slice none 0 0) (.slice none 0 0) (.slice none 0 0))) :=
      ⟨(g1.alloc _).row (Nat.ne_of_lt g1.lt) _, f11.rowSelf _, (g0.alloc _).row (Nat.ne_of_lt hwl) _, OwnVs.nil _ _, below_row (gb.alloc gb.size _) gb.size _, hwl⟩
    generalize (W1.alloc (.cells fz0 45)).setRow W1.heap.size (fcA (frmN k s [] []) (.slice none 0 0) (.slice none 0 0) (.slice none 0 0)) = W2 at *
    generalize W1.heap.size = gF at *
    obtain ⟨P, hP⟩ : ∃ P, P = args ++ List.replicate (nl - nL) ((0, 0) : V) := ⟨_, rfl⟩
    have hPl : P.length = nl := by rw [hP, List.length_append, List.length_replicate, hnL]; omega
    have HPL := Lib.hid hPl
    have HPE := Lib.hid hP
    have HNL := Lib.hid hnL
    have HB := Lib.hid (show nl ≤ 16 ∧ ns ≤ 8 ∧ nL ≤ nl by omega)
    have HQ := Lib.hid (And.intro q3 q4)
    have HN0 := Lib.hid hN0
    clear g0 g1 gb y0 y1 q1 q2 q3 q4 f11 hwl a0 a1 b0 b1 c0 c1 hP hPl hnL hN0 s0 s1 hk2 hpL hxl hbl
    go_wp2_with fail
    go_loopw [12] (fun iv wr => ∃ (j : Nat) (A9 : Option Addr) (c9 : Nat), iv = .int .i64 j ∧ j ≤ nl ∧ (∀ v ∈ P.take j, mayB v.1 v.2 = true) ∧ NwL w fb gF #[.int .i64 ar, .int .i64 nl, .int .i64 ns, cv] k s (P.take j) j A9 c9 wr) (fun iv _ => nl - (intOf iv).toNat)
    case atStart => exact ⟨0, none, 0, rfl, Nat.zero_le _, by simp, HN0.out⟩
    case round =>
      obtain ⟨j, A9, c9, rfl, hj, hall, hN⟩ := hrel
      have HALL := Lib.hid hall
      clear hall
      have hB := HB.out
      have y1 := hN.hx.cell 1
      have y2 := hN.hx.cell 2
      simp at y1 y2
      by_cases hlt : j < nl
      · have hlt2 : (j : Int) < nl := by omega
        have hjP : j < P.length := by rw [HPL.out]; exact hlt
        have hj16 : (j : Int) < 16 := by omega
        obtain ⟨x, y, hxy⟩ : ∃ x y, P[j] = (x, y) := ⟨_, _, rfl⟩
        have hwr : Below w.heap.size w wr := hN.bw
        have harg : j < nL → ∃ gA oA, A2 = some ⟨gA, oA, none⟩ ∧ wr.cell? ⟨gA, oA + j * 2, none⟩ = some (.int .i64 x) ∧ wr.cell? ⟨gA, oA + j * 2 + 1, none⟩ = some (.int .i64 y) ∧ gA < wr.heap.size := fun hja => by
          have hal : j < args.length := by rw [HNL.out]; exact hja
          obtain ⟨gA, oA, e, hg, hc⟩ := HA.out wr hwr (by omega)
          have he : args[j] = (x, y) := by
            rw [← hxy]
            simp only [HPE.out]
            rw [List.getElem_append_left hal]
          obtain ⟨q0, q1⟩ := hc j hal
          rw [he] at q0 q1
          exact ⟨gA, oA, e, q0, q1, Nat.lt_of_lt_of_le hg (Nat.le_trans HD.out hwr.size)⟩
        have hzero : ¬ j < nL → x = 0 ∧ y = 0 := fun hja => by
          have he : P[j] = (0, 0) := by
            simp only [HPE.out]
            rw [List.getElem_append_right (by rw [HNL.out]; omega), List.getElem_replicate]
          rw [hxy] at he
          exact ⟨congrArg Prod.fst he, congrArg Prod.snd he⟩
        have hbad : mayB x y = false → R = (frm0, false) := fun hm => by
          rw [HR.out, if_neg]
          rintro ⟨_, _, hall⟩
          by_cases hja : j < nL
          · have hal : j < args.length := by rw [HNL.out]; exact hja
            have he : args[j] = (x, y) := by
              rw [← hxy]
              simp only [HPE.out]
              rw [List.getElem_append_left hal]
            have := List.all_eq_true.1 hall _ (List.getElem_mem hal)
            rw [he] at this
            simp only at this
            rw [hm] at this
            cases this
          · obtain ⟨rfl, rfl⟩ := hzero hja
            revert hm
            decide
        have h13 := Held.new wr 30 #[.int .i64 0, .int .i64 0]
        have hb13 : Below wr.heap.size wr (wr.alloc (.cells #[.int .i64 0, .int .i64 0] 30)) := (Below.refl _ _).alloc (Nat.le_refl _) _
        have HXY := Lib.hid hxy
        have HBAD := Lib.hid hbad
        have HN := Lib.hid hN
        clear hxy hbad hN hwr
        go_upto_if 65 with (fail)
        go_cut [] (fun wx => Held wx wr.heap.size 30 #[.int .i64 x, .int .i64 y] ∧ Below wr.heap.size wr wx)
        case first =>
          generalize wr.alloc (.cells #[.int .i64 0, .int .i64 0] 30) = W3 at *
          by_cases hja : j < nL
          · obtain ⟨gA, oA, rfl, ca, cb, hgA⟩ := harg hja
            have hja2 : (j : Int) < nL := by omega
            have ca' := (hb13.cell (p := ⟨gA, _, none⟩) hgA).trans ca
            have cb' := (hb13.cell (p := ⟨gA, _, none⟩) hgA).trans cb
            have z0 := h13.cell 0
            have z1 := h13.cell 1
            have e0 := h13.fz 0
            have e1 := h13.fz 1
            have hl13 := h13.lt
            have hj0 : (0 : Int) ≤ j := Int.natCast_nonneg j
            simp at z0 z1
            clear ca cb harg hzero
            go_wp2_with fail
            go_meet
            case rel => exact ⟨(h13.set_at 0 _).set_at 1 _, (hb13.setCell (p := ⟨wr.heap.size, 0, none⟩) (Nat.le_refl _) _).setCell (p := ⟨wr.heap.size, 1, none⟩) (Nat.le_refl _) _⟩
          · obtain ⟨rfl, rfl⟩ := hzero hja
            have hja2 : decide ((j : Int) < nL) = false := by simp; omega
            clear harg hzero
            go_wp2_with fail
            go_meet
            case rel => exact ⟨h13, hb13⟩
        case rest =>
        obtain ⟨hv, hbv⟩ := hcut
        generalize wc = W4 at *
        have hN4 := HN.out.below hbv
        generalize wr.heap.size = gV at *
        clear h13 hb13 harg hzero HN hbv
        have v0 := hv.cell 0
        have v1 := hv.cell 1
        simp at v0 v1
        have MYv := MY x y W4
        by_cases hm : mayB x y = true
        · have hmy := hm
          rw [hm] at MYv
          clear hm
          go_upto_region 15 with (go_at_call 28; (with_reducible refine MYv.out.mono ?_); rintro _ u5 ⟨rfl, hb5⟩)
          have hN5 := hN4.below hb5
          have hv5 := hv.below hb5
          have w0 := hv5.cell 0
          have w1 := hv5.cell 1
          have x3 := hN5.hf.cell 3
          simp at w0 w1 x3
          have hN6 := hN5.below (w := w) (W' := u5.alloc (.cells #[.int .i64 x, .int .i64 y] 30)) ((Below.refl _ _).alloc (Nat.le_refl _) _)
          have HMY := Lib.hid hmy
          have HOA := Lib.hid hN6.ol
          have HVA := Lib.hid (one_at (w := u5) x y)
          have HBB := Lib.hid hN6.bw.size
          have HLE := Lib.hid (show (P.take j).length + 1 ≤ 1000000 by rw [List.length_take, HPL.out]; omega)
          have HF6 := Lib.hid hN6.hf
          have HNE : Hid ((Value.slice A9 j c9).ownBlock ≠ some gF) := Lib.hid (fun e => row_apart hN6.ol hN6.hf tyFV _ e rfl)
          have HN6 := Lib.hid hN6
          have HTK := Lib.hid (show P.take (j + 1) = P.take j ++ [(x, y)] by rw [List.take_succ_eq_append_getElem hjP, HXY.out])
          have HKL := Lib.hid (show (P.take j ++ [(x, y)]).length = j + 1 by rw [List.length_append, List.length_take, HPL.out]; simp; omega)
          clear hN4 hv v0 v1 MYv hb5 hN5 hv5 hN6 HXY HBAD hmy
          generalize P.take j = L at *
          go_wp2_with (at_builtin; refine wpList_append_vs (k := [(x, y)]) (n := 1) rfl _ _ rfl w.heap.size _ L rfl HOA.out rfl rfl HVA.out (Nat.le_refl _) HLE.out HBB.out ?_; intro v' u6 k1 k2 k3; obtain ⟨A', c', rfl, _⟩ := k1.lies; generalize hK : L ++ [(x, y)] = K at *; have hf6 := HF6.out.grown k2 HNE.out; have q3 := hf6.cell 3; have z3 := hf6.fz 3; have ql := hf6.lt; simp at q3; have HKE := Lib.hid hK; have K1 := Lib.hid k1; have K2 := Lib.hid k2; clear k1 k2 k3 hf6 hK)
          go_roundw
          case rel =>
            refine ⟨j + 1, A', c', by go_num, by omega, ?_, ?_⟩
            · rw [HTK.out, ← HKE.out]
              intro v hv
              rcases List.mem_append.1 hv with h | h
              · exact HALL.out v h
              · simp only [List.mem_singleton] at h
                subst h
                exact HMY.out
            · have h9 := HN6.out.app K1.out K2.out
              rw [HKL.out] at h9 ⊢
              rw [HTK.out]
              exact h9
          case measure => simp [intOf]; omega
        · have hm' : mayB x y = false := by simpa using hm
          rw [hm'] at MYv
          obtain rfl := HBAD.out hm'
          clear hm
          go_wp2_with (first
            | (go_at_call 28; (with_reducible refine MYv.out.mono ?_); rintro _ u5 ⟨rfl, hb5⟩; have h5 := hN4.h8.below hb5; have hbw5 := Below.step hN4.bw hb5)
            | (refine wpList_store_row rfl 45 _ _ rfl w.heap.size fz0 rfl rfl _ _ h5 (by kernel_rfl) rfl (by simp [Value.oneCell']) ?_))
          have l1 := run_loadVar_row (P := Tryz.prog) _ w.heap.size 45 45 _ (0, 0) _ (h5.rowSelf fz0) Tryz.underlying45 rfl (by kernel_rfl)
          exact bodyPost_ret (results_ct rfl _ _ rfl rfl l1) rfl ⟨_, rfl, HFz.out _ _, below_setRow hbw5 (Nat.le_refl _) _⟩
      · obtain rfl : j = nl := by omega
        have htk : P.take j = P := List.take_of_length_le (by rw [HPL.out]; exact Nat.le_refl _)
        have hS := hN.slots
        rw [htk] at hS
        have hRR : R = (frmN k s P (List.replicate ns slt0), true) := by
          rw [HR.out, if_pos ⟨HQ.out.1, HQ.out.2, List.all_eq_true.2 fun v hv => HALL.out v (by rw [htk, HPE.out]; exact List.mem_append_left _ hv)⟩]
          simp only [Int.toNat_natCast, HNL.out]
          rw [← HPE.out]
        subst hRR
        have HS := Lib.hid hS
        have hb1 : decide ((j : Int) < j) = false := by simp
        clear hS hN htk HALL HR hj hlt HN0 HA HPE
        go_wp2_with fail
        go_loopw [14] (fun iv wr2 => ∃ (i : Nat) (A8 : Option Addr) (c8 : Nat), iv = .int .i64 i ∧ i ≤ ns ∧ NwS w fb gF #[.int .i64 ar, .int .i64 j, .int .i64 ns, cv] k s P (.slice A9 j c9) (List.replicate i slt0) i A8 c8 wr2) (fun iv _ => ns - (intOf iv).toNat)
        case atStart => exact ⟨0, none, 0, rfl, Nat.zero_le _, HS.out⟩
        case round =>
          obtain ⟨i, A8, c8, rfl, hi, hN⟩ := hrel
          have y2 := hN.hx.cell 2
          simp at y2
          by_cases hlt : i < ns
          · have hlt2 : (i : Int) < ns := by omega
            have hi16 : (i : Int) < 16 := by omega
            have x4 := hN.hf.cell 4
            simp at x4
            have hN6 := hN.below (w := w) (W' := wr.alloc (.cells sz0 75)) ((Below.refl _ _).alloc (Nat.le_refl _) _)
            have HOA := Lib.hid hN6.os
            have HVA := Lib.hid (slot_at (w := wr))
            have HBB := Lib.hid hN6.bw.size
            have HLE := Lib.hid (show (List.replicate i slt0).length + 1 ≤ 1000000 by rw [List.length_replicate]; omega)
            have HF6 := Lib.hid hN6.hf
            have HNE : Hid ((Value.slice A8 i c8).ownBlock ≠ some gF) := Lib.hid (fun e => row_apart hN6.os hN6.hf tyFS _ e rfl)
            have HN6 := Lib.hid hN6
            have HTK := Lib.hid (show List.replicate (i + 1) slt0 = List.replicate i slt0 ++ [slt0] from List.replicate_succ')
            have HKL := Lib.hid (show (List.replicate i slt0 ++ [slt0]).length = i + 1 by rw [List.length_append, List.length_replicate]; rfl)
            clear hN hN6
            generalize List.replicate i slt0 = L at *
            go_wp2_with (at_builtin; refine wpList_append_ss (k := [slt0]) (n := 1) rfl _ _ rfl w.heap.size _ L rfl HOA.out rfl rfl HVA.out (Nat.le_refl _) HLE.out HBB.out ?_; intro v' u6 k1 k2 k3; obtain ⟨A', c', rfl, _⟩ := k1.lies; generalize hK : L ++ [slt0] = K at *; have hf6 := HF6.out.grown k2 HNE.out; have q4 := hf6.cell 4; have z4 := hf6.fz 4; have ql := hf6.lt; simp at q4; have K1 := Lib.hid k1; have K2 := Lib.hid k2; clear k1 k2 k3 hf6 hK)
            go_roundw
            case rel =>
              refine ⟨i + 1, A', c', by go_num, by omega, ?_⟩
              have h9 := HN6.out.app K1.out K2.out
              rw [HKL.out] at h9 ⊢
              rw [HTK.out]
              exact h9
            case measure => simp [intOf]; omega
          · obtain rfl : i = ns := by omega
            have hb2 : decide ((i : Int) < i) = false := by simp
            have hf := hN.hf
            have h8 := hN.h8
            have hdone := hN.done
            have hbw := hN.bw
            clear hlt hi
            go_wp2_with (first
              | (guard_target = wpList _ _ _ (Oper.mk _ (Op.load 45 (.tmp 11)) _ _ _ none :: _) _ _; refine wpList_load_row rfl 45 _ rfl gF rfl _ _ _ _ hf Tryz.underlying45 rfl (by kernel_rfl) ?_)
              | (refine wpList_store_row rfl 45 _ _ rfl w.heap.size (fcA (frmN k s P (List.replicate i slt0)) (.slice none 0 0) (.slice A9 j c9) (.slice A8 i c8)) rfl rfl _ _ h8 (by kernel_rfl) rfl (by simp [Value.oneCell']) ?_))
            have l1 := run_loadVar_row (P := Tryz.prog) _ w.heap.size 45 45 _ (0, 0) _ (h8.rowSelf (fcA (frmN k s P (List.replicate i slt0)) (.slice none 0 0) (.slice A9 j c9) (.slice A8 i c8))) Tryz.underlying45 rfl (by kernel_rfl)
            exact bodyPost_ret (results_ct rfl _ _ rfl rfl l1) rfl ⟨_, rfl, hdone, below_setRow hbw (Nat.le_refl _) _⟩
end Go.Proofs.YtoeinpiekfmbgaaGreatDoor

/- Layer 9: the document's Give, of a child's end that a slot takes. -/
namespace Go.Proofs.YtoeinpiekfmbgaaGreatDoor
set_option linter.unusedVariables false
set_option linter.unusedSimpArgs false
open Gm Go.RowKit Go.ChangeShapes Go.WideShapes Go.ChangeAt Go.Sort

set_option maxHeartbeats 8000000 in
set_option maxRecDepth 100000 in
theorem rgive_any {D m : Nat} {f : Frm} {A1 A2 A3 : Option Addr} {c1 c2 c3 : Nat} (t x y : Int) (w : World) (hf : FrmAt w D (fv f (.slice A1 f.stk.length c1) (.slice A2 f.loc.length c2) (.slice A3 f.slt.length c3)) f) (hD : D ≤ w.heap.size) (hl : FrmLen f) (hm : m < f.slt.length) (hs : f.slt[m].st = 1) (h0 : f.st = 0) :
    Calls Tryz.prog 31 #[fv f (.slice A1 f.stk.length c1) (.slice A2 f.loc.length c2) (.slice A3 f.slt.length c3), .int .i64 m, outv t x y] w
      fun e w' => ∃ fr, e = .returned (.tuple #[fr, .bool true]) ∧ OwnF w' w.heap.size fr { f with slt := f.slt.set m ⟨2, -1, 0, t, x, y⟩ } ∧ Below w.heap.size w w' := by
  have w0 := below3 w (.cells (fcA f (.slice A1 f.stk.length c1) (.slice A2 f.loc.length c2) (.slice A3 f.slt.length c3)) 45) (.cells #[.int .i64 t, .int .i64 x, .int .i64 y] 32) (.cells fz0 45)
  have hx3 := ((Held.new w 45 (fcA f (.slice A1 f.stk.length c1) (.slice A2 f.loc.length c2) (.slice A3 f.slt.length c3))).alloc (.cells #[.int .i64 t, .int .i64 x, .int .i64 y] 32)).alloc (.cells fz0 45)
  have hx5 := (Held.new1 w (.cells (fcA f (.slice A1 f.stk.length c1) (.slice A2 f.loc.length c2) (.slice A3 f.slt.length c3)) 45) 32 #[.int .i64 t, .int .i64 x, .int .i64 y]).alloc (.cells fz0 45)
  have hx6 := Held.new2 w (.cells (fcA f (.slice A1 f.stk.length c1) (.slice A2 f.loc.length c2) (.slice A3 f.slt.length c3)) 45) (.cells #[.int .i64 t, .int .i64 x, .int .i64 y] 32) 45 fz0
  have HF := Lib.hid (fun W (hb : Below w.heap.size w W) => hf.below hb hD)
  obtain ⟨B1, b1, B2, b2, B3, b3, e9, -, -, hss⟩ := hf
  simp only [fv, Value.agg.injEq, Array.mk.injEq, List.cons.injEq, Value.slice.injEq, true_and, and_true] at e9
  obtain ⟨⟨rfl, rfl⟩, ⟨rfl, rfl⟩, ⟨rfl, rfl⟩⟩ := e9
  obtain ⟨gs, os, rfl, hgs, hcs⟩ := hss (by omega)
  have z0 := (hcs m hm).1
  rw [hs] at z0
  have hm2 : (m : Int) < f.slt.length := by omega
  have hm0 : (0 : Int) ≤ m := Int.natCast_nonneg m
  have HL := Lib.hid hl
  have HM := Lib.hid hm
  have HD := Lib.hid hD
  have HS0 := Lib.hid h0
  have hgs2 : gs < w.heap.size := by omega
  clear hss hcs hl hD hs h0
  go_enter Tryz.func31, Tryz.ntmps31
  go_upto_region 1 with (guard_target = wpList _ _ _ (Oper.mk _ (Op.box 45 _) _ _ _ none :: _) _ _; refine wpList_box_arr rfl 45 (.tmp 0) rfl (fcA f (.slice A1 f.stk.length c1) (.slice A2 f.loc.length c2) (.slice (some ⟨gs, os, none⟩) f.slt.length c3)) rfl ?_)
  generalize ((w.alloc (.cells (fcA f (.slice A1 f.stk.length c1) (.slice A2 f.loc.length c2) (.slice (some ⟨gs, os, none⟩) f.slt.length c3)) 45)).alloc (.cells #[.int .i64 t, .int .i64 x, .int .i64 y] 32)).alloc (.cells fz0 45) = W0 at *
  have x4 := hx3.cell 4
  simp at x4
  have z0' := (w0.cell (p := ⟨gs, _, none⟩) hgs2).trans z0
  have hmx : max (m : Int) 0 = m := by omega
  clear z0
  go_upto_region 3 with (fail)
  clear x4 z0'
  have CC := Lib.hid (rcopy_any W0 (HF.out W0 w0) HL.out (Nat.le_trans HD.out w0.size))
  have hf3 := hx3
  go_upto_region 4 with (first
    | (guard_target = wpList _ _ _ (Oper.mk _ (Op.load 45 (.tmp 3)) _ _ _ none :: _) _ _; refine wpList_load_row rfl 45 _ rfl w.heap.size rfl _ _ _ _ hf3 Tryz.underlying45 rfl (by kernel_rfl) ?_)
    | (go_at_call 48; (with_reducible refine CC.out.mono ?_); rintro _ u ⟨s, l, o', rfl, hs, hlo, ho, d1, d2, d3, hb⟩; obtain ⟨As, cs, rfl, -⟩ := hs.lies; obtain ⟨Al, cl, rfl, -⟩ := hlo.lies; obtain ⟨Ao, co, rfl, -⟩ := ho.lies; have f8 := Held.new u 45 fz0)
    | (guard_target = wpList _ _ _ (Oper.mk _ (Op.alloc 45) _ _ _ none :: _) _ _; refine wpList_alloc_arr rfl 45 rfl fz0 (by kernel_rfl) ?_)
    | (guard_target = wpList _ _ _ (Oper.mk _ (Op.store 45 (.tmp 8) _) _ _ _ none :: _) _ _; refine wpList_store_row rfl 45 _ _ rfl u.heap.size (fcA f (.slice As f.stk.length cs) (.slice Al f.loc.length cl) (.slice Ao f.slt.length co)) rfl rfl _ _ f8 (by kernel_rfl) rfl (by simp [Value.oneCell']) ?_))
  have hb1 : Below u.heap.size u ((u.alloc (.cells fz0 45)).setRow u.heap.size (fcA f (.slice As f.stk.length cs) (.slice Al f.loc.length cl) (.slice Ao f.slt.length co))) := below_row ((Below.refl _ _).alloc (Nat.le_refl _) _) (Nat.le_refl _) _
  have h8 : Held ((u.alloc (.cells fz0 45)).setRow u.heap.size (fcA f (.slice As f.stk.length cs) (.slice Al f.loc.length cl) (.slice Ao f.slt.length co))) u.heap.size 45 (fcA f (.slice As f.stk.length cs) (.slice Al f.loc.length cl) (.slice Ao f.slt.length co)) := f8.rowSelf _
  have os1 := row_later hs hb1
  have ol1 := row_later hlo hb1
  have oo1 := row_later ho hb1
  have hbW := Below.step hb hb1
  have h5 := hx5.below hbW
  have h6 := hx6.below hbW
  have hbz := Below.step w0 hbW
  have l8 : W0.heap.size ≤ u.heap.size := hb.size
  have l6 : w.heap.size + 1 + 1 < W0.heap.size := hx6.lt
  generalize ((u.alloc (.cells fz0 45)).setRow u.heap.size (fcA f (.slice As f.stk.length cs) (.slice Al f.loc.length cl) (.slice Ao f.slt.length co))) = W1 at *
  generalize u.heap.size = g8 at *
  clear f8 hs hlo ho hb hb1 hx3 hx5 hx6 w0 hf3 CC HF
  obtain ⟨go, gc, ego⟩ := own_form oo1 (by have := HM.out; omega)
  simp only [Value.slice.injEq, true_and] at ego
  obtain ⟨rfl, rfl⟩ := ego
  obtain ⟨⟨y0, y1, y2, y3, y4, y5⟩, yz⟩ := own_ss oo1 HM.out
  have x4 := h8.cell 4
  have o0 := h5.cell 0
  have o1 := h5.cell 1
  have o2 := h5.cell 2
  simp at x4 o0 o1 o2
  have v0 := yz (m * 6)
  have v1 := yz (m * 6 + 1)
  have v2 := yz (m * 6 + 2)
  have v3 := yz (m * 6 + 3)
  have v4 := yz (m * 6 + 4)
  have v5 := yz (m * 6 + 5)
  have hgl := (oo1.lt go rfl).2
  have H8 := Lib.hid h8
  have H6 := Lib.hid h6
  have OS := Lib.hid os1
  have OL := Lib.hid ol1
  have OO := Lib.hid oo1
  have BZ := Lib.hid hbz
  have L8 := Lib.hid (And.intro l8 l6)
  have D2 := Lib.hid d2
  have D3 := Lib.hid d3
  clear h8 h6 os1 ol1 oo1 hbz yz d1 d2 d3 hbW l8 l6
  go_upto_region 5 with (fail)
  have n8 : g8 ≠ go := fun e => (row_apart OO.out H8.out tyFS go rfl) e.symm
  have hgB := (OO.out.lt go rfl).1
  have n6 : w.heap.size + 1 + 1 ≠ go := by have := L8.out; omega
  have k8 : Held ((((((W1.setCell ⟨go, m * 6, none⟩ (.int .i64 2)).setCell ⟨go, m * 6 + 1, none⟩ (.int .i64 (-1))).setCell ⟨go, m * 6 + 2, none⟩ (.int .i64 0)).setCell ⟨go, m * 6 + 3, none⟩ (.int .i64 t)).setCell ⟨go, m * 6 + 4, none⟩ (.int .i64 x)).setCell ⟨go, m * 6 + 5, none⟩ (.int .i64 y)) g8 45 (fcA f (.slice As f.stk.length cs) (.slice Al f.loc.length cl) (.slice (some ⟨go, 0, none⟩) f.slt.length co)) := (six_far W1 go m ⟨2, -1, 0, t, x, y⟩ _ n8).trans H8.out
  have k6 : Held ((((((W1.setCell ⟨go, m * 6, none⟩ (.int .i64 2)).setCell ⟨go, m * 6 + 1, none⟩ (.int .i64 (-1))).setCell ⟨go, m * 6 + 2, none⟩ (.int .i64 0)).setCell ⟨go, m * 6 + 3, none⟩ (.int .i64 t)).setCell ⟨go, m * 6 + 4, none⟩ (.int .i64 x)).setCell ⟨go, m * 6 + 5, none⟩ (.int .i64 y)) (w.heap.size + 1 + 1) 45 fz0 := (six_far W1 go m ⟨2, -1, 0, t, x, y⟩ _ n6).trans H6.out
  have ks : OwnVs ((((((W1.setCell ⟨go, m * 6, none⟩ (.int .i64 2)).setCell ⟨go, m * 6 + 1, none⟩ (.int .i64 (-1))).setCell ⟨go, m * 6 + 2, none⟩ (.int .i64 0)).setCell ⟨go, m * 6 + 3, none⟩ (.int .i64 t)).setCell ⟨go, m * 6 + 4, none⟩ (.int .i64 x)).setCell ⟨go, m * 6 + 5, none⟩ (.int .i64 y)) W0.heap.size (.slice As f.stk.length cs) f.stk := row_same OS.out fun b e => six_far W1 go m ⟨2, -1, 0, t, x, y⟩ b (fun e2 => rows_ne OS.out OO.out tyVS b e (by rw [e2]; rfl))
  have kl : OwnVs ((((((W1.setCell ⟨go, m * 6, none⟩ (.int .i64 2)).setCell ⟨go, m * 6 + 1, none⟩ (.int .i64 (-1))).setCell ⟨go, m * 6 + 2, none⟩ (.int .i64 0)).setCell ⟨go, m * 6 + 3, none⟩ (.int .i64 t)).setCell ⟨go, m * 6 + 4, none⟩ (.int .i64 x)).setCell ⟨go, m * 6 + 5, none⟩ (.int .i64 y)) W0.heap.size (.slice Al f.loc.length cl) f.loc := row_same OL.out fun b e => six_far W1 go m ⟨2, -1, 0, t, x, y⟩ b (fun e2 => rows_ne OL.out OO.out tyVS b e (by rw [e2]; rfl))
  have ko : OwnSs ((((((W1.setCell ⟨go, m * 6, none⟩ (.int .i64 2)).setCell ⟨go, m * 6 + 1, none⟩ (.int .i64 (-1))).setCell ⟨go, m * 6 + 2, none⟩ (.int .i64 0)).setCell ⟨go, m * 6 + 3, none⟩ (.int .i64 t)).setCell ⟨go, m * 6 + 4, none⟩ (.int .i64 x)).setCell ⟨go, m * 6 + 5, none⟩ (.int .i64 y)) W0.heap.size (.slice (some ⟨go, 0, none⟩) f.slt.length co) (f.slt.set m ⟨2, -1, 0, t, x, y⟩) := OwnSs.set OO.out m ⟨2, -1, 0, t, x, y⟩ HM.out
  have kb : Below w.heap.size w ((((((W1.setCell ⟨go, m * 6, none⟩ (.int .i64 2)).setCell ⟨go, m * 6 + 1, none⟩ (.int .i64 (-1))).setCell ⟨go, m * 6 + 2, none⟩ (.int .i64 0)).setCell ⟨go, m * 6 + 3, none⟩ (.int .i64 t)).setCell ⟨go, m * 6 + 4, none⟩ (.int .i64 x)).setCell ⟨go, m * 6 + 5, none⟩ (.int .i64 y)) := six_below ⟨2, -1, 0, t, x, y⟩ BZ.out (by have := L8.out; omega)
  generalize ((((((W1.setCell ⟨go, m * 6, none⟩ (.int .i64 2)).setCell ⟨go, m * 6 + 1, none⟩ (.int .i64 (-1))).setCell ⟨go, m * 6 + 2, none⟩ (.int .i64 0)).setCell ⟨go, m * 6 + 3, none⟩ (.int .i64 t)).setCell ⟨go, m * 6 + 4, none⟩ (.int .i64 x)).setCell ⟨go, m * 6 + 5, none⟩ (.int .i64 y)) = W2 at *
  clear x4 o0 o1 o2 y0 y1 y2 y3 y4 y5 v0 v1 v2 v3 v4 v5
  have x8 := k8.cell 8
  simp at x8
  rw [HS0.out] at x8
  go_wp2_with (first
    | (guard_target = wpList _ _ _ (Oper.mk _ (Op.load 45 (.tmp 8)) _ _ _ none :: _) _ _; refine wpList_load_row rfl 45 _ rfl g8 rfl _ _ _ _ k8 Tryz.underlying45 rfl (by kernel_rfl) ?_)
    | (guard_target = wpList _ _ _ (Oper.mk _ (Op.store 45 (.tmp 6) _) _ _ _ none :: _) _ _; refine wpList_store_row rfl 45 _ _ rfl (w.heap.size + 1 + 1) (fcA { f with slt := f.slt.set m ⟨2, -1, 0, t, x, y⟩ } (.slice As f.stk.length cs) (.slice Al f.loc.length cl) (.slice (some ⟨go, 0, none⟩) f.slt.length co)) rfl rfl _ _ k6 (by kernel_rfl) rfl (by simp [Value.oneCell']) ?_))
  have l1 := run_loadVar_row (P := Tryz.prog) _ (w.heap.size + 1 + 1) 45 45 _ (0, 0) _ (k6.rowSelf (fcA { f with slt := f.slt.set m ⟨2, -1, 0, t, x, y⟩ } (.slice As f.stk.length cs) (.slice Al f.loc.length cl) (.slice (some ⟨go, 0, none⟩) f.slt.length co))) Tryz.underlying45 rfl (by kernel_rfl)
  have hBw : w.heap.size ≤ W0.heap.size := by have := L8.out; omega
  exact bodyPost_ret (results_ct rfl _ _ rfl rfl l1) rfl ⟨_, rfl, ⟨_, _, _, rfl, row_mono (row_same ks fun b e => setRow_far _ _ _ b (row_apart ks k6 tyFV b e)) hBw, row_mono (row_same kl fun b e => setRow_far _ _ _ b (row_apart kl k6 tyFV b e)) hBw, row_mono (row_same ko fun b e => setRow_far _ _ _ b (row_apart ko k6 tyFS b e)) hBw⟩, below_row kb (by omega) _⟩
end Go.Proofs.YtoeinpiekfmbgaaGreatDoor

