/- Layer 9: values appended, be there any or none. -/
import Derived.Test.YtoeinpiekfmbgaaGreatDoorzRla
import Derived.Test.YtoeinpiekfmbgaaGreatDoorzRtz
import Derived.Test.YtoeinpiekfmbgaaGreatDoorzRsp
import Derived.Test.YtoeinpiekfmbgaaGreatDoorzRth
namespace Go.Proofs.YtoeinpiekfmbgaaGreatDoor
set_option linter.unusedVariables false
set_option linter.unusedSimpArgs false
open Gm Go.RowKit Go.ChangeShapes Go.WideShapes Go.ChangeAt Go.Sort

theorem run_zeroVd (w : World) (As : Option Addr) (d c c2 : Nat) (A : Option Addr) (ty : TypeId) (hd : d ≤ c) (hn : As = none → d = 0 ∧ c = 0) : (Builtin.append_ #[24, 24] ty #[.slice As d c, .slice A 0 c2]).run Tryz.prog w = .ok (.slice As d c) w := by
  obtain ⟨i, hi, hz0, hz1, hz2⟩ := info_parts infoV
  cases As with
  | none =>
    obtain ⟨rfl, rfl⟩ := hn rfl
    cases A <;> simp [Builtin.append_, run_underlying Tryz.underlying24, sizeOf, typeInfo, hi, storeCells, loadCellsFrom, Builtin.lenOf, Builtin.firstCells, loadCells]
  | some g =>
    cases A <;> simp [Builtin.append_, run_underlying Tryz.underlying24, sizeOf, typeInfo, hi, storeCells, loadCellsFrom, Builtin.lenOf, Builtin.firstCells, loadCells, hd]
theorem own_none {w : World} {B n c : Nat} {l : List V} (h : OwnVs w B (.slice none n c) l) : n = 0 ∧ c = 0 := by
  rcases h.2 with ⟨e, h0⟩ | ⟨g, cap, cur, e, _⟩
  · simpa using e
  · simp at e
theorem wp_append_vsA {w : World} {o : Oper} {a : Act} {K : Act → World → Prop} {Q : Exit → Act → World → Prop}
    (s x : Operand) (hop : o.op = Op.call { callee := Callee.builtin Builtin.append, args := #[s, x], argTypes := #[24, 24] })
    (B : Nat) {As : Option Addr} {d c1 : Nat} (l : List V) (hs : a.eval s = .slice As d c1) (own : OwnVs w B (.slice As d c1) l) {A : Option Addr} {k : List V} {n c C : Nat} (hn : k.length = n) (hx : a.eval x = .slice A n c) (hc : VAt w C A k)
    (hlen : l.length + n ≤ 1000000) (hB : B ≤ w.heap.size)
    (h : ∀ A' c' w', OwnVs w' B (.slice A' (l ++ k).length c') (l ++ k) → w.grownBy w' (Value.slice As d c1).ownBlock → (∀ b, (Value.slice A' (l ++ k).length c').ownBlock = some b → (Value.slice As d c1).ownBlock = some b ∨ w.heap.size ≤ b) → K (a.put o.dst (.slice A' (l ++ k).length c')) w') : o.wp Tryz.prog a w K Q := by
  subst hn
  have hd : l.length = d := own.len
  by_cases hk : k = []
  · subst hk
    have hr := fun ty => run_zeroVd w As d c1 c A ty (own_cap own).1 (fun e => own_none (e ▸ own))
    have hx2 : a.eval x = .slice A 0 c := hx
    unfold Oper.wp execOp
    simp only [hop, resolve, invoke, builtin, Sem.run_bind, Sem.run_pure, Result.andThen_ok, List.map_toArray, List.map_cons, List.map_nil, hs, hx2, hr]
    have := h As c1 w (by rw [List.append_nil, hd]; exact own) (grown_of_below (Below.refl _ _) _) (by rw [List.append_nil, hd]; exact fun b e => .inl e)
    rw [List.append_nil, hd] at this
    exact this
  · have h1 : 1 ≤ k.length := by
      cases k with
      | nil => exact absurd rfl hk
      | cons y ys => simp
    obtain ⟨b, off, rfl, hbC, hf⟩ := hc (by omega)
    obtain ⟨q, hi, hz0, hz1, hz2⟩ := info_parts infoV
    refine wp_append_lies w s x 24 hop B 30 q (.agg #[.int .i64 0, .int .i64 0]) 2 16 Tryz.underlying24 hi hz0 hz1 hz2 rfl (by decide) _ l.length (flatV l) hs (by rw [hd]; unfold OwnVs at own; rw [hd] at own; exact own) ⟨b, off, none⟩ k.length c
      (flatV k) hx (flatV_len k) (newsV (C := C) hf) oneV (by omega) (by unfold maxLen; omega) (by omega) hB _ rfl ?_
    intro g' cap w' k1 k2 k3 k4
    rw [← List.length_append] at k1 ⊢
    refine h (some ⟨g', 0, none⟩) cap w' ?_ k2 ?_
    · unfold OwnVs
      rw [flatV_append]
      exact k1
    · intro b' hb'
      simp only [Value.ownBlock, Option.some.injEq] at hb'
      subst hb'
      rcases k3 with k3 | k3
      · exact .inl k3
      · exact .inr (by omega)
end Go.Proofs.YtoeinpiekfmbgaaGreatDoor

/- Layer 9, plain: what the document's Do does with an instruction that lays and takes. -/
namespace Go.Proofs.YtoeinpiekfmbgaaGreatDoor
set_option linter.unusedVariables false
set_option linter.unusedSimpArgs false
open Gm Go.RowKit Go.ChangeShapes Go.WideShapes Go.ChangeAt Go.Sort

def genF (f : Frm) (x : Int × Int × Int) (d : Nat) : Frm :=
  { f with stk := f.stk.take d ++ laysF f x (f.stk.drop d), loc := (if x.1 = 2 then f.loc.set x.2.1.toNat ((f.stk.drop d).getD 0 (0, 0)) else f.loc), drw := (if x.1 = 12 then wrap64 (f.drw + 1) else f.drw), pc := (if x.1 = 10 ∨ (x.1 = 11 ∧ gOf ((f.stk.drop d).getD 0 (0, 0)) = (0, 0)) then x.2.1 else f.pc + 1) }
theorem drop_top {f : Frm} {d : Nat} (h : d + 1 = f.stk.length) : (f.stk.drop d).getD 0 (0, 0) = topF f := by
  unfold topF
  rw [List.getD_eq_getElem?_getD, List.getD_eq_getElem?_getD, List.getElem?_drop]
  congr 2
  omega
theorem drop_low {f : Frm} {d : Nat} (h : d + 2 = f.stk.length) : (f.stk.drop d).getD 0 (0, 0) = lowF f ∧ (f.stk.drop d).getD 1 (0, 0) = topF f := by
  unfold topF lowF
  rw [List.getD_eq_getElem?_getD, List.getD_eq_getElem?_getD, List.getD_eq_getElem?_getD, List.getD_eq_getElem?_getD, List.getElem?_drop, List.getElem?_drop]
  exact ⟨by congr 2; omega, by congr 2; omega⟩
theorem pop_d {f : Frm} {d n : Nat} (h : d + n = f.stk.length) : popF f n = { f with stk := f.stk.take d } := by
  unfold popF
  rw [show f.stk.length - n = d by omega]
theorem take_all {f : Frm} {d : Nat} (h : d = f.stk.length) : f.stk.take d = f.stk := by rw [h, List.take_length]
theorem exec_gen {p : List Fun} {f : Frm} {x : Int × Int × Int} (hm : mayZ x.1 x.2.1 x.2.2 = true) (h13 : x.1 ≠ 13) (h14 : x.1 ≠ 14) (h15 : x.1 ≠ 15) (h16 : x.1 ≠ 16) {d n : Nat} (hn : offI p x = n) (hd : d + n = f.stk.length)
    (h6 : x.1 = 6 → gNorm ((f.stk.drop d).getD 1 (0, 0)) ≠ 0) : execF p f x = (genF f x d, actK 1, 0) := by
  obtain ⟨k, hk17, hx⟩ := may_in hm
  have hr := rz_in hk17
  rw [← hx] at hr
  have hp := p_of k hk17
  unfold offI at hn
  rw [if_neg h13, hr, hp] at hn
  obtain ⟨o, a, b⟩ := x
  simp only at hx hn h13 h14 h15 h16 h6 hr
  subst hx
  have hk' : k = 0 ∨ k = 1 ∨ k = 2 ∨ k = 3 ∨ k = 4 ∨ k = 5 ∨ k = 6 ∨ k = 7 ∨ k = 8 ∨ k = 9 ∨ k = 10 ∨ k = 11 ∨ k = 12 := by omega
  rcases hk' with rfl | rfl | rfl | rfl | rfl | rfl | rfl | rfl | rfl | rfl | rfl | rfl | rfl
  all_goals simp at hn
  all_goals (rcases (show n = 0 ∨ n = 1 ∨ n = 2 by omega) with rfl | rfl | rfl)
  all_goals first
    | (exfalso; omega)
    | skip
  · show (goF (pushF f [(rs a, rs b)]) (f.pc + 1), actK 1, 0) = (genF f (0, a, b) d, actK 1, 0)
    unfold genF laysF
    rw [take_all (d := d) hd]
    rfl
  · show (goF (pushF f [f.loc.getD a.toNat (0, 0)]) (f.pc + 1), actK 1, 0) = (genF f (1, a, b) d, actK 1, 0)
    unfold genF laysF
    rw [take_all (d := d) hd]
    rfl
  · show (goF ({ popF f 1 with loc := f.loc.set a.toNat (topF f) }) (f.pc + 1), actK 1, 0) = (genF f (2, a, b) d, actK 1, 0)
    unfold genF laysF
    rw [drop_top hd, pop_d hd]
    simp [goF]
  · obtain ⟨e0, e1⟩ := drop_low hd
    show (goF (pushF (popF f 2) [gAdd (lowF f) (topF f)]) (f.pc + 1), actK 1, 0) = (genF f (3, a, b) d, actK 1, 0)
    unfold genF laysF
    rw [e0, e1, pop_d hd]
    rfl
  · obtain ⟨e0, e1⟩ := drop_low hd
    show (goF (pushF (popF f 2) [gSub (lowF f) (topF f)]) (f.pc + 1), actK 1, 0) = (genF f (4, a, b) d, actK 1, 0)
    unfold genF laysF
    rw [e0, e1, pop_d hd]
    rfl
  · obtain ⟨e0, e1⟩ := drop_low hd
    show (goF (pushF (popF f 2) [gMul (lowF f) (topF f)]) (f.pc + 1), actK 1, 0) = (genF f (5, a, b) d, actK 1, 0)
    unfold genF laysF
    rw [e0, e1, pop_d hd]
    rfl
  · obtain ⟨e0, e1⟩ := drop_low hd
    have h7 := h6 rfl
    rw [e1] at h7
    have e : execF p f (6, a, b) = compF f 6 := rfl
    show execF p f (6, a, b) = (genF f (6, a, b) d, actK 1, 0)
    rw [e]
    unfold compF
    rw [if_pos (by show decide (gNorm (topF f) ≠ 0) = true; simpa using h7)]
    unfold genF laysF
    rw [e0, e1, pop_d hd]
    rfl
  · show (goF (pushF (popF f 1) [gConj (topF f)]) (f.pc + 1), actK 1, 0) = (genF f (7, a, b) d, actK 1, 0)
    unfold genF laysF
    rw [drop_top hd, pop_d hd]
    rfl
  · show (goF (pushF (popF f 1) [topF f, topF f]) (f.pc + 1), actK 1, 0) = (genF f (8, a, b) d, actK 1, 0)
    unfold genF laysF
    rw [drop_top hd, pop_d hd]
    rfl
  · show (goF (popF f 1) (f.pc + 1), actK 1, 0) = (genF f (9, a, b) d, actK 1, 0)
    unfold genF laysF
    rw [drop_top hd, pop_d hd]
    simp [goF]
  · show (goF f a, actK 1, 0) = (genF f (10, a, b) d, actK 1, 0)
    unfold genF laysF
    rw [take_all (d := d) hd]
    simp [goF]
  · show (if gOf (topF f) = (0, 0) then (goF (popF f 1) a, actK 1, 0) else (goF (popF f 1) (f.pc + 1), actK 1, 0)) = (genF f (11, a, b) d, actK 1, 0)
    unfold genF laysF
    rw [drop_top hd, pop_d hd]
    by_cases h0 : gOf (topF f) = (0, 0)
    · simp [goF, h0]
    · simp [goF, h0]
  · show (goF ({ pushF f [drawZ f.seed f.drw] with drw := wrap64 (f.drw + 1) }) (f.pc + 1), actK 1, 0) = (genF f (12, a, b) d, actK 1, 0)
    unfold genF laysF
    rw [take_all (d := d) hd]
    rfl
end Go.Proofs.YtoeinpiekfmbgaaGreatDoor

/- Layer 9: the document's lays, whatever instruction that lays and takes. -/
namespace Go.Proofs.YtoeinpiekfmbgaaGreatDoor
set_option linter.unusedVariables false
set_option linter.unusedSimpArgs false
open Gm Go.RowKit Go.ChangeShapes Go.WideShapes Go.ChangeAt Go.Sort

theorem len1 {l : List V} (h : l.length = 1) : ∃ x, l = [x] := by
  match l, h with
  | [x], _ => exact ⟨x, rfl⟩
theorem len2 {l : List V} (h : l.length = 2) : ∃ x y, l = [x, y] := by
  match l, h with
  | [x, y], _ => exact ⟨x, y, rfl⟩
theorem some_of {w : World} {C : Nat} {A : Option Addr} {l : List V} (h : VAt w C A l) (h0 : 0 < l.length) : ∃ g off, A = some ⟨g, off, none⟩ ∧ g < C := by
  obtain ⟨g, off, e, hg, _⟩ := h h0
  exact ⟨g, off, e, hg⟩
theorem lays_gen {p : List Fun} {f : Frm} {As Al Ao Av : Option Addr} {ns cs cl no co cv n : Nat} {o a b : Int} (hm : mayZ o a b = true) (h13 : o ≠ 13) (h14 : o ≠ 14) (h15 : o ≠ 15) (h16 : o ≠ 16) (hkn : knowsF p f (o, a, b) = true) {V : List V} (hn : offI p (o, a, b) = n) (hV : V.length = n)
    (h6 : o = 6 → gNorm (V.getD 1 (0, 0)) ≠ 0) (w : World) (ov : VAt w w.heap.size Av V) (ol : VAt w w.heap.size Al f.loc) :
    Calls Tryz.prog 57 #[fv f (.slice As ns cs) (.slice Al f.loc.length cl) (.slice Ao no co), .agg #[.int .i64 o, .int .i64 a, .int .i64 b], .slice Av n cv] w (LaysQ w (laysF f (o, a, b) V)) := by
  obtain ⟨k, hk17, hx⟩ := may_in hm
  have hr := rz_in hk17
  rw [← hx] at hr
  have hp := p_of k hk17
  unfold offI at hn
  rw [if_neg h13, hr, hp] at hn
  subst hx
  have hk' : k = 0 ∨ k = 1 ∨ k = 2 ∨ k = 3 ∨ k = 4 ∨ k = 5 ∨ k = 6 ∨ k = 7 ∨ k = 8 ∨ k = 9 ∨ k = 10 ∨ k = 11 ∨ k = 12 := by omega
  rcases hk' with rfl | rfl | rfl | rfl | rfl | rfl | rfl | rfl | rfl | rfl | rfl | rfl | rfl
  all_goals simp at hn
  all_goals (rcases (show n = 0 ∨ n = 1 ∨ n = 2 by omega) with rfl | rfl | rfl)
  all_goals first
    | (exfalso; omega)
    | skip
  · exact lays_push (c := 0) (C := 0) f a b _ ⟨_, _, _, rfl⟩ w
  · have h9 := hkn
    unfold knowsF at h9
    rw [if_pos (by simp)] at h9
    simp [hasI] at h9
    obtain ⟨m, rfl⟩ := Int.eq_ofNat_of_zero_le h9.1
    have hml : m < f.loc.length := by omega
    obtain ⟨g, off, rfl, hg, hc⟩ := ol (by omega)
    have e : laysF f (((1 : Nat) : Int), (m : Int), b) V = [f.loc[m]] := by
      show [f.loc.getD (m : Int).toNat (0, 0)] = _
      rw [Int.toNat_natCast, List.getD_eq_getElem?_getD, List.getElem?_eq_getElem hml]
      rfl
    rw [e]
    exact lays_load (Al := none) (c := 0) (C := 0) f 0 b _ ⟨_, _, _, rfl⟩ f.loc[m] w (hc m hml) hg hml
  · exact lays_none (c := 0) (C := 0) f _ a b _ ⟨_, _, _, rfl⟩ w (by simp)
  · obtain ⟨x, y, rfl⟩ := len2 hV
    obtain ⟨g, off, rfl, hg⟩ := some_of ov (by simp)
    exact lays_add f a b x y w ov (Nat.le_refl _)
  · obtain ⟨x, y, rfl⟩ := len2 hV
    obtain ⟨g, off, rfl, hg⟩ := some_of ov (by simp)
    exact lays_sub f a b x y w ov (Nat.le_refl _)
  · obtain ⟨x, y, rfl⟩ := len2 hV
    obtain ⟨g, off, rfl, hg⟩ := some_of ov (by simp)
    exact lays_mul f a b x y w ov (Nat.le_refl _)
  · obtain ⟨x, y, rfl⟩ := len2 hV
    obtain ⟨g, off, rfl, hg⟩ := some_of ov (by simp)
    exact lays_div f a b x y w ov (Nat.le_refl _) (h6 rfl)
  · obtain ⟨x, rfl⟩ := len1 hV
    obtain ⟨g, off, rfl, hg⟩ := some_of ov (by simp)
    exact lays_conj f a b x w ov (Nat.le_refl _)
  · obtain ⟨x, rfl⟩ := len1 hV
    obtain ⟨g, off, rfl, hg⟩ := some_of ov (by simp)
    exact lays_dup f a b x w ov (Nat.le_refl _)
  · exact lays_none (c := 0) (C := 0) f _ a b _ ⟨_, _, _, rfl⟩ w (by simp)
  · exact lays_none (c := 0) (C := 0) f _ a b _ ⟨_, _, _, rfl⟩ w (by simp)
  · exact lays_none (c := 0) (C := 0) f _ a b _ ⟨_, _, _, rfl⟩ w (by simp)
  · exact lays_rand (c := 0) (C := 0) f a b _ ⟨_, _, _, rfl⟩ w
/-- The values laid are few. -/
theorem lays_len (f : Frm) (x : Int × Int × Int) (V : List V) : (laysF f x V).length ≤ 2 := by
  unfold laysF
  repeat' split
  all_goals simp
end Go.Proofs.YtoeinpiekfmbgaaGreatDoor

/- Layer 9: the document's Do: what each way begins with. -/
namespace Go.Proofs.YtoeinpiekfmbgaaGreatDoor
set_option linter.unusedVariables false
set_option linter.unusedSimpArgs false
open Gm Go.RowKit Go.ChangeShapes Go.WideShapes Go.ChangeAt Go.Sort

theorem wpList_append_vs0n {w : World} {ops : Array Oper} {rest : List Oper} {o : Oper} {a : Act} {Q : Exit → Act → World → Prop}
    (hg : o.guard = none) (s x : Operand) (hop : o.op = Op.call { callee := Callee.builtin Builtin.append, args := #[s, x], argTypes := #[24, 24] })
    (w0 : World) (hw : w = w0.alloc (.cells #[] 30)) (hs : a.eval s = .slice (some ⟨w0.heap.size, 0, none⟩) 0 0) {A : Option Addr} {k : List V} {n c C : Nat} (hn : k.length = n) (hx : a.eval x = .slice A n c) (hc : VAt w C A k)
    (hlen : n ≤ 1000000)
    (h : ∀ A' c' w', OwnVs w' w0.heap.size (.slice A' n c') k → Below w0.heap.size w0 w' → wpList Tryz.prog ops Q rest (a.put o.dst (.slice A' n c')) w') : wpList Tryz.prog ops Q (o :: rest) a w := by
  subst hn
  refine wpList_append_vs0 hg s x hop w0 hw hs hx hc hlen fun v' w' k1 k2 => ?_
  obtain ⟨A', c', rfl, _⟩ := k1.lies
  exact h A' c' w' k1 k2
abbrev zv0 : V := (0, 0)
theorem rdiv_no (x y : V) (w : World) (h : gNorm y = 0) : Calls Tryz.prog 56 #[.agg #[.int .i64 x.1, .int .i64 x.2], .agg #[.int .i64 y.1, .int .i64 y.2]] w fun e w' => e = .returned (.tuple #[.agg #[.int .i64 zv0.1, .int .i64 zv0.2], .bool false]) ∧ Below w.heap.size w w' := by
  have := rdiv_any x.1 x.2 y.1 y.2 w
  rw [quo_zero h] at this
  simpa [h] using this
/-- The state of the frame, behind what was laid. -/
structure GSt (w : World) (B g6 g8 : Nat) (ins : Array Value) (l o v : Value) (Vs : List V) (W : World) (F : Frm) (s : Value) : Prop where
  h6 : Held W g6 45 (fcA F s l o)
  h8 : Held W g8 92 ins
  os : OwnVs W B s F.stk
  ol : OwnVs W B l F.loc
  oo : OwnSs W B o F.slt
  ov : OwnVs W B v Vs
  sl : ∀ b, s.ownBlock = some b → l.ownBlock ≠ some b
  vl : ∀ b, v.ownBlock = some b → l.ownBlock ≠ some b
  h4 : Held W (w.heap.size + 1) 45 fz0
  h5 : Held W (w.heap.size + 1 + 1) 77 ac0
  bz : Below w.heap.size w W
  wb : w.heap.size + 3 = B
  bB : B ≤ W.heap.size
  gB : B ≤ g6
theorem tyIF : 92 ≠ 45 := by decide
theorem GSt.below {w : World} {B g6 g8 : Nat} {ins : Array Value} {l o v : Value} {Vs : List V} {W W' : World} {F : Frm} {s : Value} (h : GSt w B g6 g8 ins l o v Vs W F s) (hb : Below W.heap.size W W') : GSt w B g6 g8 ins l o v Vs W' F s :=
  ⟨h.h6.below hb, h.h8.below hb, row_later h.os hb, row_later h.ol hb, row_later h.oo hb, row_later h.ov hb, h.sl, h.vl, h.h4.below hb, h.h5.below hb, Below.step h.bz hb, h.wb, Nat.le_trans h.bB hb.size, h.gB⟩
/-- What was laid is stored. -/
theorem gst_of {w u : World} {B g6 g8 : Nat} {ins : Array Value} {s0 l o v s : Value} {Vs K : List V} {F : Frm} (h6 : Held u g6 45 (fcA F s0 l o)) (h8 : Held u g8 92 ins) (os : OwnVs u B s K) (ol : OwnVs u B l F.loc) (oo : OwnSs u B o F.slt) (ov : OwnVs u B v Vs)
    (sl : ∀ b, s.ownBlock = some b → l.ownBlock ≠ some b) (vl : ∀ b, v.ownBlock = some b → l.ownBlock ≠ some b) (h4 : Held u (w.heap.size + 1) 45 fz0) (h5 : Held u (w.heap.size + 1 + 1) 77 ac0) (bz : Below w.heap.size w u) (wb : w.heap.size + 3 = B) (bB : B ≤ u.heap.size) (gB : B ≤ g6) :
    GSt w B g6 g8 ins l o v Vs (u.setCell ⟨g6, 2, none⟩ s) { F with stk := K } s := by
  have far : ∀ k, k ≠ g6 → (u.setCell ⟨g6, 2, none⟩ s).heap[k]? = u.heap[k]? := fun k hk => Below.heap_setCell u ⟨g6, 2, none⟩ s k hk
  exact ⟨h6.set_at 2 s, (far _ (held_ne h8 h6 tyIF)).trans h8, row_same os fun b e => far b (row_apart os h6 tyFV b e), row_same ol fun b e => far b (row_apart ol h6 tyFV b e), row_same oo fun b e => far b (row_apart oo h6 tyFS b e), row_same ov fun b e => far b (row_apart ov h6 tyFV b e),
    sl, vl, (far _ (by omega)).trans h4, (far _ (by omega)).trans h5, bz.setCell (p := ⟨g6, 2, none⟩) (by show w.heap.size ≤ g6; omega) _, wb, by simpa [World.setCell] using bB, gB⟩
/-- A field that is no list is stored. -/
theorem GSt.put {w : World} {B g6 g8 : Nat} {ins : Array Value} {l o v : Value} {Vs : List V} {W : World} {F : Frm} {s : Value} (h : GSt w B g6 g8 ins l o v Vs W F s) (i : Nat) (x : Value) (F' : Frm) (hf : (fcA F s l o).setIfInBounds i x = fcA F' s l o) (e1 : F'.stk = F.stk) (e2 : F'.loc = F.loc) (e3 : F'.slt = F.slt) :
    GSt w B g6 g8 ins l o v Vs (W.setCell ⟨g6, i, none⟩ x) F' s := by
  have far : ∀ k, k ≠ g6 → (W.setCell ⟨g6, i, none⟩ x).heap[k]? = W.heap[k]? := fun k hk => Below.heap_setCell W ⟨g6, i, none⟩ x k hk
  have hwb := h.wb
  have hgB := h.gB
  refine ⟨?_, (far _ (held_ne h.h8 h.h6 tyIF)).trans h.h8, ?_, ?_, ?_, row_same h.ov fun b e => far b (row_apart h.ov h.h6 tyFV b e), h.sl, h.vl, (far _ (by omega)).trans h.h4, (far _ (by omega)).trans h.h5, h.bz.setCell (p := ⟨g6, i, none⟩) (by show w.heap.size ≤ g6; omega) _, h.wb, by simpa [World.setCell] using h.bB, h.gB⟩
  · have := h.h6.set_at i x
    rw [hf] at this
    exact this
  · rw [e1]; exact row_same h.os fun b e => far b (row_apart h.os h.h6 tyFV b e)
  · rw [e2]; exact row_same h.ol fun b e => far b (row_apart h.ol h.h6 tyFV b e)
  · rw [e3]; exact row_same h.oo fun b e => far b (row_apart h.oo h.h6 tyFS b e)
/-- A local is stored. -/
theorem GSt.setLoc {w : World} {B g6 g8 gl n c : Nat} {ins : Array Value} {o v : Value} {Vs : List V} {W : World} {F : Frm} {s : Value} (h : GSt w B g6 g8 ins (.slice (some ⟨gl, 0, none⟩) n c) o v Vs W F s) (k : Nat) (y : V) (hk : k < F.loc.length) :
    GSt w B g6 g8 ins (.slice (some ⟨gl, 0, none⟩) n c) o v Vs ((W.setCell ⟨gl, k * 2, none⟩ (.int .i64 y.1)).setCell ⟨gl, k * 2 + 1, none⟩ (.int .i64 y.2)) { F with loc := F.loc.set k y } s := by
  have far : ∀ j, j ≠ gl → ((W.setCell ⟨gl, k * 2, none⟩ (.int .i64 y.1)).setCell ⟨gl, k * 2 + 1, none⟩ (.int .i64 y.2)).heap[j]? = W.heap[j]? := fun j hj => (Below.heap_setCell _ ⟨gl, _, none⟩ _ j hj).trans (Below.heap_setCell W ⟨gl, _, none⟩ _ j hj)
  have hwb := h.wb
  have hlB := (h.ol.lt gl rfl).1
  have n6 := row_apart h.ol h.h6 tyFV gl rfl
  have n8 := row_apart h.ol h.h8 (by decide) gl rfl
  exact ⟨(far _ n6.symm).trans h.h6, (far _ n8.symm).trans h.h8, row_same h.os fun b e => far b (fun e2 => h.sl b e (by rw [e2]; rfl)), h.ol.set k y hk, row_same h.oo fun b e => far b (fun e2 => rows_ne h.ol h.oo tyVS gl rfl (by rw [← e2]; exact e)),
    row_same h.ov fun b e => far b (fun e2 => h.vl b e (by rw [e2]; rfl)), h.sl, h.vl, (far _ (by omega)).trans h.h4, (far _ (by omega)).trans h.h5, (h.bz.setCell (p := ⟨gl, _, none⟩) (by show w.heap.size ≤ gl; omega) _).setCell (p := ⟨gl, _, none⟩) (by show w.heap.size ≤ gl; omega) _, h.wb, by simpa [World.setCell] using h.bB, h.gB⟩
theorem may16 {a b : Int} (h : mayZ 16 a b = true) : a ≠ 0 := by
  simp only [mayZ, Bool.and_eq_true, decide_eq_true_eq] at h
  have e : (rz 16).lo = 16 := by decide
  omega
theorem trap_two {B : Nat} {f : Frm} {As Al Ao : Option Addr} {ns cs nl cl no co : Nat} (t : Int) (w : World) (hs : OwnVs w B (.slice As ns cs) f.stk) (hl : OwnVs w B (.slice Al nl cl) f.loc) (ho : OwnSs w B (.slice Ao no co) f.slt) (hB : B ≤ w.heap.size) :
    Calls Tryz.prog 50 #[fv f (.slice As ns cs) (.slice Al nl cl) (.slice Ao no co), .int .i64 t] w (TwoR w B (endF f t (0, 0)) (actK 4)) :=
  (r9trap_any f _ _ _ t w ⟨_, _, _, rfl⟩ ⟨_, _, _, rfl⟩ ⟨_, _, _, rfl⟩).mono fun _ _ ⟨e, hb⟩ => ⟨_, _, e, ⟨_, _, _, rfl, row_later hs hb, row_later hl hb, row_later ho hb⟩, ActO.k _ _ 4, hb.mono hB⟩
/-- What a spawn does, where empty slots are zero. -/
theorem spawn_eq {p : List Fun} {f : Frm} (hZ : InvZ f) {m d n : Nat} {a : Int} (hm : m < f.slt.length) (hn : arP p a = n) (hd : f.stk.length = d + n) (a' : Int := a) : trapT (execF p f (13, a, (m : Int))) = if f.slt[m].st ≠ 0 then (endF f 2 (0, 0), actK 4) else ({ f with slt := f.slt.set m ⟨1, -1, 0, 0, 0, 0⟩, stk := f.stk.take d, spn := wrap64 (f.spn + 1), pc := f.pc + 1 }, ⟨2, a, m, useZ f.seed 1 f.spn, f.stk.drop d⟩) := by
  have e : execF p f (13, a, (m : Int)) = spawnF p f a m := rfl
  have hs : sltAt f m = f.slt[m] := by unfold sltAt; rw [Int.toNat_natCast, List.getD_eq_getElem?_getD, List.getElem?_eq_getElem hm]; rfl
  have hd9 : f.stk.length - n = d := by omega
  rw [e]
  unfold spawnF
  rw [hs, hn, Int.toNat_natCast, hd9]
  by_cases h0 : f.slt[m].st ≠ 0
  · rw [if_pos h0, if_pos h0]
    rfl
  · rw [if_neg h0, if_neg h0]
    have hz := hZ _ (List.getElem_mem hm) (by simpa using h0)
    rw [hz, Int.toNat_natCast]
    rfl
theorem GSt.drew {w : World} {B g6 g8 : Nat} {ins : Array Value} {l o v : Value} {Vs : List V} {W : World} {F : Frm} {s : Value} (h : GSt w B g6 g8 ins l o v Vs W F s) : GSt w B g6 g8 ins l o v Vs W.drew F s :=
  ⟨h.h6, h.h8, h.os, h.ol, h.oo, h.ov, h.sl, h.vl, h.h4, h.h5, h.bz.drew, h.wb, h.bB, h.gB⟩
/-- What is left is the call's own. -/
theorem GSt.own {w : World} {B g6 g8 : Nat} {ins : Array Value} {l o v : Value} {Vs : List V} {W : World} {F : Frm} {s : Value} (h : GSt w B g6 g8 ins l o v Vs W F s) : OwnF W w.heap.size (.agg (fcA F s l o)) F :=
  OwnF.mono ⟨s, l, o, rfl, h.os, h.ol, h.oo⟩ (by have := h.wb; omega)
end Go.Proofs.YtoeinpiekfmbgaaGreatDoor

