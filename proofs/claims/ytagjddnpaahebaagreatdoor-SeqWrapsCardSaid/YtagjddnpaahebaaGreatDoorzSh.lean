/- Layer 10's code: Eval, at every program. -/
import Derived.Test.YtagjddnpaahebaaGreatDoorzSc
import Derived.Test.YtagjddnpaahebaaGreatDoorzGs
import Derived.Test.YtagjddnpaahebaaGreatDoorzSb
import Derived.Test.YtagjddnpaahebaaGreatDoorzSj
import Derived.Test.YtagjddnpaahebaaGreatDoorzHb
import Derived.Test.YtagjddnpaahebaaGreatDoorzHc
import Derived.Test.YtagjddnpaahebaaGreatDoorzGh
import Derived.Test.YtagjddnpaahebaaGreatDoorzPr1
import Derived.SizedLaws
namespace Go.Proofs.YtagjddnpaahebaaGreatDoor
set_option linter.unusedVariables false
set_option linter.unusedSimpArgs false
open Gm Go.RowKit Go.ChangeShapes Go.WideShapes Go.ChangeAt Go.Sort

theorem results_ctt {P : Program} {fn : Func} {p q t : Tmp} {ty1 : TypeId} (h : fn.results = #[.cell p ty1, .tmp q, .tmp t]) (tmps : Array Value) (w : World) {a1 : Addr} {v1 v2 v3 : Value} (hp : tmps.getD p undef = .pointer (some a1)) (hq : tmps.getD q undef = v2) (ht : tmps.getD t undef = v3)
    (l1 : (loadVar ty1 a1).run P w = .ok v1 w) : (results fn tmps).run P w = .ok (.tuple #[v1, v2, v3]) w := by
  have hp' : tmps[p]?.getD undef = .pointer (some a1) := by simpa using hp
  have hq' : tmps[q]?.getD undef = v2 := by simpa using hq
  have ht' : tmps[t]?.getD undef = v3 := by simpa using ht
  simp [results, h, hp', hq', ht', asAddr, l1]
theorem load_out {w : World} {g : Nat} {cs : Array Value} (h : Held w g 32 cs) (hs : cs.size = 3) : (loadVar 32 ⟨g, 0, none⟩).run Tryz.prog w = .ok (.agg cs) w :=
  run_loadVar_row w g 32 32 cs (0, 0) _ h Tryz.underlying32 rfl (by rw [hs]; kernel_rfl)
set_option maxHeartbeats 4000000 in
set_option maxRecDepth 100000 in
theorem seval_any {A A2 : Option Addr} {p : List Fun} {args : List V} (c c2 : Nat) (s fuel : Int) (w : World) (hT : TabB w w.heap.size) (h : ProgAt w w.heap.size A p) (hz : SizedP p) (ha : VAt w w.heap.size A2 args) (hl : args.length ≤ 1000) :
    Calls Tryz.prog 10 #[.slice A p.length c, .slice A2 args.length c2, .int .i64 s, .int .i64 fuel] w fun e w' => e = .returned (tellV (evalP p args s fuel)) ∧ Below w.heap.size w w' := by
  have CK := fun W (hb : Below w.heap.size w W) => Lib.hid (check_any c W (hT.below hb (Nat.le_refl _)).ot ((h.below hb (Nat.le_refl _))) hz hb.size)
  have CX := cx_of (c := c) hT h hz
  have NW := fun W (hb : Below w.heap.size w W) => Lib.hid (CX.new W 0 args args.length s _ A2 c2 hb ((ha.below hb (Nat.le_refl _)).more hb.size) rfl hl rfl)
  have HNB := Lib.hid (new_bnd p 0 args s)
  have HCX := Lib.hid CX
  obtain ⟨EV, hEV⟩ : ∃ R, evalP p args s fuel = R := ⟨_, rfl⟩
  have hno : ¬ canP p args s fuel → EV = (zeroO, 0, 1) := fun hn => by rw [← hEV]; exact evalP_no hn
  have hcan : canP p args s fuel → EV = tellT fuel (runT p fuel.toNat [((newF p 0 args s).1, 0)]) := fun hc => by
    rw [← hEV, evalP_can hc]; unfold tellT; rfl
  rw [hEV]
  by_cases h1 : (checkP p).2.2 ≠ 0 ∨ fuel < 1 ∨ 100000 < fuel
  · obtain rfl : EV = (zeroO, 0, 1) := hno fun hc => by
      rcases h1 with h1 | h1 | h1
      · exact h1 hc.1
      · have := hc.2.1; omega
      · have := hc.2.2.1; omega
    generalize checkP p = R at *
    obtain ⟨r1, r2, r3⟩ := R
    simp only at h1 CK
    clear hno hcan hEV hT h hz ha hl CX NW HNB HCX
    have hb : ((r3 != 0) || (decide (fuel < 1) || decide (100000 < fuel))) = true := by simpa using h1
    clear h1
    generalize hq1 : (r3 != 0) = q1 at *
    generalize hq2 : decide (fuel < 1) = q2 at *
    generalize hq3 : decide (100000 < fuel) = q3 at *
    cases q1 <;> cases q2 <;> cases q3 <;> simp at hb
    all_goals go_enter Tryz.func10, Tryz.ntmps10
    all_goals go_wp2_with (first
      | (guard_target = wpList _ _ _ (Oper.mk _ (Op.alloc 32) _ _ _ none :: _) _ _; refine wpList_alloc_arr rfl 32 rfl oz0 (by kernel_rfl) ?_)
      | (go_at_call 20; (with_reducible refine (CK _ ((Below.refl _ _).alloc (Nat.le_refl _) _)).out.mono ?_); rintro _ u ⟨rfl, hb1⟩; have g8 := (Held.new w 32 oz0).below hb1; have hb2 := below_laid hb1)
      | (guard_target = wpList _ _ _ (Oper.mk _ (Op.store 32 (.tmp 8) (.tmp 33)) _ _ _ none :: _) _ _; refine wpList_store_row rfl 32 _ _ rfl w.heap.size oz0 rfl rfl _ _ g8 (by kernel_rfl) rfl (by simp [Value.oneCell']) ?_))
    all_goals exact bodyPost_ret (v := tellV (zeroO, 0, 1)) (results_ctt rfl _ _ rfl rfl rfl (load_out (g8.rowSelf oz0) rfl)) rfl ⟨rfl, below_row hb2 (Nat.le_refl _) _⟩
  · have h3 : (checkP p).2.2 = 0 := by
      rcases Int.lt_trichotomy (checkP p).2.2 0 with e | e | e
      · exact absurd (.inl (by omega)) h1
      · exact e
      · exact absurd (.inl (by omega)) h1
    have f1 : 1 ≤ fuel := by
      rcases Int.lt_or_le fuel 1 with e | e
      · exact absurd (.inr (.inl e)) h1
      · exact e
    have f2 : fuel ≤ 100000 := by
      rcases Int.lt_or_le 100000 fuel with e | e
      · exact absurd (.inr (.inr e)) h1
      · exact e
    have q1 : decide (fuel < 1) = false := decide_eq_false (by omega)
    have q2 : decide (100000 < fuel) = false := decide_eq_false (by omega)
    have HQ := Lib.hid (And.intro f1 f2)
    clear h1
    by_cases hn : (newF p 0 args s).2 = true
    · obtain rfl := hcan ⟨h3, f1, f2, hn⟩
      have HP := Lib.hid (And.intro hT (And.intro h hz))
      have HNF := Lib.hid (rfl : (newF p 0 args s).1 = (newF p 0 args s).1)
      generalize hNR : newF p 0 args s = NR at *
      obtain ⟨F, nb⟩ := NR
      simp only at hn HNB
      subst hn
      show Calls _ _ _ _ fun e w' => e = .returned (tellV (tellT fuel (runT p fuel.toNat [(F, 0)]))) ∧ Below w.heap.size w w'
      generalize hTT : tellT fuel (runT p fuel.toNat [(F, 0)]) = TT
      have HTT := Lib.hid hTT
      clear hTT
      obtain ⟨⟨ot, oa, ob⟩, n, er⟩ := TT
      generalize checkP p = R at *
      obtain ⟨r1, r2, r3⟩ := R
      simp only at h3 CK
      subst h3
      clear hno hcan hEV hT h hz ha hl CX f1 f2 HNF hNR
      generalize hpl : p.length = pl at *
      generalize hal : args.length = al at *
      go_enter Tryz.func10, Tryz.ntmps10
      go_upto_region 7 with (first
      | (guard_target = wpList _ _ _ (Oper.mk _ (Op.alloc 32) _ _ _ none :: _) _ _; refine wpList_alloc_arr rfl 32 rfl oz0 (by kernel_rfl) ?_)
      | (go_at_call 20; (with_reducible refine (CK _ ((Below.refl _ _).alloc (Nat.le_refl _) _)).out.mono ?_); rintro _ u ⟨rfl, hb1⟩; have g8 := (Held.new w 32 oz0).below hb1; have hb2 := below_laid hb1)
      | (guard_target = wpList _ _ _ (Oper.mk _ (Op.store 32 (.tmp 8) (.tmp 33)) _ _ _ none :: _) _ _; refine wpList_store_row rfl 32 _ _ rfl w.heap.size oz0 rfl rfl _ _ g8 (by kernel_rfl) rfl (by simp [Value.oneCell']) ?_)
      | (go_at_call 21; (with_reducible refine (NW _ hb2).out.mono ?_); rintro _ u2 ⟨v', rfl, ho, hbu2⟩; obtain ⟨cs', rfl, hfc⟩ := ho.cells; have g8b := g8.below hbu2; have hb3 := Below.step hb2 hbu2)
      | (guard_target = wpList _ _ _ (Oper.mk _ (Op.alloc 58) _ _ _ none :: _) _ _; refine wpList_alloc_arr rfl 58 rfl fz0 (by kernel_rfl) ?_)
      | (guard_target = wpList _ _ _ (Oper.mk _ (Op.store 58 (.tmp 14) (.tmp 39)) _ _ _ none :: _) _ _; refine wpList_store_row rfl 58 _ _ rfl u2.heap.size cs' rfl rfl _ _ (Held.new u2 58 fz0) (fb_info hfc) (by rw [hfc.size]; rfl) hfc.one ?_))
      have hbF : Below u2.heap.size u2 ((u2.alloc (.cells fz0 58)).setRow u2.heap.size cs') := below_row ((Below.refl _ _).alloc (Nat.le_refl _) _) (Nat.le_refl _) _
      have hF := (Held.new u2 58 fz0).rowSelf cs'
      have ho3 := (ho.mono (Nat.zero_le _)).below hbF
      have g8c := g8b.below hbF
      have hb4 := Below.step hb3 hbF
      generalize (u2.alloc (.cells fz0 58)).setRow u2.heap.size cs' = W3 at *
      have hk : Held (W3.alloc (.cells #[.slice none 0 0, .int .i64 0, .int .i64 0, .slice none 0 0] 63)) W3.heap.size 63 _ := Held.new W3 _ _
      have hbR : Below W3.heap.size W3 ((W3.alloc (.cells #[.slice none 0 0, .int .i64 0, .int .i64 0, .slice none 0 0] 63)).setRow W3.heap.size #[.slice A pl c, .int .i64 fuel, .int .i64 0, .slice none 0 0]) := below_row ((Below.refl _ _).alloc (Nat.le_refl _) _) (Nat.le_refl _) _
      have hR4 : Held ((W3.alloc (.cells #[.slice none 0 0, .int .i64 0, .int .i64 0, .slice none 0 0] 63)).setRow W3.heap.size #[.slice A pl c, .int .i64 fuel, .int .i64 0, .slice none 0 0]) W3.heap.size 63 #[.slice A pl c, .int .i64 fuel, .int .i64 0, .slice none 0 0] := hk.rowSelf _
      clear hb1 g8 hb2 hbu2 ho g8b hb3 CK NW
      go_upto_region 8 with (first
        | (guard_target = wpList _ _ _ (Oper.mk _ (Op.alloc 63) _ _ _ none :: _) _ _; refine wpList_alloc_arr rfl 63 rfl #[.slice none 0 0, .int .i64 0, .int .i64 0, .slice none 0 0] (by kernel_rfl) ?_)
        | (guard_target = wpList _ _ _ (Oper.mk _ (Op.store 63 (.tmp 16) (.tmp 46)) _ _ _ none :: _) _ _; refine wpList_store_row rfl 63 _ _ rfl W3.heap.size #[.slice A pl c, .int .i64 fuel, .int .i64 0, .slice none 0 0] rfl rfl _ _ hk (by kernel_rfl) rfl (by simp [Value.oneCell']) ?_))
      generalize (W3.alloc (.cells #[.slice none 0 0, .int .i64 0, .int .i64 0, .slice none 0 0] 63)).setRow W3.heap.size #[.slice A pl c, .int .i64 fuel, .int .i64 0, .slice none 0 0] = W4 at *
      have hRS : RunS W4 W3.heap.size W3.heap.size (.slice A pl c) fuel 0 (.slice none 0 0) [] := ⟨hR4, Nat.le_refl _, World.ownsRow_nil _ _ _ _, fun x hx => by simp at hx⟩
      have hTK : TskOk W4 ⟨cs', F, 0⟩ := ⟨ho3.below hbR, hfc, HNB.out⟩
      have SR := Lib.hid (sresult_any W4 HCX.out (Below.step hb4 hbR) hb4.size hRS hTK hbR.size HQ.out.1 HQ.out.2)
      have hF4 := hF.below hbR
      have g8d := g8c.below hbR
      have hb5 := Below.step hb4 hbR
      have hlt8 := g8c.lt
      have hbs := hb4.size
      clear hRS hTK hR4 hk hbR hF g8c ho3 HCX HP HQ HNB hbF q1 q2
      rw [HTT.out] at SR
      go_wp2_with (first
        | (guard_target = wpList _ _ _ (Oper.mk _ (Op.load 58 (.tmp 14)) _ _ _ none :: _) _ _; refine wpList_load_row rfl 58 _ rfl u2.heap.size rfl 58 cs' (0, 0) _ hF4 Tryz.underlying58 rfl (fb_info hfc) ?_)
        | (go_at_call 22; (with_reducible refine SR.out.mono ?_); rintro _ u5 ⟨rfl, hb6⟩; have g8e : Held u5 w.heap.size 32 oz0 := (hb6.block _ hlt8).trans g8d)
        | (guard_target = wpList _ _ _ (Oper.mk _ (Op.store 32 (.tmp 8) (.tmp 49)) _ _ _ none :: _) _ _; refine wpList_store_row rfl 32 _ _ rfl w.heap.size #[.int .i64 ot, .int .i64 oa, .int .i64 ob] rfl rfl _ _ g8e (by kernel_rfl) rfl (by simp [Value.oneCell']) ?_))
      exact bodyPost_ret (v := tellV ((ot, oa, ob), n, er)) (results_ctt rfl _ _ rfl rfl rfl (load_out (g8e.rowSelf _) rfl)) rfl ⟨rfl, below_row (hb5.trans (hb6.mono hbs)) (Nat.le_refl _) _⟩
    · obtain rfl : EV = (zeroO, 0, 1) := hno fun hc => hn hc.2.2.2
      have hn2 : (newF p 0 args s).2 = false := by simpa using hn
      generalize hNR : newF p 0 args s = NR at *
      obtain ⟨F, nb⟩ := NR
      simp only at hn2
      subst hn2
      generalize checkP p = R at *
      obtain ⟨r1, r2, r3⟩ := R
      simp only at h3 CK
      subst h3
      clear hno hcan hEV hT h hz ha hl CX f1 f2 hNR hn HNB HCX HQ
      generalize hpl : p.length = pl at *
      generalize hal : args.length = al at *
      go_enter Tryz.func10, Tryz.ntmps10
      go_wp2_with (first
        | (guard_target = wpList _ _ _ (Oper.mk _ (Op.alloc 32) _ _ _ none :: _) _ _; refine wpList_alloc_arr rfl 32 rfl oz0 (by kernel_rfl) ?_)
        | (go_at_call 20; (with_reducible refine (CK _ ((Below.refl _ _).alloc (Nat.le_refl _) _)).out.mono ?_); rintro _ u ⟨rfl, hb1⟩; have g8 := (Held.new w 32 oz0).below hb1; have hb2 := below_laid hb1)
        | (go_at_call 21; (with_reducible refine (NW _ hb2).out.mono ?_); rintro _ u2 ⟨v', rfl, ho, hbu2⟩; obtain ⟨cs', rfl, hfc⟩ := ho.cells; have g8b := g8.below hbu2; have hb3 := Below.step hb2 hbu2)
        | (guard_target = wpList _ _ _ (Oper.mk _ (Op.alloc 58) _ _ _ none :: _) _ _; refine wpList_alloc_arr rfl 58 rfl fz0 (by kernel_rfl) ?_)
        | (guard_target = wpList _ _ _ (Oper.mk _ (Op.store 58 (.tmp 14) (.tmp 39)) _ _ _ none :: _) _ _; refine wpList_store_row rfl 58 _ _ rfl u2.heap.size cs' rfl rfl _ _ (Held.new u2 58 fz0) (fb_info hfc) (by rw [hfc.size]; rfl) hfc.one ?_; have hbF : Below u2.heap.size u2 ((u2.alloc (.cells fz0 58)).setRow u2.heap.size cs') := below_row ((Below.refl _ _).alloc (Nat.le_refl _) _) (Nat.le_refl _) _; have g8c := g8b.below hbF)
        | (guard_target = wpList _ _ _ (Oper.mk _ (Op.store 32 (.tmp 8) (.tmp 43)) _ _ _ none :: _) _ _; refine wpList_store_row rfl 32 _ _ rfl w.heap.size oz0 rfl rfl _ _ g8c (by kernel_rfl) rfl (by simp [Value.oneCell']) ?_))
      exact bodyPost_ret (v := tellV (zeroO, 0, 1)) (results_ctt rfl _ _ rfl rfl rfl (load_out (g8c.rowSelf oz0) rfl)) rfl ⟨rfl, below_row (Below.step hb3 hbF) (Nat.le_refl _) _⟩
end Go.Proofs.YtagjddnpaahebaaGreatDoor

/- Layer 10: the calls whose answers the document fixes. -/
namespace Go.Proofs.YtagjddnpaahebaaGreatDoor
set_option linter.unusedVariables false
set_option linter.unusedSimpArgs false
open Gm Go.RowKit Go.ChangeShapes Go.WideShapes Go.ChangeAt Go.Sort

set_option maxHeartbeats 2000000 in
set_option maxRecDepth 100000 in
theorem of10_any (l : List UInt8) (w : World) (hl : l.length ≤ 1000000) :
    Calls Tryz.prog 15 #[.string ⟨l.toArray⟩] w fun e w' => ∃ A c, e = .returned (.slice A (parseP l).1.length c) ∧ ProgAt w' w'.heap.size A (parseP l).1 ∧ Below w.heap.size w w' := by
  have PA := Lib.hid (pparse_any l w hl)
  unfold ParQ at PA
  go_enter Tryz.func15, Tryz.ntmps15
  go_wp2_with (go_at_call 26; (with_reducible refine PA.out.mono ?_); rintro _ u ⟨A, c, rfl, hp, hb⟩)
  go_ret
  exact ⟨A, c, rfl, hp, hb⟩
/-- What Eval answers of a program, from world U on, where it lies. -/
structure Ev (p : List Fun) (A : Option Addr) (n c : Nat) (U : World) : Prop where
  ev : ∀ W args m s fuel R A2 c2, Below U.heap.size U W → VAt W W.heap.size A2 args → args.length = m → m ≤ 1000 → evalP p args s fuel = R → Calls Tryz.prog 10 #[.slice A n c, .slice A2 m c2, .int .i64 s, .int .i64 fuel] W fun e w' => e = .returned (tellV R) ∧ Below W.heap.size W w'
theorem ev_of {p : List Fun} {A : Option Addr} {c : Nat} {U : World} (hT : TabB U U.heap.size) (hp : ProgAt U U.heap.size A p) (hz : SizedP p) : Ev p A p.length c U := by
  refine ⟨fun W args m s fuel R A2 c2 hw ha hm hl e => ?_⟩
  subst hm
  rw [← e]
  exact seval_any c c2 s fuel W ((hT.below hw (Nat.le_refl _)).more hw.size) ((hp.below hw (Nat.le_refl _)).more hw.size) hz ha hl
theorem ev_none {W : World} : VAt W W.heap.size none [] := VAt.nil _ _ _
theorem vat10 (U : World) (a b : Int) : VAt (U.alloc (.cells #[.int .i64 a, .int .i64 b] 30)) (U.alloc (.cells #[.int .i64 a, .int .i64 b] 30)).heap.size (some ⟨U.heap.size, 0, none⟩) [(a, b)] := fun _ => by
  have h := Held.new U 30 #[.int .i64 a, .int .i64 b]
  refine ⟨_, _, rfl, h.lt, fun j hj => ?_⟩
  obtain rfl : j = 0 := by simpa using hj
  exact ⟨h.cell 0, h.cell 1⟩
theorem out_kept {w u : World} {cs : Array Value} (hb : Below w.heap.size w u) : Held ((u.alloc (.cells oz0 32)).setRow u.heap.size cs) u.heap.size 32 cs ∧ Below w.heap.size w ((u.alloc (.cells oz0 32)).setRow u.heap.size cs) ∧ Below u.heap.size u ((u.alloc (.cells oz0 32)).setRow u.heap.size cs) :=
  ⟨(Held.new u 32 oz0).rowSelf cs, below_row (hb.alloc hb.size _) hb.size _, below_row ((Below.refl _ _).alloc (Nat.le_refl _) _) (Nat.le_refl _) _⟩
set_option maxHeartbeats 8000000 in
set_option maxRecDepth 100000 in
theorem fixed10 (w : World) (hT : TabB w w.heap.size) : Calls Tryz.prog 9 #[] w fun e w' => e = .returned (.bool true) ∧ Below w.heap.size w w' := by
  have OA := fun W => Lib.hid (of10_any ta10 W (by decide))
  have OB := fun W => Lib.hid (of10_any tb10 W (by decide))
  have hga : (⟨ta10.toArray⟩ : ByteArray) = ⟨#[102, 117, 110, 99, 32, 49, 32, 49, 32, 50, 10, 108, 111, 97, 100, 32, 48, 10, 115, 112, 97, 119, 110, 32, 49, 32, 48, 10, 108, 111, 97, 100, 32, 48, 10, 115, 112, 97, 119, 110, 32, 49, 32, 49, 10, 106, 111, 105, 110, 32, 48, 10, 106, 111, 105, 110, 32, 49, 10, 115, 117, 98, 10, 114, 101, 116, 10, 102, 117, 110, 99, 32, 49, 32, 49, 32, 48, 10, 108, 111, 97, 100, 32, 48, 10, 108, 111, 97, 100, 32, 48, 10, 109, 117, 108, 10, 114, 101, 116, 10]⟩ := by apply ByteArray.ext; rfl
  have hgb : (⟨tb10.toArray⟩ : ByteArray) = ⟨#[102, 117, 110, 99, 32, 48, 32, 48, 32, 50, 10, 115, 112, 97, 119, 110, 32, 49, 32, 49, 10, 115, 112, 97, 119, 110, 32, 49, 32, 48, 10, 112, 117, 115, 104, 32, 49, 32, 48, 10, 114, 101, 116, 10, 102, 117, 110, 99, 32, 48, 32, 48, 32, 48, 10, 116, 114, 97, 112, 32, 50, 48, 10]⟩ := by apply ByteArray.ext; rfl
  rw [hga, pa10_of] at OA
  rw [hgb, pb10_of] at OB
  have OA1 : ∀ W, Hid (Calls Tryz.prog 15 #[.string ⟨#[102, 117, 110, 99, 32, 49, 32, 49, 32, 50, 10, 108, 111, 97, 100, 32, 48, 10, 115, 112, 97, 119, 110, 32, 49, 32, 48, 10, 108, 111, 97, 100, 32, 48, 10, 115, 112, 97, 119, 110, 32, 49, 32, 49, 10, 106, 111, 105, 110, 32, 48, 10, 106, 111, 105, 110, 32, 49, 10, 115, 117, 98, 10, 114, 101, 116, 10, 102, 117, 110, 99, 32, 49, 32, 49, 32, 48, 10, 108, 111, 97, 100, 32, 48, 10, 108, 111, 97, 100, 32, 48, 10, 109, 117, 108, 10, 114, 101, 116, 10]⟩] W fun e w' => ∃ A c, e = .returned (.slice A 2 c) ∧ ProgAt w' w'.heap.size A pa10 ∧ Below W.heap.size W w') := OA
  have OB1 : ∀ W, Hid (Calls Tryz.prog 15 #[.string ⟨#[102, 117, 110, 99, 32, 48, 32, 48, 32, 50, 10, 115, 112, 97, 119, 110, 32, 49, 32, 49, 10, 115, 112, 97, 119, 110, 32, 49, 32, 48, 10, 112, 117, 115, 104, 32, 49, 32, 48, 10, 114, 101, 116, 10, 102, 117, 110, 99, 32, 48, 32, 48, 32, 48, 10, 116, 114, 97, 112, 32, 50, 48, 10]⟩] W fun e w' => ∃ A c, e = .returned (.slice A 2 c) ∧ ProgAt w' w'.heap.size A pb10 ∧ Below W.heap.size W w') := OB
  clear OA OB hga hgb
  have hza : SizedP pa10 := by rw [← pa10_of]; exact parse_sized _
  have hzb : SizedP pb10 := by rw [← pb10_of]; exact parse_sized _
  go_enter Tryz.func9, Tryz.ntmps9
  go_upto_region 2 with (first
    | (go_at_call 15; (with_reducible refine (OA1 _).out.mono ?_); rintro _ U ⟨A, c, rfl, hp, hb⟩))
  have EA := Lib.hid (show Ev pa10 A 2 c U from ev_of (c := c) ((hT.below hb (Nat.le_refl _)).more hb.size) hp hza)
  have HW := Lib.hid hb
  have HTU := Lib.hid ((hT.below hb (Nat.le_refl _)).more hb.size)
  clear hT hp hza hb OA1
  have hv2 := vat10 U 3 1
  have hw2 : Below U.heap.size U (U.alloc (.cells #[.int .i64 3, .int .i64 1] 30)) := (Below.refl U.heap.size U).alloc (Below.size (Below.refl U.heap.size U)) _
  go_upto_region 3 with (first
    | (go_at_call 10; (with_reducible refine (EA.out.ev _ _ 1 _ _ _ _ _ hw2 hv2 rfl (by decide) ev10a).mono ?_); rintro _ u2 ⟨rfl, hb2⟩; have hz2 := Held.new u2 32 oz0)
    | (guard_target = wpList _ _ _ (Oper.mk _ (Op.alloc 32) _ _ _ none :: _) _ _; refine wpList_alloc_arr rfl 32 rfl oz0 (by kernel_rfl) ?_)
    | (guard_target = wpList _ _ _ (Oper.mk _ (Op.store 32 (.tmp 2) (.tmp 20)) _ _ _ none :: _) _ _; refine wpList_store_row rfl 32 _ _ rfl u2.heap.size #[.int .i64 0, .int .i64 0, .int .i64 0] rfl rfl _ _ hz2 (by kernel_rfl) rfl (by simp [Value.oneCell']) ?_))
  obtain ⟨hO2, _, hn2⟩ := out_kept (cs := #[.int .i64 0, .int .i64 0, .int .i64 0]) hb2
  have hp2 := Below.step (Below.step hw2 hb2) hn2
  generalize (u2.alloc (.cells oz0 32)).setRow u2.heap.size #[.int .i64 0, .int .i64 0, .int .i64 0] = W2 at *
  clear hv2 hw2 hb2 hz2 hn2
  have hv3 := vat10 W2 3 0
  have hw3 : Below U.heap.size U (W2.alloc (.cells #[.int .i64 3, .int .i64 0] 30)) := hp2.alloc (Below.size hp2) _
  go_upto_region 4 with (first
    | (go_at_call 10; (with_reducible refine (EA.out.ev _ _ 1 _ _ _ _ _ hw3 hv3 rfl (by decide) ev10b).mono ?_); rintro _ u3 ⟨rfl, hb3⟩; have hz3 := Held.new u3 32 oz0)
    | (guard_target = wpList _ _ _ (Oper.mk _ (Op.alloc 32) _ _ _ none :: _) _ _; refine wpList_alloc_arr rfl 32 rfl oz0 (by kernel_rfl) ?_)
    | (guard_target = wpList _ _ _ (Oper.mk _ (Op.store 32 (.tmp 5) (.tmp 28)) _ _ _ none :: _) _ _; refine wpList_store_row rfl 32 _ _ rfl u3.heap.size #[.int .i64 0, .int .i64 0, .int .i64 0] rfl rfl _ _ hz3 (by kernel_rfl) rfl (by simp [Value.oneCell']) ?_))
  obtain ⟨hO3, _, hn3⟩ := out_kept (cs := #[.int .i64 0, .int .i64 0, .int .i64 0]) hb3
  have hp3 := Below.step (Below.step hw3 hb3) hn3
  have hO2 := hO2.below (Below.step (Below.step ((Below.refl _ _).alloc (Nat.le_refl _) _) hb3) hn3)
  generalize (u3.alloc (.cells oz0 32)).setRow u3.heap.size #[.int .i64 0, .int .i64 0, .int .i64 0] = W3 at *
  clear hv3 hw3 hb3 hz3 hn3 hO3
  go_upto_region 5 with (first
    | (go_at_call 10; (with_reducible refine (EA.out.ev _ _ 0 _ _ _ _ _ hp3 ev_none rfl (by decide) ev10c).mono ?_); rintro _ u4 ⟨rfl, hb4⟩; have hz4 := Held.new u4 32 oz0)
    | (guard_target = wpList _ _ _ (Oper.mk _ (Op.alloc 32) _ _ _ none :: _) _ _; refine wpList_alloc_arr rfl 32 rfl oz0 (by kernel_rfl) ?_)
    | (guard_target = wpList _ _ _ (Oper.mk _ (Op.store 32 (.tmp 8) (.tmp 34)) _ _ _ none :: _) _ _; refine wpList_store_row rfl 32 _ _ rfl u4.heap.size #[.int .i64 0, .int .i64 0, .int .i64 0] rfl rfl _ _ hz4 (by kernel_rfl) rfl (by simp [Value.oneCell']) ?_))
  obtain ⟨hO4, _, hn4⟩ := out_kept (cs := #[.int .i64 0, .int .i64 0, .int .i64 0]) hb4
  have hp4 := Below.step (Below.step hp3 hb4) hn4
  have hO2 := hO2.below (Below.step hb4 hn4)
  generalize (u4.alloc (.cells oz0 32)).setRow u4.heap.size #[.int .i64 0, .int .i64 0, .int .i64 0] = W4 at *
  clear hb4 hz4 hn4 hO4
  go_upto_region 6 with (first
    | (go_at_call 15; (with_reducible refine (OB1 _).out.mono ?_); rintro _ U2 ⟨A3, c3, rfl, hpB, hbB⟩; have hpU := Below.step hp4 hbB; have EB := Lib.hid (show Ev pb10 A3 2 c3 U2 from ev_of (c := c3) ((HTU.out.below hpU (Nat.le_refl _)).more hpU.size) hpB hzb))
    | (go_at_call 10; (with_reducible refine (EB.out.ev _ _ 0 _ _ _ _ _ (Below.refl U2.heap.size U2) ev_none rfl (by decide) ev10d).mono ?_); rintro _ u5 ⟨rfl, hb5⟩; have hz5 := Held.new u5 32 oz0)
    | (guard_target = wpList _ _ _ (Oper.mk _ (Op.alloc 32) _ _ _ none :: _) _ _; refine wpList_alloc_arr rfl 32 rfl oz0 (by kernel_rfl) ?_)
    | (guard_target = wpList _ _ _ (Oper.mk _ (Op.store 32 (.tmp 11) (.tmp 40)) _ _ _ none :: _) _ _; refine wpList_store_row rfl 32 _ _ rfl u5.heap.size #[.int .i64 20, .int .i64 0, .int .i64 0] rfl rfl _ _ hz5 (by kernel_rfl) rfl (by simp [Value.oneCell']) ?_))
  obtain ⟨hO5, _, hn5⟩ := out_kept (cs := #[.int .i64 20, .int .i64 0, .int .i64 0]) hb5
  have hp5 := Below.step (Below.step hpU hb5) hn5
  have hO2 := hO2.below (Below.step (Below.step hbB hb5) hn5)
  generalize (u5.alloc (.cells oz0 32)).setRow u5.heap.size #[.int .i64 20, .int .i64 0, .int .i64 0] = W5 at *
  have a0 := hO2.cell 0
  have a1 := hO2.cell 1
  have a2 := hO2.cell 2
  have b0 := hO5.cell 0
  have b1 := hO5.cell 1
  have b2 := hO5.cell 2
  simp at a0 a1 a2 b0 b1 b2
  have HF := Lib.hid (HW.out.trans (hp5.mono HW.out.size))
  clear hb5 hz5 hn5 hO5 hO2 hp5 hpU hpB hbB hp4 hp3 hp2 EA EB HW HTU OB1 hzb
  go_wp2_with fail
  go_ret
  exact ⟨rfl, HF.out⟩
end Go.Proofs.YtagjddnpaahebaaGreatDoor

/- Layer 9: arguments that are frames, lists of values, opened. -/
namespace Go.Proofs.YtagjddnpaahebaaGreatDoor
set_option linter.unusedVariables false
set_option linter.unusedSimpArgs false
open Gm Go.RowKit Go.ChangeShapes Go.WideShapes Go.ChangeAt Go.Deep Go.Joins

section
variable {H : Type} {enc : TypeId × Value → H} {W : World} {base : Nat} {sp : Nat → Bool} {hd : Bool} {fuel : Nat}
theorem ci1 : Tryz.prog.cellsOf 3 = 1 := by kernel_rfl
theorem ci2 : Tryz.prog.cellsOf 56 = 2 := by kernel_rfl
theorem ci3 : Tryz.prog.cellsOf 32 = 3 := by kernel_rfl
theorem ciV : Tryz.prog.cellsOf 30 = 2 := by kernel_rfl
theorem ciS : Tryz.prog.cellsOf 83 = 6 := by kernel_rfl
theorem ciF : Tryz.prog.cellsOf 58 = 16 := by kernel_rfl
theorem ciVs : Tryz.prog.cellsOf 24 = 1 := by kernel_rfl
theorem ciSs : Tryz.prog.cellsOf 54 = 1 := by kernel_rfl
theorem open_i {c : Value} {y : DataW H × List MemPlace} (g : DataW.trod enc Tryz.prog W base sp hd fuel 3 [c] = some y) : ∃ n : Int, c = .int .i64 n := by
  obtain ⟨n0, e0, _, _⟩ := DataW.trod_int Tryz.underlying3 g
  simp at e0
  exact ⟨n0, e0⟩
theorem open_ref2 {a b : Value} {y : DataW H × List MemPlace} (g : DataW.trod enc Tryz.prog W base sp hd fuel 56 [a, b] = some y) : ∃ n m : Int, a = .int .i64 n ∧ b = .int .i64 m := by
  obtain ⟨y0, y1, k, _, _, g0, g1⟩ := trod_struct2 Tryz.underlying56 g
  simp [ci1] at g0 g1
  obtain ⟨n, rfl⟩ := open_i g0
  obtain ⟨m, rfl⟩ := open_i g1
  exact ⟨n, m, rfl, rfl⟩
theorem open_val2 {a b : Value} {y : DataW H × List MemPlace} (g : DataW.trod enc Tryz.prog W base sp hd fuel 30 [a, b] = some y) : ∃ n m : Int, a = .int .i64 n ∧ b = .int .i64 m := by
  obtain ⟨y0, y1, k, _, _, g0, g1⟩ := trod_struct2 Tryz.underlying30 g
  simp [ci1] at g0 g1
  obtain ⟨n, rfl⟩ := open_i g0
  obtain ⟨m, rfl⟩ := open_i g1
  exact ⟨n, m, rfl, rfl⟩
theorem open_out3 {a b c : Value} {y : DataW H × List MemPlace} (g : DataW.trod enc Tryz.prog W base sp hd fuel 32 [a, b, c] = some y) : ∃ t n m : Int, a = .int .i64 t ∧ b = .int .i64 n ∧ c = .int .i64 m := by
  obtain ⟨y0, y1, k, _, _, g0, g1⟩ := trod_struct2 Tryz.underlying32 g
  simp [ci1, ciV] at g0 g1
  obtain ⟨t, rfl⟩ := open_i g0
  obtain ⟨n, m, rfl, rfl⟩ := open_val2 g1
  exact ⟨t, n, m, rfl, rfl, rfl⟩
theorem open_slot6 {a b c d e f : Value} {y : DataW H × List MemPlace} (g : DataW.trod enc Tryz.prog W base sp hd fuel 83 [a, b, c, d, e, f] = some y) :
    ∃ s : Slt, a = .int .i64 s.st ∧ b = .int .i64 s.kat ∧ c = .int .i64 s.kgn ∧ d = .int .i64 s.tr ∧ e = .int .i64 s.re ∧ f = .int .i64 s.im := by
  obtain ⟨y0, y1, y2, k, _, _, g0, g1, g2⟩ := trod_struct3 Tryz.underlying83 g
  simp [ci1, ci2, ci3] at g0 g1 g2
  obtain ⟨n0, rfl⟩ := open_i g0
  obtain ⟨n1, n2, rfl, rfl⟩ := open_ref2 g1
  obtain ⟨n3, n4, n5, rfl, rfl, rfl⟩ := open_out3 g2
  exact ⟨⟨n0, n1, n2, n3, n4, n5⟩, rfl, rfl, rfl, rfl, rfl, rfl⟩
instance : Inhabited Slt := ⟨slt0⟩
set_option maxRecDepth 100000 in
theorem open_vals {cs : List Value} {x : DataW H × List MemPlace} (h : DataW.trod enc Tryz.prog W base sp hd fuel 24 cs = some x) : ∃ A c l, cs = [.slice A l.length c] ∧ VAt W W.heap.size A l ∧ l.length ≤ maxLen := by
  rcases open_slice Tryz.underlying24 h with ⟨rfl, _⟩ | ⟨a, len, cap, m, n, D, Pl, rfl, _, hl, hm, hmm, rfl, hx⟩
  · exact ⟨none, 0, [], rfl, VAt.nil _ _ _, by simp⟩
  · have hlm : len ≤ m := by rw [hmm]; split <;> omega
    have each : ∀ i, i < len → ∃ q : V, W.cell? (a.add (i * 2)) = some (.int .i64 q.1) ∧ W.cell? (a.add (i * 2 + 1)) = some (.int .i64 q.2) := by
      intro i hi
      obtain ⟨cs', h1, h2⟩ := hx i (by omega)
      rw [ciV] at h1
      obtain ⟨_, hlen, hcell⟩ := World.cells?_some h1
      match cs', hlen with
      | [v0, v1], _ =>
        obtain ⟨n0, n1, rfl, rfl⟩ := open_val2 h2
        have c0 := hcell 0 (by omega)
        have c1 := hcell 1 (by omega)
        rw [add_add] at c0 c1
        exact ⟨(n0, n1), by simpa using c0, by simpa using c1⟩
    obtain ⟨q, hq⟩ := choose_lt each
    refine ⟨some a, cap, (List.range len).map q, by simp, fun h0 => ?_, by simp; omega⟩
    have hlen : 0 < len := by simpa using h0
    obtain ⟨b, off, spot⟩ := a
    have hspot : spot = none := by simpa [Addr.add] using World.cell?_spot (hq 0 hlen).1
    subst hspot
    refine ⟨b, off, rfl, block_lt_of_cell (a := Addr.add ⟨b, off, none⟩ (0 * 2)) (hq 0 hlen).1, fun j hj => ?_⟩
    have hj' : j < len := by simpa using hj
    obtain ⟨c0, c1⟩ := hq j hj'
    rw [addr_add] at c0 c1
    simp only [List.getElem_map, List.getElem_range]
    exact ⟨c0, c1⟩
set_option maxRecDepth 100000 in
theorem open_slots {cs : List Value} {x : DataW H × List MemPlace} (h : DataW.trod enc Tryz.prog W base sp hd fuel 54 cs = some x) : ∃ A c l, cs = [.slice A l.length c] ∧ SAt W W.heap.size A l ∧ l.length ≤ maxLen := by
  rcases open_slice Tryz.underlying54 h with ⟨rfl, _⟩ | ⟨a, len, cap, m, n, D, Pl, rfl, _, hl, hm, hmm, rfl, hx⟩
  · exact ⟨none, 0, [], rfl, SAt.nil _ _ _, by simp⟩
  · have hlm : len ≤ m := by rw [hmm]; split <;> omega
    have each : ∀ i, i < len → ∃ q : Slt, W.cell? (a.add (i * 6)) = some (.int .i64 q.st) ∧ W.cell? (a.add (i * 6 + 1)) = some (.int .i64 q.kat) ∧ W.cell? (a.add (i * 6 + 2)) = some (.int .i64 q.kgn) ∧ W.cell? (a.add (i * 6 + 3)) = some (.int .i64 q.tr) ∧ W.cell? (a.add (i * 6 + 4)) = some (.int .i64 q.re) ∧ W.cell? (a.add (i * 6 + 5)) = some (.int .i64 q.im) := by
      intro i hi
      obtain ⟨cs', h1, h2⟩ := hx i (by omega)
      rw [ciS] at h1
      obtain ⟨_, hlen, hcell⟩ := World.cells?_some h1
      match cs', hlen with
      | [v0, v1, v2, v3, v4, v5], _ =>
        obtain ⟨s, rfl, rfl, rfl, rfl, rfl, rfl⟩ := open_slot6 h2
        have c0 := hcell 0 (by omega)
        have c1 := hcell 1 (by omega)
        have c2 := hcell 2 (by omega)
        have c3 := hcell 3 (by omega)
        have c4 := hcell 4 (by omega)
        have c5 := hcell 5 (by omega)
        rw [add_add] at c0 c1 c2 c3 c4 c5
        exact ⟨s, by simpa using c0, by simpa using c1, by simpa using c2, by simpa using c3, by simpa using c4, by simpa using c5⟩
    obtain ⟨q, hq⟩ := choose_lt each
    refine ⟨some a, cap, (List.range len).map q, by simp, fun h0 => ?_, by simp; omega⟩
    have hlen : 0 < len := by simpa using h0
    obtain ⟨b, off, spot⟩ := a
    have hspot : spot = none := by simpa [Addr.add] using World.cell?_spot (hq 0 hlen).1
    subst hspot
    refine ⟨b, off, rfl, block_lt_of_cell (a := Addr.add ⟨b, off, none⟩ (0 * 6)) (hq 0 hlen).1, fun j hj => ?_⟩
    have hj' : j < len := by simpa using hj
    obtain ⟨c0, c1, c2, c3, c4, c5⟩ := hq j hj'
    rw [addr_add] at c0 c1 c2 c3 c4 c5
    simp only [List.getElem_map, List.getElem_range]
    exact ⟨c0, c1, c2, c3, c4, c5⟩
end
theorem array16 {α : Type} {cs : Array α} (h : cs.size = 16) : ∃ c0 c1 c2 c3 c4 c5 c6 c7 c8 c9 c10 c11 c12 c13 c14 c15, cs = #[c0, c1, c2, c3, c4, c5, c6, c7, c8, c9, c10, c11, c12, c13, c14, c15] := by
  obtain ⟨l⟩ := cs
  match l, h with
  | [c0, c1, c2, c3, c4, c5, c6, c7, c8, c9, c10, c11, c12, c13, c14, c15], _ => exact ⟨c0, c1, c2, c3, c4, c5, c6, c7, c8, c9, c10, c11, c12, c13, c14, c15, rfl⟩
set_option maxHeartbeats 2000000 in
set_option maxRecDepth 100000 in
/-- A frame, opened. -/
theorem open_frame {H : Type} {enc : TypeId × Value → H} {W : World} {base : Nat} {v : Value} {d : DataW H} {p : List MemPlace}
    (k : Value.okWide Tryz.prog W .any base 58 v) (h : DataW.Trod enc Tryz.prog W 0 (fun _ => true) true 58 v d p) : ∃ f : Frm, FrmAt W W.heap.size v f := by
  obtain ⟨cs, rfl, hsz⟩ := okWide_struct Tryz.underlying58 k
  obtain ⟨c0, c1, c2, c3, c4, c5, c6, c7, c8, c9, c10, c11, c12, c13, c14, c15, rfl⟩ := array16 (hsz.trans ciF)
  obtain ⟨fuel, hf⟩ := h
  obtain ⟨xs, n, _, _, hl, hlen, hg⟩ := DataW.trod_struct Tryz.underlying58 hf
  have hx : ∀ i, i < 13 → ∃ y, xs[i]? = some y := fun i hi => ⟨xs[i]'(by rw [hlen]; exact hi), List.getElem?_eq_getElem _⟩
  simp only [Value.cells] at hg
  clear hf hl hsz k
  obtain ⟨y0, e0⟩ := hx 0 (by omega)
  have g0 := (hg 0 _ rfl).trans e0
  simp [ci1, ci2, ci3, ciVs, ciSs] at g0
  obtain ⟨y1, e1⟩ := hx 1 (by omega)
  have g1 := (hg 1 _ rfl).trans e1
  simp [ci1, ci2, ci3, ciVs, ciSs] at g1
  obtain ⟨y2, e2⟩ := hx 2 (by omega)
  have g2 := (hg 2 _ rfl).trans e2
  simp [ci1, ci2, ci3, ciVs, ciSs] at g2
  obtain ⟨y3, e3⟩ := hx 3 (by omega)
  have g3 := (hg 3 _ rfl).trans e3
  simp [ci1, ci2, ci3, ciVs, ciSs] at g3
  obtain ⟨y4, e4⟩ := hx 4 (by omega)
  have g4 := (hg 4 _ rfl).trans e4
  simp [ci1, ci2, ci3, ciVs, ciSs] at g4
  obtain ⟨y5, e5⟩ := hx 5 (by omega)
  have g5 := (hg 5 _ rfl).trans e5
  simp [ci1, ci2, ci3, ciVs, ciSs] at g5
  obtain ⟨y6, e6⟩ := hx 6 (by omega)
  have g6 := (hg 6 _ rfl).trans e6
  simp [ci1, ci2, ci3, ciVs, ciSs] at g6
  obtain ⟨y7, e7⟩ := hx 7 (by omega)
  have g7 := (hg 7 _ rfl).trans e7
  simp [ci1, ci2, ci3, ciVs, ciSs] at g7
  obtain ⟨y8, e8⟩ := hx 8 (by omega)
  have g8 := (hg 8 _ rfl).trans e8
  simp [ci1, ci2, ci3, ciVs, ciSs] at g8
  obtain ⟨y9, e9⟩ := hx 9 (by omega)
  have g9 := (hg 9 _ rfl).trans e9
  simp [ci1, ci2, ci3, ciVs, ciSs] at g9
  obtain ⟨y10, e10⟩ := hx 10 (by omega)
  have g10 := (hg 10 _ rfl).trans e10
  simp [ci1, ci2, ci3, ciVs, ciSs] at g10
  obtain ⟨y11, e11⟩ := hx 11 (by omega)
  have g11 := (hg 11 _ rfl).trans e11
  simp [ci1, ci2, ci3, ciVs, ciSs] at g11
  obtain ⟨y12, e12⟩ := hx 12 (by omega)
  have g12 := (hg 12 _ rfl).trans e12
  simp [ci1, ci2, ci3, ciVs, ciSs] at g12
  obtain ⟨n0, rfl⟩ := open_i g0
  obtain ⟨n1, rfl⟩ := open_i g1
  obtain ⟨A2, k2, l2, q2, h2, _⟩ := open_vals g2
  simp at q2
  subst q2
  obtain ⟨A3, k3, l3, q3, h3, _⟩ := open_vals g3
  simp at q3
  subst q3
  obtain ⟨A4, k4, l4, q4, h4, _⟩ := open_slots g4
  simp at q4
  subst q4
  obtain ⟨n5, rfl⟩ := open_i g5
  obtain ⟨n6, rfl⟩ := open_i g6
  obtain ⟨n7, rfl⟩ := open_i g7
  obtain ⟨n8, rfl⟩ := open_i g8
  obtain ⟨n9, rfl⟩ := open_i g9
  obtain ⟨t1, t2, t3, rfl, rfl, rfl⟩ := open_out3 g10
  obtain ⟨r1, r2, rfl, rfl⟩ := open_ref2 g11
  obtain ⟨n12, rfl⟩ := open_i g12
  exact ⟨⟨n0, n1, l2, l3, l4, n5, n6, n7, n8, n9, t1, t2, t3, r1, r2, n12⟩, A2, k2, A3, k3, A4, k4, rfl, h2, h3, h4⟩
end Go.Proofs.YtagjddnpaahebaaGreatDoor

/- Layer 10: arguments that are inputs, opened: a program, its arguments, a seed. -/
namespace Go.Proofs.YtagjddnpaahebaaGreatDoor
set_option linter.unusedVariables false
set_option linter.unusedSimpArgs false
open Gm Go.RowKit Go.ChangeShapes Go.WideShapes Go.ChangeAt Go.Deep Go.Joins

set_option maxRecDepth 100000 in
theorem open_progT {H : Type} {enc : TypeId × Value → H} {W : World} {fuel : Nat} {cs : List Value} {x : DataW H × List MemPlace}
    (hf : DataW.trod enc Tryz.prog W 0 (fun _ => true) true fuel 23 cs = some x) : ∃ A c ps, cs = [.slice A ps.length c] ∧ ProgAt W W.heap.size A ps ∧ SizedP ps := by
  rcases open_slice Tryz.underlying23 hf with ⟨hcs, _⟩ | ⟨a, len', cap', m, n, D, Pl, hcs, _, hl, hm, hmm, _, hx⟩
  · exact ⟨none, 0, [], by simpa using hcs, ProgAt.nil _ _ _, by simp, by intro x hx; simp at hx⟩
  · simp only [if_true] at hmm
    subst hcs
    generalize len' = len at *
    generalize cap' = cap at *
    have ce : Tryz.prog.cellsOf 41 = 4 := by kernel_rfl
    have each : ∀ i, i < len → ∃ f : Fun, (W.cell? (a.add (i * 4)) = some (.int .i64 f.ar) ∧ W.cell? (a.add (i * 4 + 1)) = some (.int .i64 f.lo) ∧ W.cell? (a.add (i * 4 + 2)) = some (.int .i64 f.sl) ∧
        ∃ B c, W.cell? (a.add (i * 4 + 3)) = some (.slice B f.code.length c) ∧ CodeAt W W.heap.size B f.code) ∧ f.code.length ≤ maxLen := by
      intro i hi
      obtain ⟨cs', h1, h2⟩ := hx i (by omega)
      rw [ce] at h1
      obtain ⟨_, hlen, hcell⟩ := World.cells?_some h1
      obtain ⟨y0, y1, y2, y3, k, _, _, g0, g1, g2, g3⟩ := trod_struct4 Tryz.underlying41 h2
      match cs', hlen with
      | [v0, v1, v2, v3], _ =>
        have ci : Tryz.prog.cellsOf 3 = 1 := by kernel_rfl
        have cc : Tryz.prog.cellsOf 39 = 1 := by kernel_rfl
        simp [ci, cc] at g0 g1 g2 g3
        obtain ⟨n0, e0, _, _⟩ := DataW.trod_int Tryz.underlying3 g0
        obtain ⟨n1, e1, _, _⟩ := DataW.trod_int Tryz.underlying3 g1
        obtain ⟨n2, e2, _, _⟩ := DataW.trod_int Tryz.underlying3 g2
        obtain ⟨B, c, l, e3, hc, hz⟩ := open_code g3
        simp at e0 e1 e2 e3
        subst e0 e1 e2 e3
        have c0 := hcell 0 (by omega)
        have c1 := hcell 1 (by omega)
        have c2 := hcell 2 (by omega)
        have c3 := hcell 3 (by omega)
        rw [add_add] at c0 c1 c2 c3
        exact ⟨⟨n0, n1, n2, l⟩, ⟨by simpa using c0, by simpa using c1, by simpa using c2, B, c, by simpa using c3, hc⟩, hz⟩
    obtain ⟨q, hq⟩ := choose_lt each
    refine ⟨some a, cap, (List.range len).map q, by simp, fun h0 => ?_, by simp; omega, fun f hf => ?_⟩
    · have hlen : 0 < len := by simpa using h0
      obtain ⟨b, off, spot⟩ := a
      have hspot : spot = none := by simpa [Addr.add] using World.cell?_spot (hq 0 hlen).1.1
      subst hspot
      refine ⟨b, off, rfl, block_lt_of_cell (a := Addr.add ⟨b, off, none⟩ (0 * 4)) (hq 0 hlen).1.1, fun j hj => ?_⟩
      have hj' : j < len := by simpa using hj
      obtain ⟨⟨c0, c1, c2, B, c, c3, hc⟩, _⟩ := hq j hj'
      rw [addr_add] at c0 c1 c2 c3
      simp only [List.getElem_map, List.getElem_range]
      exact ⟨c0, c1, c2, B, c, c3, hc⟩
    · obtain ⟨i, hi, rfl⟩ := List.mem_map.1 hf
      exact (hq i (by simpa using hi)).2

theorem ciP : Tryz.prog.cellsOf 23 = 1 := by kernel_rfl
theorem ciIn : Tryz.prog.cellsOf 26 = 3 := by kernel_rfl
theorem array3 {cs : Array Value} (h : cs.size = 3) : ∃ a b c, cs = #[a, b, c] := by
  obtain ⟨l⟩ := cs
  match l, h with
  | [a, b, c], _ => exact ⟨a, b, c, rfl⟩
set_option maxRecDepth 100000 in
/-- An input, opened. -/
theorem open_input {H : Type} {enc : TypeId × Value → H} {W : World} {base : Nat} {v : Value} {d : DataW H} {p : List MemPlace}
    (k : Value.okWide Tryz.prog W .any base 26 v) (h : DataW.Trod enc Tryz.prog W 0 (fun _ => true) true 26 v d p) :
    ∃ A c P A2 c2 args s, v = .agg #[.slice A (List.length P) c, .slice A2 (List.length args) c2, .int .i64 s] ∧ ProgAt W W.heap.size A P ∧ SizedP P ∧ VAt W W.heap.size A2 args := by
  obtain ⟨cs, rfl, hsz⟩ := okWide_struct Tryz.underlying26 k
  obtain ⟨c0, c1, c2, rfl⟩ := array3 (hsz.trans ciIn)
  obtain ⟨fuel, hf⟩ := h
  obtain ⟨xs, n, _, _, hl, hlen, hg⟩ := DataW.trod_struct Tryz.underlying26 hf
  have hx : ∀ i, i < 3 → ∃ y, xs[i]? = some y := fun i hi => ⟨xs[i]'(by rw [hlen]; exact hi), List.getElem?_eq_getElem _⟩
  simp only [Value.cells] at hg
  clear hf hl hsz k
  obtain ⟨y0, e0⟩ := hx 0 (by omega)
  have g0 := (hg 0 _ rfl).trans e0
  simp [ci1, ciP, ciVs] at g0
  obtain ⟨y1, e1⟩ := hx 1 (by omega)
  have g1 := (hg 1 _ rfl).trans e1
  simp [ci1, ciP, ciVs] at g1
  obtain ⟨y2, e2⟩ := hx 2 (by omega)
  have g2 := (hg 2 _ rfl).trans e2
  simp [ci1, ciP, ciVs] at g2
  obtain ⟨A, c, P, h0, hP, hz⟩ := open_progT g0
  obtain ⟨A2, cc, l, h1, hV, _⟩ := open_vals g1
  obtain ⟨s, rfl⟩ := open_i g2
  simp only [List.cons.injEq, and_true] at h0 h1
  subst h0 h1
  exact ⟨A, c, P, A2, cc, l, s, rfl, hP, hz, hV⟩
end Go.Proofs.YtagjddnpaahebaaGreatDoor

/- Arguments that are programs, opened, with their reach. -/
namespace Go.Proofs.YtagjddnpaahebaaGreatDoor
set_option linter.unusedVariables false
set_option linter.unusedSimpArgs false
open Go.RowKit Go.ChangeShapes Go.WideShapes Go.ChangeAt Go.Deep Go.Joins

theorem weights_all {H : Type} {P : Program} {e : TypeId} : ∀ {ds : List (DataW H)} {d : DataW H}, d ∈ ds → ∀ n ∈ d.weights P e, n ∈ DataW.weightsAll P e ds
  | x :: ds, d, h, n, hn => by
    rw [DataW.weightsAll, List.mem_append]
    rcases List.mem_cons.1 h with rfl | h
    · exact .inl hn
    · exact .inr (weights_all h n hn)
set_option maxRecDepth 100000 in
theorem open_code_s {H : Type} {enc : TypeId × Value → H} {W : World} {base : Nat} {sp : Nat → Bool} {hd : Bool} {fuel : Nat} {v : Value} {x : DataW H × List MemPlace}
    (h : DataW.trod enc Tryz.prog W base sp hd fuel 39 [v] = some x) {A : Option Addr} {n c : Nat} (hv : v = .slice A n c) (hw : ∀ n ∈ x.1.weights Tryz.prog 39, n ≤ reachBytes) : n * 24 ≤ reachBytes := by
  have hbe : Tryz.prog.bytesOf 44 = 24 := by kernel_rfl
  rcases open_slice Tryz.underlying39 h with ⟨hc, _⟩ | ⟨a, len, cap, m, n', D, Pl, hc, _, hl, hm, hmm, rfl, hx⟩
  · rw [hv] at hc
    simp at hc
    simp [hc.2.1, reachBytes]
  · rw [hv] at hc
    simp at hc
    have := hw ((len + (m - len)) * 24) (by simp [DataW.weights, Tryz.underlying39, hbe])
    have h2 : n = len := hc.2.1
    subst h2
    omega
set_option maxRecDepth 100000 in
theorem codes_sized {H : Type} {enc : TypeId × Value → H} {W : World} {v : Value} {d : DataW H} {p : List MemPlace}
    (h : DataW.Trod enc Tryz.prog W 0 (fun _ => true) true 23 v d p) {A : Option Addr} {c : Nat} {ps : List Fun} (hv : v = .slice A ps.length c) (hp : ProgAt W W.heap.size A ps)
    (hw : ∀ n ∈ d.weights Tryz.prog 23, n ≤ reachBytes) : ∀ f ∈ ps, f.code.length * 24 ≤ reachBytes := by
  intro f hf
  obtain ⟨j, hj, rfl⟩ := List.mem_iff_getElem.1 hf
  obtain ⟨fuel, hfu⟩ := h
  subst hv
  obtain ⟨b, off, rfl, _, hc⟩ := hp (by omega)
  obtain ⟨_, _, _, B, c3, k3, _⟩ := hc j hj
  rcases open_slice Tryz.underlying23 hfu with ⟨hcs, _⟩ | ⟨a, len, cap, m, n, D, Pl, hcs, _, hl, hm, hmm, hxx, hx⟩
  · simp [Value.cells] at hcs
  · simp [Value.cells] at hcs
    obtain ⟨rfl, rfl, rfl⟩ := hcs
    simp only [if_true] at hmm
    have ce : Tryz.prog.cellsOf 41 = 4 := by kernel_rfl
    obtain ⟨cs', h1, h2⟩ := hx j (by omega)
    rw [ce] at h1
    obtain ⟨_, hlen, hcell⟩ := World.cells?_some h1
    obtain ⟨y0, y1, y2, y3, n', hxe, _, g0, g1, g2, g3⟩ := trod_struct4 Tryz.underlying41 h2
    match cs', hlen with
    | [v0, v1, v2, v3], _ =>
      have ci : Tryz.prog.cellsOf 3 = 1 := by kernel_rfl
      have cc : Tryz.prog.cellsOf 39 = 1 := by kernel_rfl
      simp [ci, cc] at g3
      have c4 := hcell 3 (by omega)
      rw [add_add, addr_add] at c4
      have hv3 : v3 = .slice B ps[j].code.length c3 := by
        have e : W.cell? ⟨b, off + (j * 4 + 3), none⟩ = some v3 := by simpa using c4
        rw [show off + (j * 4 + 3) = off + j * 4 + 3 by omega, k3] at e
        exact (Option.some.inj e).symm
      refine open_code_s g3 hv3 fun n hn => hw n ?_
      simp only [Prod.mk.injEq] at hxx hxe
      rw [hxx.1]
      simp only [DataW.weights, Tryz.underlying23, List.mem_cons, List.mem_append]
      refine .inr (.inl (weights_all (d := D j) (List.mem_map.2 ⟨j, by simp; exact hj, rfl⟩) n ?_))
      rw [hxe.1]
      simp only [DataW.weights, Tryz.underlying41]
      simp [DataW.weightsEach, hn]
theorem sum_nat : ∀ (l : List Fun) (acc : Nat), acc + (l.map fun f => f.code.length).sum ≤ 4611686018427387904 → l.foldl (fun n f => wrap64 (n + f.code.length)) (acc : Int) = ((acc + (l.map fun f => f.code.length).sum : Nat) : Int)
  | [], acc, _ => by simp
  | f :: l, acc, h => by
    rw [List.map_cons, List.sum_cons] at h
    have e : wrap64 ((acc : Int) + f.code.length) = ((acc + f.code.length : Nat) : Int) := by
      rw [IntWalk.wrap64_in ((acc : Int) + f.code.length) (by omega)]
      omega
    rw [List.foldl_cons, e, sum_nat l (acc + f.code.length) (by omega), List.map_cons, List.sum_cons]
    congr 1
    omega
theorem sum_le (B : Nat) : ∀ (l : List Fun), (∀ f ∈ l, f.code.length ≤ B) → (l.map fun f => f.code.length).sum ≤ l.length * B
  | [], _ => by simp
  | f :: l, h => by
    have h1 := h f (by simp)
    have h2 := sum_le B l fun g hg => h g (by simp [hg])
    rw [List.map_cons, List.sum_cons, List.length_cons, Nat.succ_mul]
    omega
theorem mem_sum : ∀ (l : List Fun), ∀ f ∈ l, f.code.length ≤ (l.map fun f => f.code.length).sum
  | g :: l, f, hf => by
    rw [List.map_cons, List.sum_cons]
    rcases List.mem_cons.1 hf with rfl | hf
    · omega
    · have := mem_sum l f hf
      omega
/-- What is small is small, within Go's own reach. -/
theorem small_codes {p : List Fun} {m : Nat} (hm : m ≤ 1000) (h : smallP p m = true) (hs : ∀ f ∈ p, f.code.length * 24 ≤ reachBytes) : p.length ≤ 20 ∧ ∀ f ∈ p, f.code.length ≤ m := by
  simp only [smallP, Bool.and_eq_true, decide_eq_true_eq] at h
  obtain ⟨h1, h2⟩ := h
  have hb : ∀ f ∈ p, f.code.length ≤ 6000000000000 := fun f hf => by have := hs f hf; unfold reachBytes at this; omega
  have h3 := sum_le _ p hb
  have h4 : (p.map fun f => f.code.length).sum ≤ 20 * 6000000000000 := Nat.le_trans h3 (Nat.mul_le_mul_right _ h1)
  have h5 := sum_nat p 0 (by omega)
  unfold sumW at h2
  rw [show ((0 : Nat) : Int) = 0 from rfl] at h5
  rw [h5] at h2
  refine ⟨h1, fun f hf => ?_⟩
  have := mem_sum p f hf
  omega
end Go.Proofs.YtagjddnpaahebaaGreatDoor

/- Layer 10: has an input little? -/
namespace Go.Proofs.YtagjddnpaahebaaGreatDoor
set_option linter.unusedVariables false
set_option linter.unusedSimpArgs false
open Gm Go.RowKit Go.ChangeShapes Go.WideShapes Go.ChangeAt Go.Sort

abbrev inpA (A : Option Addr) (np c : Nat) (A2 : Option Addr) (na c2 : Nat) (s : Int) : Array Value := #[.slice A np c, .slice A2 na c2, .int .i64 s]
set_option maxHeartbeats 2000000 in
set_option maxRecDepth 100000 in
theorem small10 {A A2 : Option Addr} {p : List Fun} (c na c2 : Nat) (s : Int) (w : World) (h : ProgAt w w.heap.size A p) :
    Calls Tryz.prog 8 #[.agg (inpA A p.length c A2 na c2 s)] w fun e w' => e = .returned (.bool (smallP p 300 && decide (na ≤ 40))) ∧ Below w.heap.size w w' := by
  have SM := fun W (hb : Below w.heap.size w W) => Lib.hid (psmall_any c 300 W (h.below hb (Nat.le_refl _)))
  clear h
  generalize smallP p 300 = sp at *
  generalize hpl : p.length = pl at *
  by_cases hna : na ≤ 40
  · have h1 : decide ((na : Int) ≤ 40) = true := decide_eq_true (by omega)
    have h2 : decide (na ≤ 40) = true := decide_eq_true hna
    rw [h2]
    clear hna h2
    cases sp
    all_goals go_enter Tryz.func8, Tryz.ntmps8
    all_goals go_wp2_with (go_at_call 18; (with_reducible refine (SM _ ((Below.refl _ _).alloc (Nat.le_refl _) _)).out.mono ?_); rintro _ u ⟨rfl, rfl⟩)
    all_goals go_ret
    all_goals exact ⟨rfl, (Below.refl _ _).alloc (Nat.le_refl _) _⟩
  · have h1 : decide ((na : Int) ≤ 40) = false := decide_eq_false (by omega)
    have h2 : decide (na ≤ 40) = false := decide_eq_false hna
    rw [h2]
    clear hna h2
    cases sp
    all_goals go_enter Tryz.func8, Tryz.ntmps8
    all_goals go_wp2_with (go_at_call 18; (with_reducible refine (SM _ ((Below.refl _ _).alloc (Nat.le_refl _) _)).out.mono ?_); rintro _ u ⟨rfl, rfl⟩)
    all_goals go_ret
    all_goals exact ⟨rfl, (Below.refl _ _).alloc (Nat.le_refl _) _⟩
end Go.Proofs.YtagjddnpaahebaaGreatDoor

