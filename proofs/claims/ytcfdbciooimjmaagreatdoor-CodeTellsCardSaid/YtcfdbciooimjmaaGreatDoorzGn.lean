/- Layer 7: the document's Decode, where the count of functions is none. -/
import Derived.Test.YtcfdbciooimjmaaGreatDoorzGb
import Derived.Test.YtcfdbciooimjmaaGreatDoorzPr6
import Derived.Test.YtcfdbciooimjmaaGreatDoorzGh
namespace Go.Proofs.YtcfdbciooimjmaaGreatDoor
set_option linter.unusedVariables false
set_option linter.unusedSimpArgs false
open Go.RowKit Go.ChangeShapes Go.WideShapes Go.ChangeAt Go.Sort

set_option maxHeartbeats 2000000 in
set_option maxRecDepth 100000 in
theorem pdec_bad (s : ByteArray) (n q er : Int) (he : er ≠ 0) (G : Ct Tryz.prog 31 #[atv s 0 0, .int .i64 1, .int .i64 16] (.tuple #[.int .i64 n, atv s q er])) :
    Ct Tryz.prog 14 #[.string s] (.tuple #[.slice none 0 0, .int .i64 er]) := fun w => by
  have h1 : (er == 0) = false := by simpa using he
  have h2 : (er != 0) = true := by simpa using he
  clear he
  go_enter Tryz.func14, Tryz.ntmps14
  go_wp2_with (go_at_call 31; (with_reducible refine (G.go _).mono ?_); rintro e v ⟨rfl, hb⟩; have hsz := hb.size)
  go_loop [7] (fun i => i = .int .i64 0) (fun _ => 0)
  case atStart => rfl
  case round =>
    subst hrel
    go_wp2_with fail
    all_goals (try go_region)
    all_goals (try go_wp2_with fail)
    all_goals go_returns
    all_goals exact ⟨rfl, by go_grown⟩
end Go.Proofs.YtcfdbciooimjmaaGreatDoor

/- Layer 7: the document's Decode, out of its function. -/
namespace Go.Proofs.YtcfdbciooimjmaaGreatDoor
set_option linter.unusedVariables false
set_option linter.unusedSimpArgs false
open Go.RowKit Go.ChangeShapes Go.WideShapes Go.ChangeAt Go.Sort

/-- What the functions are that are read, and what is wrong. -/
def decM (n : Nat) (r : List UInt8) : List Fun × Int := match manyR funR n r with
  | .inl e => ([], e)
  | .inr (p, q) => if q = [] then (p, 0) else ([], 72)
/-- The document's reading of a function. -/
def FunC : Prop := ∀ (s : ByteArray) (i : Int) (t : List UInt8), s.size ≤ maxLen → At s.data.toList i t → ∃ (f : Fun) (q er : Int), (∀ g r, funR t = .inr (g, r) → er = 0 ∧ f = g ∧ At s.data.toList q r) ∧ (∀ e, funR t = .inl e → er = e ∧ e ≠ 0) ∧
  ∀ w, Calls Tryz.prog 32 #[atv s i 0] w fun e w' => ∃ c, e = .returned (.tuple #[.agg #[.int .i64 f.ar, .int .i64 f.lo, .int .i64 f.sl, c], atv s q er]) ∧ OwnC w' w.heap.size c f.code ∧ Below w.heap.size w w'
theorem OwnL.made (w : World) : OwnL (w.alloc (.cells #[] 39)) w.heap.size (.slice (some ⟨w.heap.size, 0, none⟩) 0 0) [] :=
  ⟨World.ownsRow_made w #[] 0 (Nat.le_refl _) (by decide) rfl, by simp, List.Pairwise.nil⟩
/-- One function more: no old block but the row's is turned. -/
theorem wpList_append_fun2 {w : World} {ops : Array Oper} {rest : List Oper} {o : Oper} {a : Act} {Q : Exit → Act → World → Prop} (t : TypeId) (ht : Tryz.prog.underlying t = some (.slice 39))
    (hg : o.guard = none) (s x : Operand) (hop : o.op = Op.call { callee := Callee.builtin Builtin.append, args := #[s, x], argTypes := #[t, t] })
    (B : Nat) (w0 : World) (v : Value) (l : List (Fun × Value)) (f : Fun) (c : Value) (hw : w = w0.alloc (.cells #[.int .i64 f.ar, .int .i64 f.lo, .int .i64 f.sl, c] 39)) (hs : a.eval s = v) (own : OwnL w0 B v l)
    (hc : OwnC w0 B c f.code) (hd : ∀ x ∈ l, ∀ b, x.2.ownBlock = some b → c.ownBlock ≠ some b)
    (hx : a.eval x = .slice (some ⟨w0.heap.size, 0, none⟩) 1 1) (hlen : l.length ≤ 1000000) (hB : B ≤ w0.heap.size)
    (h : ∀ v' w', OwnL w' B v' (l ++ [(f, c)]) → w0.grownBy w' v.ownBlock → wpList Tryz.prog ops Q rest (a.put o.dst v') w') : wpList Tryz.prog ops Q (o :: rest) a w := by
  subst hw
  obtain ⟨q, hi, hz0, hz1, hz2⟩ := info_parts infoFn
  have own' : (w0.alloc (.cells #[.int .i64 f.ar, .int .i64 f.lo, .int .i64 f.sl, c] 39)).ownsRow B 39 4 v l.length (flatF l) := own.1.alloc _
  obtain ⟨A, cc, hce, _⟩ := hc.code
  refine wpList_append_own _ hg s x t hop B 39 q (.agg #[.int .i64 0, .int .i64 0, .int .i64 0, .slice none 0 0]) 4 48 ht hi hz0 hz1 hz2 rfl (by decide) v l.length (flatF l) hs own' ⟨w0.heap.size, 0, none⟩ 1 1
    [.int .i64 f.ar, .int .i64 f.lo, .int .i64 f.sl, c] hx rfl (World.news_of_block (heap_alloc_last w0 _)) ?_ (by unfold maxLen; omega) (by omega) (by simp; omega) ?_
  · intro u hu
    simp at hu
    rcases hu with rfl | rfl | rfl | rfl
    · rfl
    · rfl
    · rfl
    · rw [hce]; rfl
  · intro v' w' h1 h2 _
    have hg2 : w0.grownBy w' v.ownBlock := ⟨h2.os, h2.tape, h2.output, Nat.le_trans (by simp) h2.size, fun k hk hne => (h2.block k (by simp; omega) hne).trans (Below.heap_alloc w0 _ k hk)⟩
    have hcd := (own.2.snoc hc hd).grown hg2 (fun y hy => own_ne ((own.2.snoc hc hd).1 y hy) own.1)
    refine h v' w' ⟨?_, hcd⟩ hg2
    rw [flatF_snoc, List.length_append]
    exact h1
theorem OwnL.grown {w w' : World} {B : Nat} {v : Value} {l : List (Fun × Value)} {row : Option Nat} (h : OwnL w B v l) (hg : w.grownBy w' row) (hr : ∀ b, row = some b → b < B) : OwnL w' B v l := by
  refine ⟨h.1.kept hg ?_, h.2.grown hg fun x hx b hb e => ?_⟩
  · cases hv : v.ownBlock with
    | none => exact .inl rfl
    | some k =>
      refine .inr fun e => ?_
      have := (h.1.lt k hv).1
      have := hr k e.symm
      omega
  · have h1 := hr b e
    have := (h.2.1 x hx).lt b hb
    omega
theorem OwnL.two {wr u : World} {B : Nat} {p : Value} {l : List (Fun × Value)} (h : OwnL wr B p l) (hb : Below wr.heap.size wr u) (x y : Obj) : OwnL ((u.alloc x).alloc y) B p l := (h.below hb).below (below2 u x y)
theorem OwnC.two {wr u : World} {B : Nat} {p : Value} {l : List Ins} (h : OwnC u wr.heap.size p l) (hB : B ≤ wr.heap.size) (x y : Obj) : OwnC ((u.alloc x).alloc y) B p l := (h.below (below2 u x y)).mono hB
theorem codes_apart {wr u : World} {B : Nat} {p c : Value} {l : List (Fun × Value)} {k : List Ins} (h : OwnL wr B p l) (hc : OwnC u wr.heap.size c k) : ∀ x ∈ l, ∀ b, x.2.ownBlock = some b → c.ownBlock ≠ some b := fun x hx b hb e => by
  have h1 := ((h.2.1 x hx).lt b hb).2
  have h2 := (hc.lt b e).1
  omega
/-- A block that is no own row's, behind an append. -/
theorem Held.grown {w w' : World} {g : Nat} {t : TypeId} {cs : Array Value} {row : Option Nat} (h : Held w g t cs) (hg : w.grownBy w' row) (hr : row ≠ some g) : Held w' g t cs := (hg.block g h.lt (Ne.symm hr)).trans h
theorem row_far {wr : World} {B g : Nat} {p : Value} {l : List (Fun × Value)} (h : OwnL wr B p l) (hg : g < B ∨ wr.heap.size ≤ g) : p.ownBlock ≠ some g := fun e => by
  have := h.1.lt g e
  omega
theorem set3 {v : World} {g : Nat} {a b c x y z : Value} {t : TypeId} (hx : Held v g t #[a, b, c]) : Held (((v.setCell ⟨g, 0, none⟩ x).setCell ⟨g, 1, none⟩ y).setCell ⟨g, 2, none⟩ z) g t #[x, y, z] := by
  unfold Held at *
  simp [World.setCell, Array.getElem?_modify, hx]
theorem Held.three {W : World} {g : Nat} {t : TypeId} {a b c : Value} (h : Held W g t #[a, b, c]) : W.cell? ⟨g, 0, none⟩ = some a ∧ W.cell? ⟨g, 1, none⟩ = some b ∧ W.cell? ⟨g, 2, none⟩ = some c ∧ W.frozen? ⟨g, 0, none⟩ = false ∧ W.frozen? ⟨g, 1, none⟩ = false ∧ W.frozen? ⟨g, 2, none⟩ = false :=
  ⟨h.cell 0, h.cell 1, h.cell 2, h.fz 0, h.fz 1, h.fz 2⟩
theorem grown_set (W : World) (g i : Nat) (x : Value) : W.grownBy (W.setCell ⟨g, i, none⟩ x) (some g) := ⟨rfl, rfl, rfl, by simp [World.setCell], fun k _ hne => Below.heap_setCell W ⟨g, i, none⟩ x k (fun e => hne (by rw [e]))⟩
theorem own_set3 {w : World} {B g : Nat} {p x y z : Value} {l : List (Fun × Value)} (h : OwnL w B p l) (hg : g < B) : OwnL (((w.setCell ⟨g, 0, none⟩ x).setCell ⟨g, 1, none⟩ y).setCell ⟨g, 2, none⟩ z) B p l :=
  ((h.grown (grown_set _ g 0 x) (fun b e => by cases e; exact hg)).grown (grown_set _ g 1 y) (fun b e => by cases e; exact hg)).grown (grown_set _ g 2 z) (fun b e => by cases e; exact hg)
theorem below_set3 {w v : World} {B g : Nat} {x y z : Value} (h : Below B w v) (hg : B ≤ g) : Below B w (((v.setCell ⟨g, 0, none⟩ x).setCell ⟨g, 1, none⟩ y).setCell ⟨g, 2, none⟩ z) := ((h.setCell hg x).setCell hg y).setCell hg z
set_option maxHeartbeats 2000000 in
set_option maxRecDepth 100000 in
theorem pdec_in (F : FunC) (s : ByteArray) (n : Nat) (q : Int) (r : List UInt8) (hs : s.size ≤ maxLen) (h1 : 1 ≤ n) (h16 : n ≤ 16) (hq : At s.data.toList q r)
    (G : Ct Tryz.prog 31 #[atv s 0 0, .int .i64 1, .int .i64 16] (.tuple #[.int .i64 n, atv s q 0])) (w : World) :
    Calls Tryz.prog 14 #[.string s] w fun e w' => ∃ A c p er, e = .returned (.tuple #[.slice A p.length c, .int .i64 er]) ∧ (p, er) = decM n r ∧ ProgAt w' w'.heap.size A p ∧ Below w.heap.size w w' := by
  have h16' : (n : Int) ≤ 16 := by omega
  go_enter Tryz.func14, Tryz.ntmps14
  go_wp2_with (go_at_call 31; (with_reducible refine (G.go _).mono ?_); rintro e v ⟨rfl, hb⟩; have hsz := hb.size)
  go_loopw [6, 7] (fun p i wr => ∃ (k : Nat) (l : List (Fun × Value)) (j er : Int), i = .int .i64 k ∧ k ≤ n ∧ l.length = k ∧ OwnL wr (v.heap.size + 1) p l ∧ Held wr v.heap.size 54 #[.string s, .int .i64 j, .int .i64 er] ∧ Below w.heap.size w wr ∧ v.heap.size + 1 ≤ wr.heap.size ∧
    ((er = 0 ∧ ∃ t, At s.data.toList j t ∧ manyR funR n r = contM (l.map (·.1)) (manyR funR (n - k) t)) ∨ (er ≠ 0 ∧ manyR funR n r = .inl er))) (fun _ i _ => n - (intOf i).toNat)
  case atStart =>
    exact ⟨0, [], q, 0, rfl, by omega, rfl, by simpa using OwnL.made (v.alloc (.cells #[.string s, .int .i64 q, .int .i64 0] 54)), (Held.new v _ _).alloc _, (hb.alloc hsz _).alloc (by simp; omega) _, by simp, .inl ⟨rfl, r, hq, by simp [contM_start]⟩⟩
  case round =>
    obtain ⟨k, l, j, er, rfl, hk, hl, hO, hH, hbw, hz, hcase⟩ := hrel
    have c0 : wr.cell? ⟨v.heap.size, 0, none⟩ = some (.string s) := by simpa using hH.cell 0
    have c1 : wr.cell? ⟨v.heap.size, 1, none⟩ = some (.int .i64 j) := by simpa using hH.cell 1
    have c2 : wr.cell? ⟨v.heap.size, 2, none⟩ = some (.int .i64 er) := by simpa using hH.cell 2
    rcases hcase with ⟨rfl, t, hat, hm⟩ | ⟨he, hm⟩
    · by_cases hlt : k < n
      · obtain ⟨f, q2, e2, f1, f2, FC⟩ := F s j t hs hat
        have HF := Lib.hid FC
        have HO := Lib.hid hO
        have HH := Lib.hid hH
        have HM := Lib.hid hm
        have H1 := Lib.hid f1
        have H2 := Lib.hid f2
        have HL := Lib.hid hl
        clear hO hH hm f1 f2 FC hl
        go_wp2_with (first
          | (go_at_call 32; (with_reducible refine (HF.out _).mono ?_); rintro e u ⟨c, rfl, hoc, hbu⟩; have hsu := hbu.size; obtain ⟨Ac, cc, rfl, _⟩ := hoc.code)
          | (at_builtin; refine wpList_append_fun2 _ Tryz.underlying23 rfl _ _ rfl (v.heap.size + 1) _ _ l f (.slice Ac f.code.length cc) rfl rfl (HO.out.two hbu _ _) (hoc.two hz _ _) (codes_apart HO.out hoc) (by show Value.slice (some ⟨u.heap.size + 1 + 1, 0, none⟩) 1 1 = _; simp) (by rw [HL.out]; omega) (by simp; omega) ?_; intro v' w2 ho2 hg2; have K9 := (Held.new1 u _ _ _).grown hg2 (row_far HO.out (.inr (by omega))); have K5 := ((((HH.out.below hbu).alloc _).alloc _).grown hg2 (row_far HO.out (.inl (by omega)))); have t9 := K9.three; have t5 := K5.three; have hO2 := Lib.hid ho2; have hK5 := Lib.hid K5; have hG2 := Lib.hid hg2; obtain ⟨a0, a1, a2, _, _, _⟩ := t9; obtain ⟨b0, b1, b2, b3, b4, b5⟩ := t5; clear ho2 hg2 K9 K5))
        have hbw2 : Below w.heap.size w w2 := (((Below.step hbw hbu).alloc (by omega) _).alloc (by simp; omega) _).grown hG2.out (by simp; omega) (fun b e => by have := (HO.out.1.lt b e).1; omega)
        have hsz2 := hG2.out.size
        simp at hsz2
        go_round
        case rel =>
          cases hf : funR t with
          | inl e =>
            obtain ⟨rfl, he⟩ := H2.out e hf
            exact ⟨k + 1, l ++ [(f, .slice Ac f.code.length cc)], q2, e2, by go_num, by omega, by rw [List.length_append, HL.out]; rfl, own_set3 hO2.out (by omega), set3 hK5.out, below_set3 hbw2 hsz, by simp [World.setCell]; omega,
              .inr ⟨he, by rw [HM.out, show n - k = (n - k - 1) + 1 by omega, contM_bad _ _ hf]⟩⟩
          | inr x =>
            obtain ⟨g, r1⟩ := x
            obtain ⟨rfl, rfl, ha⟩ := H1.out g r1 hf
            exact ⟨k + 1, l ++ [(f, .slice Ac f.code.length cc)], q2, 0, by go_num, by omega, by rw [List.length_append, HL.out]; rfl, own_set3 hO2.out (by omega), set3 hK5.out, below_set3 hbw2 hsz, by simp [World.setCell]; omega,
              .inl ⟨rfl, r1, ha, by rw [HM.out, show n - k = (n - (k + 1)) + 1 by omega, contM_step _ _ hf, List.map_append]; rfl⟩⟩
        case measure => simp [intOf]; omega
      · obtain rfl : k = n := by omega
        rw [Nat.sub_self, contM_end] at hm
        obtain ⟨a0, a1, a2⟩ := hat
        have hls : s.data.toList.length = s.size := rfl
        by_cases ht : t = []
        · have hd : decM k r = (l.map (·.1), 0) := by unfold decM; rw [hm]; simp only; rw [if_pos ht]
          have hj : (s.size : Int) ≤ j := by
            have := congrArg List.length a2
            rw [ht, List.length_drop, List.length_nil] at this
            omega
          have HD := Lib.hid hd
          obtain ⟨A, c, rfl, hp⟩ := hO.prog
          clear hd hm hO hH a2 ht
          go_wp2_with fail
          go_returns
          exact ⟨A, c, l.map (·.1), 0, by rw [List.length_map, hl]; rfl, HD.out.symm, hp, hbw⟩
        · have hd : decM k r = ([], 72) := by unfold decM; rw [hm]; simp only; rw [if_neg ht]
          have hj : j < (s.size : Int) := by
            rcases Int.lt_or_le j s.size with h | h
            · exact h
            · exact absurd (by rw [← a2]; exact List.drop_eq_nil_of_le (by omega)) ht
          have HD := Lib.hid hd
          clear hd hm hO hH a2 ht
          go_wp2_with fail
          go_returns
          exact ⟨none, 0, [], 72, rfl, HD.out.symm, ProgAt.nil _ _ _, hbw⟩
    · have hd : decM n r = ([], er) := by unfold decM; rw [hm]
      have HD := Lib.hid hd
      have e1 : (er == 0) = false := by simpa using he
      have e2 : (er != 0) = true := by simpa using he
      have hszw := hbw.size
      clear hd hm hO hH he
      go_wp2_with fail
      all_goals (try go_region)
      all_goals (try go_wp2_with fail)
      all_goals go_returns
      all_goals exact ⟨none, 0, [], er, rfl, HD.out.symm, ProgAt.nil _ _ _, by go_grown⟩
end Go.Proofs.YtcfdbciooimjmaaGreatDoor

