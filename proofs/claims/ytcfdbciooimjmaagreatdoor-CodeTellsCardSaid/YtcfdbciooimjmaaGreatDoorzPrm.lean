/- Layer 7: the document's reading of a function. -/
import Derived.Test.YtcfdbciooimjmaaGreatDoorzGo
namespace Go.Proofs.YtcfdbciooimjmaaGreatDoor
set_option linter.unusedVariables false
set_option linter.unusedSimpArgs false
open Go.RowKit Go.ChangeShapes Go.WideShapes Go.ChangeAt Go.Sort

theorem own_drew {w : World} {D : Nat} {c : Value} {l : List Ins} (h : OwnC w D c l) : OwnC w.drew D c l := World.ownsRow.drew h
/-- A code of one's own, where cells elsewhere are turned. -/
theorem own_set {w : World} {D k : Nat} {c : Value} {l : List Ins} (h : OwnC w D c l) (hk : k < D) (j : Nat) (v : Value) : OwnC (w.setCell ⟨k, j, none⟩ v) D c l :=
  h.grown (grown_set1 _ _ _ _) (fun b hb e => by
    have := (h.lt b hb).1
    cases e
    omega)
theorem own_fin {u : World} {D E r q : Nat} {c : Value} {l : List Ins} (h : OwnC u D c l) (hr : r < D) (hq : q < D) (hE : E ≤ D) (x y z k x' y' z' : Value) :
    OwnC (((((((u.setCell ⟨r, 0, none⟩ x).setCell ⟨r, 1, none⟩ y).setCell ⟨r, 2, none⟩ z).setCell ⟨r, 3, none⟩ k).setCell ⟨q, 0, none⟩ x').setCell ⟨q, 1, none⟩ y').setCell ⟨q, 2, none⟩ z').drew E c l := by
  have h1 := own_set (own_set (own_set (own_set h hr 0 x) hr 1 y) hr 2 z) hr 3 k
  have h2 := (own_set (own_set (own_set h1 hq 0 x') hq 1 y') hq 2 z').mono hE
  exact own_drew h2

set_option maxHeartbeats 8000000 in
set_option maxRecDepth 100000 in
theorem pfun_any (s : ByteArray) (i : Int) (t : List UInt8) (hs : s.size ≤ maxLen) (hat : At s.data.toList i t) (w : World) :
    Calls Tryz.prog 32 #[atv s i 0] w fun e w' => ∃ (f : Fun) (q er : Int) (c : Value), e = .returned (.tuple #[.agg #[.int .i64 f.ar, .int .i64 f.lo, .int .i64 f.sl, c], atv s q er]) ∧
      (∀ g r, funR t = .inr (g, r) → er = 0 ∧ f = g ∧ At s.data.toList q r) ∧ (∀ e, funR t = .inl e → er = e ∧ e ≠ 0) ∧ OwnC w' w.heap.size c f.code ∧ Below w.heap.size w w' := by
  have hF := funR_head t
  obtain ⟨x1, x2, x3, x4, e1, e2, e3, e4, v1, v2, v3, v4, hh⟩ := head_nu s.data.toList i t hat
  have N1 := pnum_all s i 0 0 16 hs (fun _ => ⟨hat.1, hat.2.1⟩)
  have N2 := pnum_all s x1.2.1 x1.2.2 0 16 hs v1
  have N3 := pnum_all s x2.2.1 x2.2.2 0 8 hs v2
  have N4 := pnum_all s x3.2.1 x3.2.2 1 200 hs v3
  rw [← e1] at N1
  rw [← e2] at N2
  rw [← e3] at N3
  rw [← e4] at N4
  clear e1 e2 e3 e4 v1 v2 v3 v4 hat
  obtain ⟨a1, i1, e1⟩ := x1
  obtain ⟨a2, i2, e2⟩ := x2
  obtain ⟨a3, i3, e3⟩ := x3
  obtain ⟨n, i4, e4⟩ := x4
  simp only at N1 N2 N3 N4 hh
  replace N1 := Lib.hid N1
  replace N2 := Lib.hid N2
  replace N3 := Lib.hid N3
  replace N4 := Lib.hid N4
  have HF := Lib.hid hF
  have HH := Lib.hid hh
  clear hF hh
  have hr0 := ((Held.new1 w (.cells #[.string s, .int .i64 i, .int .i64 0] 54) 39 #[.int .i64 0, .int .i64 0, .int .i64 0, .slice none 0 0]).alloc (.cells #[.string ⟨#[]⟩, .int .i64 0, .int .i64 0] 54)).alloc (.cells #[.int .i64 0, .int .i64 0, .int .i64 0, .slice none 0 0] 39)
  have hq0 := (Held.new2 w (.cells #[.string s, .int .i64 i, .int .i64 0] 54) (.cells #[.int .i64 0, .int .i64 0, .int .i64 0, .slice none 0 0] 39) 54 #[.string ⟨#[]⟩, .int .i64 0, .int .i64 0]).alloc (.cells #[.int .i64 0, .int .i64 0, .int .i64 0, .slice none 0 0] 39)
  have hx0 := Held.new (((w.alloc (.cells #[.string s, .int .i64 i, .int .i64 0] 54)).alloc (.cells #[.int .i64 0, .int .i64 0, .int .i64 0, .slice none 0 0] 39)).alloc (.cells #[.string ⟨#[]⟩, .int .i64 0, .int .i64 0] 54)) 39 #[.int .i64 0, .int .i64 0, .int .i64 0, .slice none 0 0]
  simp at hx0
  have hl0 := (below3 w (.cells #[.string s, .int .i64 i, .int .i64 0] 54) (.cells #[.int .i64 0, .int .i64 0, .int .i64 0, .slice none 0 0] 39) (.cells #[.string ⟨#[]⟩, .int .i64 0, .int .i64 0] 54)).alloc (by simp; omega) (.cells #[.int .i64 0, .int .i64 0, .int .i64 0, .slice none 0 0] 39)
  have HR := Lib.hid hr0
  have HQ := Lib.hid hq0
  have HX := Lib.hid hx0
  have HL := Lib.hid hl0
  clear hr0 hq0 hx0 hl0
  go_enter Tryz.func32, Tryz.ntmps32
  go_upto_region 4 with (go_at_call 31; (with_reducible refine (N1.out.go _).mono ?_); rintro x v1 ⟨rfl, hb⟩; have hx := HX.out.below hb; have x0 := hx.cell 0; have y0 := hx.fz 0; have l0 := hx.lt; have hr := HR.out.below hb; have hq := HQ.out.below hb; have hl := Below.step HL.out hb; clear hb)
  have J0 : Fa w (w.heap.size + 1) (w.heap.size + 1 + 1) (w.heap.size + 1 + 1 + 1) v1.heap.size s i1 e1 a1 0 0 (.slice none 0 0) ((v1.setCell ⟨w.heap.size + 1 + 1 + 1, 0, none⟩ (.int .i64 a1)).alloc (.cells #[.string s, .int .i64 i1, .int .i64 e1] 54)) := by
    refine ⟨(hr.far (by omega) _ _).alloc _, (hq.far (by omega) _ _).alloc _, ?_, ?_, (hl.setCell (by show w.heap.size ≤ w.heap.size + 1 + 1 + 1; omega) _).alloc (by have := hl.size; simp [World.setCell]; omega) _, by omega, by omega, by omega, l0⟩
    · have := hx.set_at 0 (.int .i64 a1)
      exact this.alloc _
    · have := Held.new (v1.setCell ⟨w.heap.size + 1 + 1 + 1, 0, none⟩ (.int .i64 a1)) 54 #[.string s, .int .i64 i1, .int .i64 e1]
      rwa [show (v1.setCell ⟨w.heap.size + 1 + 1 + 1, 0, none⟩ (.int .i64 a1)).heap.size = v1.heap.size by simp [World.setCell]] at this
  have J := Lib.hid J0
  clear J0 hx x0 y0 l0 hr hq hl HR HQ HX HL
  generalize World.alloc (World.setCell v1 _ _) _ = u1 at J ⊢
  obtain ⟨⟨_, x1, x2, _, _, y1, y2, _⟩, b0, b1, b2, c0, c1, c2⟩ := J.out.cells
  obtain ⟨l1, l2, _⟩ := J.out.lt
  go_upto_region 6 with (go_at_call 31; (with_reducible refine (N2.out.go _).mono ?_); rintro x v2 ⟨rfl, hb⟩; replace J := Lib.hid (J.out.below hb); obtain ⟨⟨_, x1, x2, _, _, y1, y2, _⟩, b0, b1, b2, c0, c1, c2⟩ := J.out.cells; obtain ⟨l1, l2, _⟩ := J.out.lt; have hxb := Nat.ne_of_lt J.out.xb; clear hb)
  replace J := Lib.hid ((J.out.set3 i2 e2).setX (a' := a1) (l' := a2) (m' := 0) (c' := .slice none 0 0) 1 (.int .i64 a2) rfl)
  clear x1 x2 y1 y2 b0 b1 b2 c0 c1 c2 l1 l2 hxb
  generalize World.setCell (World.setCell (World.setCell (World.setCell v2 _ _) _ _) _ _) _ _ = u2 at J ⊢
  obtain ⟨⟨_, x1, x2, _, _, y1, y2, _⟩, b0, b1, b2, c0, c1, c2⟩ := J.out.cells
  obtain ⟨l1, l2, _⟩ := J.out.lt
  go_upto_region 8 with (go_at_call 31; (with_reducible refine (N3.out.go _).mono ?_); rintro x v3 ⟨rfl, hb⟩; replace J := Lib.hid (J.out.below hb); obtain ⟨⟨_, x1, x2, _, _, y1, y2, _⟩, b0, b1, b2, c0, c1, c2⟩ := J.out.cells; obtain ⟨l1, l2, _⟩ := J.out.lt; have hxb := Nat.ne_of_lt J.out.xb; clear hb)
  replace J := Lib.hid ((J.out.set3 i3 e3).setX (a' := a1) (l' := a2) (m' := a3) (c' := .slice none 0 0) 2 (.int .i64 a3) rfl)
  clear x1 x2 y1 y2 b0 b1 b2 c0 c1 c2 l1 l2 hxb
  generalize World.setCell (World.setCell (World.setCell (World.setCell v3 _ _) _ _) _ _) _ _ = u3 at J ⊢
  obtain ⟨⟨_, x1, x2, _, _, y1, y2, _⟩, b0, b1, b2, c0, c1, c2⟩ := J.out.cells
  obtain ⟨l1, l2, _⟩ := J.out.lt
  go_upto_region 9 with (go_at_call 31; (with_reducible refine (N4.out.go _).mono ?_); rintro x v4 ⟨rfl, hb⟩; replace J := Lib.hid (J.out.below hb); obtain ⟨⟨_, x1, x2, _, _, y1, y2, _⟩, b0, b1, b2, c0, c1, c2⟩ := J.out.cells; obtain ⟨l1, l2, _⟩ := J.out.lt; have hxb := Nat.ne_of_lt J.out.xb; clear hb)
  replace J := Lib.hid (J.out.set3 i4 e4)
  clear x1 x2 y1 y2 b0 b1 b2 c0 c1 c2 l1 l2 hxb
  generalize World.setCell (World.setCell (World.setCell v4 _ _) _ _) _ _ = u4 at J ⊢
  by_cases he4 : e4 = 0
  · subst he4
    obtain ⟨y, r, hd, e0, ha4, hn1, hn2⟩ : ∃ y r, headR t = .inr (y, r) ∧ y = (a1, a2, a3, n) ∧ At s.data.toList i4 r ∧ 1 ≤ n ∧ n ≤ 200 := by
      obtain ⟨h0, h1⟩ := HH.out
      cases hd : headR t with
      | inl e => exact absurd (h0 e hd).1.symm (h0 e hd).2
      | inr x => exact ⟨x.1, x.2, rfl, (h1 x.1 x.2 hd).2⟩
    subst e0
    obtain ⟨m, rfl⟩ := Int.eq_ofNat_of_zero_le (show 0 ≤ n by omega)
    have hF := HF.out
    rw [hd] at hF
    simp only [Int.toNat_natCast] at hF
    have HF2 := Lib.hid hF
    clear hF hd HF HH
    have hxb := J.out.xb
    go_wp2_with fail
    go_loopw [7] (fun iv wr => ∃ (k : Nat) (codes : List Ins) (j er : Int) (c : Value), iv = .int .i64 k ∧ k ≤ m ∧ codes.length = k ∧ OwnC wr (v1.heap.size + 1) c codes ∧ v1.heap.size + 1 ≤ wr.heap.size ∧ Fa w (w.heap.size + 1) (w.heap.size + 1 + 1) (w.heap.size + 1 + 1 + 1) v1.heap.size s j er a1 a2 a3 c wr ∧
      ((er = 0 ∧ ∃ t', At s.data.toList j t' ∧ manyR insR m r = contM codes (manyR insR (m - k) t')) ∨ (er ≠ 0 ∧ manyR insR m r = .inl er))) (fun i _ => m - (intOf i).toNat)
    case atStart => exact ⟨0, [], i4, 0, _, rfl, by omega, rfl, OwnC.nil _ _, J.out.lt.1, J.out, .inl ⟨rfl, r, ha4, by simp [contM_start]⟩⟩
    case round =>
      clear J
      obtain ⟨k, codes, j, er, c, rfl, hk, hl, hO, hz, hJ, hcase⟩ := hrel
      obtain ⟨Ac, cc, rfl, _⟩ := hO.code
      have J := Lib.hid hJ
      have HO := Lib.hid hO
      have HL := Lib.hid hl
      clear hJ hO ha4
      rcases hcase with ⟨rfl, t', hat, hm⟩ | ⟨he, hm⟩
      · by_cases hlt : k < m
        · obtain ⟨x, q2, e2, f1, f2, FC⟩ := pins_any s j t' hs hat
          obtain ⟨xo, xa, xb⟩ := x
          have HC := Lib.hid FC
          have HM := Lib.hid hm
          have H1 := Lib.hid f1
          have H2 := Lib.hid f2
          obtain ⟨⟨_, _, _, x3, _, _, _, _⟩, b0, b1, b2, _, _, _⟩ := J.out.cells
          obtain ⟨l1, l2, _⟩ := J.out.lt
          clear hm f1 f2 FC hl hat
          go_wp2_with (first
            | (go_at_call 64; (with_reducible refine (HC.out.go _).mono ?_); rintro e u ⟨rfl, hbu⟩; have hsu := hbu.size; replace J := Lib.hid (J.out.below hbu); have HW := HO; replace HO := Lib.hid ((HO.out.below hbu).below (below2 u (.cells #[.int .i64 xo, .int .i64 xa, .int .i64 xb] 64) (.cells #[.string s, .int .i64 q2, .int .i64 e2] 54))); obtain ⟨⟨_, _, _, x3, _, _, _, _⟩, _⟩ := J.out.cells; obtain ⟨l1, l2, _⟩ := J.out.lt; clear hbu)
            | (at_builtin; refine wpList_append_ins rfl _ _ rfl (v1.heap.size + 1) _ _ codes (xo, xa, xb) rfl rfl HO.out (by show Value.slice (some ⟨_, 0, none⟩) 1 1 = _; simp) (by rw [HL.out]; omega) (by simp; omega) ?_; intro v' w2 ho2 hg2 _; obtain ⟨A3, c3, rfl, _⟩ := ho2.code; have K9 := (Held.new1 u (.cells #[.int .i64 xo, .int .i64 xa, .int .i64 xb] 64) 54 #[.string s, .int .i64 q2, .int .i64 e2]).grown hg2 (fun e => by have := (HW.out.lt _ e).2; omega); replace J := Lib.hid ((J.out.below (below2 u (.cells #[.int .i64 xo, .int .i64 xa, .int .i64 xb] 64) (.cells #[.string s, .int .i64 q2, .int .i64 e2] 54))).grown hg2 (fun b e => by have := (HW.out.lt _ e).1; omega)); have hsz := hg2.size; simp at hsz; obtain ⟨g0, g1, g2, _⟩ := K9.three; obtain ⟨⟨_, _, _, x3, _, _, _, y3⟩, b0, b1, b2, c0, c1, c2⟩ := J.out.cells; obtain ⟨l1, l2, _⟩ := J.out.lt; have HN := Lib.hid ho2; clear ho2 hg2 K9))
          have hn1 : w.heap.size + 1 + 1 + 1 < v1.heap.size := hxb
          go_round
          case rel =>
            have hO5 := own_set (own_set (own_set (own_set HN.out (k := w.heap.size + 1 + 1 + 1) (by omega) 3 (.slice A3 (codes ++ [(xo, xa, xb)]).length c3)) (k := v1.heap.size) (by omega) 0 (.string s)) (k := v1.heap.size) (by omega) 1 (.int .i64 q2)) (k := v1.heap.size) (by omega) 2 (.int .i64 e2)
            have hJ5 := (J.out.setX (a' := a1) (l' := a2) (m' := a3) (c' := .slice A3 (codes ++ [(xo, xa, xb)]).length c3) 3 _ rfl).set3 q2 e2
            rw [show (codes ++ [(xo, xa, xb)]).length = codes.length + 1 by simp] at hO5 hJ5
            cases hf : insR t' with
            | inl e =>
              obtain ⟨rfl, he⟩ := H2.out e hf
              exact ⟨k + 1, codes ++ [(xo, xa, xb)], q2, e2, _, by go_num, by omega, by rw [List.length_append, HL.out]; rfl, hO5, by simp [World.setCell]; omega, hJ5,
                .inr ⟨he, by rw [HM.out, show m - k = (m - k - 1) + 1 by omega, contM_bad _ _ hf]⟩⟩
            | inr x =>
              obtain ⟨g, r1⟩ := x
              obtain ⟨rfl, rfl, ha⟩ := H1.out g r1 hf
              exact ⟨k + 1, codes ++ [(xo, xa, xb)], q2, 0, _, by go_num, by omega, by rw [List.length_append, HL.out]; rfl, hO5, by simp [World.setCell]; omega, hJ5,
                .inl ⟨rfl, r1, ha, by rw [HM.out, show m - k = (m - (k + 1)) + 1 by omega, contM_step _ _ hf]⟩⟩
          case measure => simp [intOf]; omega
        · obtain rfl : k = m := by omega
          rw [Nat.sub_self, contM_end] at hm
          have hfin : (∀ g r, funR t = .inr (g, r) → (0 : Int) = 0 ∧ (⟨a1, a2, a3, codes⟩ : Fun) = g ∧ At s.data.toList j r) ∧ (∀ e, funR t = .inl e → (0 : Int) = e ∧ e ≠ 0) := by
            have hF := HF2.out
            rw [hm] at hF
            simp only at hF
            rw [hF]
            exact ⟨fun g r h => (by cases h; exact ⟨rfl, rfl, hat⟩), fun _ h => (by cases h)⟩
          have HFIN := Lib.hid hfin
          clear hfin hm hat hl
          obtain ⟨⟨r0, r1, r2, r3, s0, s1, s2, s3⟩, q0, q1, q2, t0, t1, t2⟩ := J.out.res
          obtain ⟨⟨x0, x1, x2, x3, _, _, _, _⟩, b0, b1, b2, _, _, _⟩ := J.out.cells
          have n0 := J.out.xb
          have n1 : v1.heap.size ≠ w.heap.size + 1 := by omega
          have n2 : v1.heap.size ≠ w.heap.size + 1 + 1 := by omega
          clear n0
          go_wp2_with fail
          all_goals go_region
          all_goals (try go_wp2_with fail)
          all_goals (first | clear r0 r1 r2 r3 s0 s1 s2 s3 q0 q1 q2 t0 t1 t2 x0 x1 x2 x3 b0 b1 b2 | skip)
          all_goals
            obtain ⟨hR, hQ, hL⟩ := J.out.far (.int .i64 a1) (.int .i64 a2) (.int .i64 a3) (.slice Ac codes.length cc) (.string s) (.int .i64 j) (.int .i64 0)
            have hO4 := own_fin HO.out (r := w.heap.size + 1) (q := w.heap.size + 1 + 1) (E := w.heap.size) (by omega) (by omega) (by omega) (.int .i64 a1) (.int .i64 a2) (.int .i64 a3) (.slice Ac codes.length cc) (.string s) (.int .i64 j) (.int .i64 0)
            generalize World.drew (World.setCell (World.setCell (World.setCell (World.setCell (World.setCell (World.setCell (World.setCell _ _ _) _ _) _ _) _ _) _ _) _ _) _ _) = W at hR hQ hL hO4 ⊢
            have z0 := hR.cell 0
            have z1 := hR.cell 1
            have z2 := hR.cell 2
            have z3 := hR.cell 3
            have z4 := hQ.cell 0
            have z5 := hQ.cell 1
            have z6 := hQ.cell 2
            simp at z0 z1 z2 z3 z4 z5 z6
            exact bodyPost_ret (v := .tuple #[.agg #[.int .i64 a1, .int .i64 a2, .int .i64 a3, (.slice Ac codes.length cc)], atv s j 0]) (by simp [results, Tryz.results32, go_sem, z0, z1, z2, z3, z4, z5, z6]) rfl ⟨⟨a1, a2, a3, codes⟩, j, 0, _, rfl, fun g r h => ⟨rfl, (HFIN.out.1 g r h).2⟩, fun e h => by have := HFIN.out.2 e h; simpa using this, hO4, hL⟩
      · have hfin : (∀ g r, funR t = .inr (g, r) → er = 0 ∧ (⟨a1, a2, a3, codes⟩ : Fun) = g ∧ At s.data.toList j r) ∧ (∀ e, funR t = .inl e → er = e ∧ e ≠ 0) := by
          have hF := HF2.out
          rw [hm] at hF
          simp only at hF
          rw [hF]
          exact ⟨fun g r h => (by cases h), fun _ h => (by cases h; exact ⟨rfl, he⟩)⟩
        have HFIN := Lib.hid hfin
        have f1 : (er == 0) = false := by simpa using he
        clear hfin hm hl he
        obtain ⟨⟨r0, r1, r2, r3, s0, s1, s2, s3⟩, q0, q1, q2, t0, t1, t2⟩ := J.out.res
        obtain ⟨⟨x0, x1, x2, x3, _, _, _, _⟩, b0, b1, b2, _, _, _⟩ := J.out.cells
        have n0 := J.out.xb
        have n1 : v1.heap.size ≠ w.heap.size + 1 := by omega
        have n2 : v1.heap.size ≠ w.heap.size + 1 + 1 := by omega
        clear n0
        go_wp2_with fail
        all_goals go_region
        all_goals (try go_wp2_with fail)
        all_goals (first | clear r0 r1 r2 r3 s0 s1 s2 s3 q0 q1 q2 t0 t1 t2 x0 x1 x2 x3 b0 b1 b2 | skip)
        all_goals
          obtain ⟨hR, hQ, hL⟩ := J.out.far (.int .i64 a1) (.int .i64 a2) (.int .i64 a3) (.slice Ac codes.length cc) (.string s) (.int .i64 j) (.int .i64 er)
          have hO4 := own_fin HO.out (r := w.heap.size + 1) (q := w.heap.size + 1 + 1) (E := w.heap.size) (by omega) (by omega) (by omega) (.int .i64 a1) (.int .i64 a2) (.int .i64 a3) (.slice Ac codes.length cc) (.string s) (.int .i64 j) (.int .i64 er)
          generalize World.drew (World.setCell (World.setCell (World.setCell (World.setCell (World.setCell (World.setCell (World.setCell _ _ _) _ _) _ _) _ _) _ _) _ _) _ _) = W at hR hQ hL hO4 ⊢
          have z0 := hR.cell 0
          have z1 := hR.cell 1
          have z2 := hR.cell 2
          have z3 := hR.cell 3
          have z4 := hQ.cell 0
          have z5 := hQ.cell 1
          have z6 := hQ.cell 2
          simp at z0 z1 z2 z3 z4 z5 z6
          exact bodyPost_ret (v := .tuple #[.agg #[.int .i64 a1, .int .i64 a2, .int .i64 a3, (.slice Ac codes.length cc)], atv s j er]) (by simp [results, Tryz.results32, go_sem, z0, z1, z2, z3, z4, z5, z6]) rfl ⟨⟨a1, a2, a3, codes⟩, j, er, _, rfl, HFIN.out.1, HFIN.out.2, hO4, hL⟩
  · have f1 : (e4 == 0) = false := by simpa using he4
    have hfin : (∀ g r, funR t = .inr (g, r) → e4 = 0 ∧ (⟨a1, a2, a3, []⟩ : Fun) = g ∧ At s.data.toList i4 r) ∧ (∀ e, funR t = .inl e → e4 = e ∧ e ≠ 0) := by
      obtain ⟨h0, h1⟩ := HH.out
      have hF := HF.out
      cases hd : headR t with
      | inl e =>
        rw [hd] at hF
        obtain ⟨h2, h3⟩ := h0 e hd
        refine ⟨fun g r h => ?_, fun e' h => ?_⟩
        · rw [hF] at h
          cases h
        · rw [hF] at h
          cases h
          exact ⟨h2, h3⟩
      | inr x => exact absurd (h1 x.1 x.2 hd).1 he4
    have HFIN := Lib.hid hfin
    clear hfin he4
    obtain ⟨_, b0, b1, b2, _⟩ := J.out.cells
    go_wp2_with fail
    go_loop [7] (fun i => i = .int .i64 0) (fun _ => 0)
    case atStart => rfl
    case round =>
      subst hrel
      obtain ⟨⟨r0, r1, r2, r3, s0, s1, s2, s3⟩, q0, q1, q2, t0, t1, t2⟩ := J.out.res
      obtain ⟨⟨x0, x1, x2, x3, _, _, _, _⟩, b0, b1, b2, _, _, _⟩ := J.out.cells
      have n0 := J.out.xb
      have n1 : v1.heap.size ≠ w.heap.size + 1 := by omega
      have n2 : v1.heap.size ≠ w.heap.size + 1 + 1 := by omega
      clear n0
      go_wp2_with fail
      all_goals go_region
      all_goals (try go_wp2_with fail)
      all_goals (first | clear r0 r1 r2 r3 s0 s1 s2 s3 q0 q1 q2 t0 t1 t2 x0 x1 x2 x3 b0 b1 b2 | skip)
      all_goals
        obtain ⟨hR, hQ, hL⟩ := J.out.far (.int .i64 a1) (.int .i64 a2) (.int .i64 a3) (.slice none 0 0) (.string s) (.int .i64 i4) (.int .i64 e4)
        generalize World.drew (World.setCell (World.setCell (World.setCell (World.setCell (World.setCell (World.setCell (World.setCell _ _ _) _ _) _ _) _ _) _ _) _ _) _ _) = W at hR hQ hL  ⊢
        have z0 := hR.cell 0
        have z1 := hR.cell 1
        have z2 := hR.cell 2
        have z3 := hR.cell 3
        have z4 := hQ.cell 0
        have z5 := hQ.cell 1
        have z6 := hQ.cell 2
        simp at z0 z1 z2 z3 z4 z5 z6
        exact bodyPost_ret (v := .tuple #[.agg #[.int .i64 a1, .int .i64 a2, .int .i64 a3, (.slice none 0 0)], atv s i4 e4]) (by simp [results, Tryz.results32, go_sem, z0, z1, z2, z3, z4, z5, z6]) rfl  ⟨⟨a1, a2, a3, []⟩, i4, e4, _, rfl, HFIN.out.1, HFIN.out.2, OwnC.nil _ _, hL⟩
end Go.Proofs.YtcfdbciooimjmaaGreatDoor

