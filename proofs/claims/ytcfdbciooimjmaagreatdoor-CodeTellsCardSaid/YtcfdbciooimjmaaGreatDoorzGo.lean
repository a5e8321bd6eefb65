/- Layer 7: the document's instr at every input; what heads a function. -/
import Derived.Test.YtcfdbciooimjmaaGreatDoorzPri
import Derived.Test.YtcfdbciooimjmaaGreatDoorzGn
namespace Go.Proofs.YtcfdbciooimjmaaGreatDoor
set_option linter.unusedVariables false
set_option linter.unusedSimpArgs false
open Go.RowKit Go.ChangeShapes Go.WideShapes Go.ChangeAt Go.Sort

/-- Where one stands, by a state that is right. -/
theorem at_of {s : ByteArray} {j : Int} {r : List UInt8} (hv : Vl s.data.toList j 0) (h : s.data.toList.drop j.toNat = r) : At s.data.toList j r := by
  obtain ⟨h0, h1⟩ := hv rfl
  exact ⟨h0, h1, h⟩
theorem row_two {k : Nat} (hk : k < 17) : (rz (k : Int)).f = 0 ∨ (rz (k : Int)).f = 1 ∨ (rz (k : Int)).f = 2 := by
  rw [rz_in hk]
  have := row_ok k hk
  omega
theorem may_big {o a b : Int} (h : mayZ o a b = true) : (0 ≤ a ∧ a ≤ 281474976710656) ∧ 0 ≤ b ∧ b ≤ 281474976710656 := by
  have := row_bounds h
  omega

set_option maxHeartbeats 1000000 in
theorem pins_any (s : ByteArray) (i : Int) (t : List UInt8) (hs : s.size ≤ maxLen) (h : At s.data.toList i t) :
    ∃ (x : Int × Int × Int) (q er : Int), (∀ g r, insR t = .inr (g, r) → er = 0 ∧ x = g ∧ At s.data.toList q r) ∧ (∀ e, insR t = .inl e → er = e ∧ e ≠ 0) ∧
      Ct Tryz.prog 64 #[atv s i 0] (.tuple #[iv x.1 x.2.1 x.2.2, atv s q er]) := by
  have hl : s.data.toList.length = s.size := rfl
  cases t with
  | nil =>
    have := at_end h
    exact ⟨(0, 0, 0), i, 10, fun _ _ h => (by cases h), fun _ h => (by cases h; exact ⟨rfl, by decide⟩), pins_end s i (by omega)⟩
  | cons c r =>
    obtain ⟨k, hk, rfl, hc, ha⟩ := at_cons h
    by_cases hbig : 16 < c.toNat
    · have e : insR (c :: r) = .inl 71 := by unfold insR; simp only; rw [if_pos hbig]
      rw [e]
      exact ⟨(opB s[k], 0, 0), (k : Int) + 1, 71, fun _ _ h => (by cases h), fun _ h => (by cases h; exact ⟨rfl, by decide⟩), pins_big s k hk hs (by rw [hc]; exact hbig)⟩
    · have h17 : c.toNat < 17 := by omega
      have hrow := row_two h17
      have e0 : insR (c :: r) = (if (rz (opB c)).f < 1 then .inr ((opB c, 0, 0), r) else andR (numR 0 281474976710656) (insQ1 (opB c)) r) := by
        conv => lhs; unfold insR
        simp only
        rw [if_neg hbig]
      have hob : opB c = (c.toNat : Int) := rfl
      rw [hob] at e0
      have RF := rfields_any (c.toNat : Int)
      obtain ⟨n0, n1, n2⟩ := ha
      have hv0 : Vl s.data.toList ((k : Int) + 1) 0 := fun _ => ⟨n0, n1⟩
      have N1 := pnum_all s ((k : Int) + 1) 0 0 281474976710656 hs hv0
      obtain ⟨_, v1, s1⟩ := sim_nu 0 281474976710656
      have hv1 := v1 _ _ _ hv0
      obtain ⟨u1, u2⟩ := s1 s.data.toList _ n0 n1
      rw [n2] at u1 u2
      have M1 := rmay_any (c.toNat : Int) (nuS 0 281474976710656 s.data.toList ((k : Int) + 1) 0).1 0
      generalize (nuS 0 281474976710656 s.data.toList ((k : Int) + 1) 0).1 = n at *
      generalize (nuS 0 281474976710656 s.data.toList ((k : Int) + 1) 0).2.1 = j at *
      generalize (nuS 0 281474976710656 s.data.toList ((k : Int) + 1) 0).2.2 = e at *
      rcases hrow with hf | hf | hf
      · rw [e0, if_pos (by omega)]
        refine ⟨(opB s[k], 0, 0), (k : Int) + 1, 0, fun g r' h => ?_, fun _ h => (by cases h), pins_none s k hk hs (by rw [hc]; omega) (by rw [hc]; exact hf)⟩
        cases h
        exact ⟨rfl, by rw [hc]; rfl, n0, n1, n2⟩
      · rw [hf] at RF
        rw [e0, if_neg (by omega)]
        refine ⟨((c.toNat : Int), n, 0), j, wE (mayZ (c.toNat : Int) n 0) 71 e, ?_, ?_, ?_⟩
        · intro g r' h
          obtain ⟨a, r1, h1, h2⟩ := andR_of h
          obtain ⟨rfl, rfl, hd⟩ := u2 a r1 h1
          unfold insQ1 at h2
          split at h2
          · cases h2
          · rename_i hm
            have hm : mayZ (c.toNat : Int) n 0 = true := by simpa using hm
            rw [if_pos (by omega)] at h2
            cases h2
            exact ⟨by rw [hm, wE_true], rfl, at_of hv1 hd⟩
        · intro e' h
          unfold andR at h
          cases h1 : numR 0 281474976710656 r with
          | inl e2 =>
            rw [h1] at h
            cases h
            obtain ⟨rfl, hne⟩ := u1 _ h1
            exact ⟨wE_keep hne, hne⟩
          | inr x =>
            obtain ⟨a, r1⟩ := x
            rw [h1] at h
            obtain ⟨rfl, rfl, hd⟩ := u2 a r1 h1
            have h : insQ1 (c.toNat : Int) n r1 = .inl e' := h
            unfold insQ1 at h
            split at h
            · rename_i hm
              cases h
              rw [hm]
              exact ⟨rfl, by decide⟩
            · rw [if_pos (by omega)] at h
              cases h
        · subst hc
          exact pins_one s k hk hs (by omega) n j e _ RF N1 M1
      · rw [hf] at RF
        rw [e0, if_neg (by omega)]
        have hv2 : Vl s.data.toList j (wE (mayZ (c.toNat : Int) n 0) 71 e) := Vl.want (by decide) hv1
        have N2 := pnum_all s j (wE (mayZ (c.toNat : Int) n 0) 71 e) 0 281474976710656 hs hv2
        have hv3 := v1 _ _ _ hv2
        obtain ⟨k1, _, _⟩ := sim_nu 0 281474976710656
        have K := fun h => k1 s.data.toList j (wE (mayZ (c.toNat : Int) n 0) 71 e) h
        have M2 := rmay_any (c.toNat : Int) n (nuS 0 281474976710656 s.data.toList j (wE (mayZ (c.toNat : Int) n 0) 71 e)).1
        refine ⟨((c.toNat : Int), n, (nuS 0 281474976710656 s.data.toList j (wE (mayZ (c.toNat : Int) n 0) 71 e)).1), (nuS 0 281474976710656 s.data.toList j (wE (mayZ (c.toNat : Int) n 0) 71 e)).2.1, wE (mayZ (c.toNat : Int) n (nuS 0 281474976710656 s.data.toList j (wE (mayZ (c.toNat : Int) n 0) 71 e)).1) 71 (nuS 0 281474976710656 s.data.toList j (wE (mayZ (c.toNat : Int) n 0) 71 e)).2.2, ?_, ?_, ?_⟩
        · intro g r' h
          obtain ⟨a, r1, h1, h2⟩ := andR_of h
          obtain ⟨rfl, rfl, hd⟩ := u2 a r1 h1
          unfold insQ1 at h2
          split at h2
          · cases h2
          · rename_i hm
            have hm : mayZ (c.toNat : Int) n 0 = true := by simpa using hm
            rw [if_neg (by omega)] at h2
            obtain ⟨b, r2, h3, h4⟩ := andR_of h2
            have hw : wE (mayZ (c.toNat : Int) n 0) 71 0 = 0 := by rw [hm]; rfl
            rw [hw] at hv3 ⊢
            have S := (s1 s.data.toList j (hv1 rfl).1 (hv1 rfl).2).2
            rw [hd] at S
            obtain ⟨e1, e2, e3⟩ := S b r2 h3
            rw [e2] at hv3
            rw [e1, e2]
            unfold insQ2 at h4
            split at h4
            · cases h4
            · rename_i hm2
              have hm2 : mayZ (c.toNat : Int) n b = true := by simpa using hm2
              cases h4
              exact ⟨by rw [hm2]; rfl, rfl, at_of hv3 e3⟩
        · intro e' h
          unfold andR at h
          cases h1 : numR 0 281474976710656 r with
          | inl e2 =>
            rw [h1] at h
            cases h
            obtain ⟨rfl, hne⟩ := u1 _ h1
            rw [wE_keep hne] at K ⊢
            rw [K hne, wE_keep hne]
            exact ⟨rfl, hne⟩
          | inr x =>
            obtain ⟨a, r1⟩ := x
            rw [h1] at h
            obtain ⟨rfl, rfl, hd⟩ := u2 a r1 h1
            have h : insQ1 (c.toNat : Int) n r1 = .inl e' := h
            unfold insQ1 at h
            split at h
            · rename_i hm
              cases h
              rw [hm] at K ⊢
              have hw : wE false 71 0 = 71 := rfl
              rw [hw] at K ⊢
              rw [K (by decide), wE_keep (by decide)]
              exact ⟨rfl, by decide⟩
            · rename_i hm
              have hm : mayZ (c.toNat : Int) n 0 = true := by simpa using hm
              rw [if_neg (by omega)] at h
              have hw : wE (mayZ (c.toNat : Int) n 0) 71 0 = 0 := by rw [hm]; rfl
              rw [hw]
              obtain ⟨S0, S⟩ := s1 s.data.toList j (hv1 rfl).1 (hv1 rfl).2
              rw [hd] at S S0
              unfold andR at h
              cases h3 : numR 0 281474976710656 r1 with
              | inl e3 =>
                rw [h3] at h
                cases h
                obtain ⟨e4, hne⟩ := S0 _ h3
                rw [e4, wE_keep hne]
                exact ⟨rfl, hne⟩
              | inr y =>
                obtain ⟨b, r2⟩ := y
                rw [h3] at h
                obtain ⟨e1, e2, e3⟩ := S b r2 h3
                rw [e1, e2]
                have h : insQ2 (c.toNat : Int) n b r2 = .inl e' := h
                unfold insQ2 at h
                split at h
                · rename_i hm2
                  cases h
                  rw [hm2]
                  exact ⟨rfl, by decide⟩
                · cases h
        · subst hc
          exact pins_two s k hk hs (by omega) n j e _ _ _ _ _ RF N1 M1 N2 M2 (fun h => by rw [K h]; exact h)
end Go.Proofs.YtcfdbciooimjmaaGreatDoor

/- Layer 7: the document's reading of a function. -/
namespace Go.Proofs.YtcfdbciooimjmaaGreatDoor
set_option linter.unusedVariables false
set_option linter.unusedSimpArgs false
open Go.RowKit Go.ChangeShapes Go.WideShapes Go.ChangeAt Go.Sort

/-- What heads a function. -/
def headR : Rd (Int × Int × Int × Int) := andR (numR 0 16) fun a => andR (numR 0 16) fun l => andR (numR 0 8) fun c => andR (numR 1 200) fun n => retR (a, l, c, n)
theorem funR_head (t : List UInt8) : funR t = (match headR t with
    | .inl e => .inl e
    | .inr (x, r) => match manyR insR x.2.2.2.toNat r with
      | .inl e => .inl e
      | .inr (c, q) => .inr (⟨x.1, x.2.1, x.2.2.1, c⟩, q)) := by
  unfold funR headR andR retR
  cases numR 0 16 t with
  | inl e => rfl
  | inr x =>
    obtain ⟨a, r⟩ := x
    simp only
    cases numR 0 16 r with
    | inl e => rfl
    | inr x =>
      obtain ⟨l, r⟩ := x
      simp only
      cases numR 0 8 r with
      | inl e => rfl
      | inr x =>
        obtain ⟨c, r⟩ := x
        simp only
        cases numR 1 200 r with
        | inl e => rfl
        | inr x =>
          obtain ⟨n, r⟩ := x
          simp only
          cases manyR insR n.toNat r with
          | inl e => rfl
          | inr x => rfl
/-- The four numbers, state by state. -/
theorem head_nu (l : List UInt8) (i : Int) (t : List UInt8) (ha : At l i t) : ∃ x1 x2 x3 x4 : Int × Int × Int,
    x1 = nuS 0 16 l i 0 ∧ x2 = nuS 0 16 l x1.2.1 x1.2.2 ∧ x3 = nuS 0 8 l x2.2.1 x2.2.2 ∧ x4 = nuS 1 200 l x3.2.1 x3.2.2 ∧
    Vl l x1.2.1 x1.2.2 ∧ Vl l x2.2.1 x2.2.2 ∧ Vl l x3.2.1 x3.2.2 ∧ Vl l x4.2.1 x4.2.2 ∧
    (∀ e, headR t = .inl e → x4.2.2 = e ∧ e ≠ 0) ∧ (∀ y r, headR t = .inr (y, r) → x4.2.2 = 0 ∧ y = (x1.1, x2.1, x3.1, x4.1) ∧ At l x4.2.1 r ∧ 1 ≤ x4.1 ∧ x4.1 ≤ 200) := by
  obtain ⟨h0, h1, rfl⟩ := ha
  have hv0 : Vl l i 0 := fun _ => ⟨h0, h1⟩
  have hv1 := (sim_nu 0 16).2.1 _ _ _ hv0
  have hv2 := (sim_nu 0 16).2.1 _ _ _ hv1
  have hv3 := (sim_nu 0 8).2.1 _ _ _ hv2
  have hv4 := (sim_nu 1 200).2.1 _ _ _ hv3
  have S : Sim headR (fun l i er => ((( nuS 0 16 l i er).1, (nuS 0 16 l (nuS 0 16 l i er).2.1 (nuS 0 16 l i er).2.2).1, (nuS 0 8 l (nuS 0 16 l (nuS 0 16 l i er).2.1 (nuS 0 16 l i er).2.2).2.1 (nuS 0 16 l (nuS 0 16 l i er).2.1 (nuS 0 16 l i er).2.2).2.2).1,
      (nuS 1 200 l (nuS 0 8 l (nuS 0 16 l (nuS 0 16 l i er).2.1 (nuS 0 16 l i er).2.2).2.1 (nuS 0 16 l (nuS 0 16 l i er).2.1 (nuS 0 16 l i er).2.2).2.2).2.1 (nuS 0 8 l (nuS 0 16 l (nuS 0 16 l i er).2.1 (nuS 0 16 l i er).2.2).2.1 (nuS 0 16 l (nuS 0 16 l i er).2.1 (nuS 0 16 l i er).2.2).2.2).2.2).1),
      (nuS 1 200 l (nuS 0 8 l (nuS 0 16 l (nuS 0 16 l i er).2.1 (nuS 0 16 l i er).2.2).2.1 (nuS 0 16 l (nuS 0 16 l i er).2.1 (nuS 0 16 l i er).2.2).2.2).2.1 (nuS 0 8 l (nuS 0 16 l (nuS 0 16 l i er).2.1 (nuS 0 16 l i er).2.2).2.1 (nuS 0 16 l (nuS 0 16 l i er).2.1 (nuS 0 16 l i er).2.2).2.2).2.2).2)) :=
    sim_and (sim_nu 0 16) fun a => sim_and (sim_nu 0 16) fun b => sim_and (sim_nu 0 8) fun c => sim_and (sim_nu 1 200) fun n => sim_ret (a, b, c, n)
  obtain ⟨s0, s1⟩ := S.2.2 l i h0 h1
  refine ⟨_, _, _, _, rfl, rfl, rfl, rfl, hv1, hv2, hv3, hv4, s0, fun y r h => ?_⟩
  obtain ⟨e1, e2, e3⟩ := s1 y r h
  refine ⟨e2, e1.symm, ?_, ?_⟩
  · simp only at e2 e3
    rw [e2] at hv4
    obtain ⟨k0, k1⟩ := hv4 rfl
    exact ⟨k0, k1, e3⟩
  · have : wE _ 71 _ = 0 := e2
    have := (wE_zero (by decide) this).2
    simp only [Bool.and_eq_true, decide_eq_true_eq] at this
    exact this

/-- What lies ready while a function is read: both results' blocks, the function, where one reads. -/
structure Fa (w : World) (r q X B : Nat) (s : ByteArray) (i e : Int) (a l m : Int) (c : Value) (u : World) : Prop where
  hr : Held u r 39 #[.int .i64 0, .int .i64 0, .int .i64 0, .slice none 0 0]
  hq : Held u q 54 #[.string ⟨#[]⟩, .int .i64 0, .int .i64 0]
  hx : Held u X 39 #[.int .i64 a, .int .i64 l, .int .i64 m, c]
  hb : Held u B 54 #[.string s, .int .i64 i, .int .i64 e]
  lo : Below w.heap.size w u
  wr : w.heap.size ≤ r
  rq : r < q
  qx : q < X
  xb : X < B
theorem Fa.below {w : World} {r q X B : Nat} {s : ByteArray} {i e a l m : Int} {c : Value} {u u' : World} (h : Fa w r q X B s i e a l m c u) (hb : Below u.heap.size u u') : Fa w r q X B s i e a l m c u' :=
  ⟨h.hr.below hb, h.hq.below hb, h.hx.below hb, h.hb.below hb, h.lo.trans (hb.mono h.lo.size), h.wr, h.rq, h.qx, h.xb⟩
theorem Fa.setX {w : World} {r q X B : Nat} {s : ByteArray} {i e a l m : Int} {c : Value} {u : World} (h : Fa w r q X B s i e a l m c u) {a' l' m' : Int} {c' : Value} (j : Nat) (v : Value) (hc : (#[Value.int .i64 a, .int .i64 l, .int .i64 m, c] : Array Value).setIfInBounds j v = #[.int .i64 a', .int .i64 l', .int .i64 m', c']) :
    Fa w r q X B s i e a' l' m' c' (u.setCell ⟨X, j, none⟩ v) := by
  have h0 := h.wr
  have h1 := h.rq
  have h2 := h.qx
  have h3 := h.xb
  refine ⟨h.hr.far (by omega) _ _, h.hq.far (by omega) _ _, by have := h.hx.set_at j v; rwa [hc] at this, h.hb.far (by omega) _ _, h.lo.setCell (by show w.heap.size ≤ X; omega) _, h0, h1, h2, h3⟩
theorem Fa.setB {w : World} {r q X B : Nat} {s : ByteArray} {i e a l m : Int} {c : Value} {u : World} (h : Fa w r q X B s i e a l m c u) {i' e' : Int} (j : Nat) (v : Value) (hc : (#[Value.string s, .int .i64 i, .int .i64 e] : Array Value).setIfInBounds j v = #[.string s, .int .i64 i', .int .i64 e']) :
    Fa w r q X B s i' e' a l m c (u.setCell ⟨B, j, none⟩ v) := by
  have h0 := h.wr
  have h1 := h.rq
  have h2 := h.qx
  have h3 := h.xb
  refine ⟨h.hr.far (by omega) _ _, h.hq.far (by omega) _ _, h.hx.far (by omega) _ _, by have := h.hb.set_at j v; rwa [hc] at this, h.lo.setCell (by show w.heap.size ≤ B; omega) _, h0, h1, h2, h3⟩
theorem Fa.set3 {w : World} {r q X B : Nat} {s : ByteArray} {i e a l m : Int} {c : Value} {u : World} (h : Fa w r q X B s i e a l m c u) (i' e' : Int) :
    Fa w r q X B s i' e' a l m c (((u.setCell ⟨B, 0, none⟩ (.string s)).setCell ⟨B, 1, none⟩ (.int .i64 i')).setCell ⟨B, 2, none⟩ (.int .i64 e')) :=
  ((h.setB (i' := i) (e' := e) 0 _ rfl).setB (i' := i') (e' := e) 1 _ rfl).setB (i' := i') (e' := e') 2 _ rfl
theorem Fa.grown {w : World} {r q X B : Nat} {s : ByteArray} {i e a l m : Int} {c : Value} {u u' : World} {row : Option Nat} (h : Fa w r q X B s i e a l m c u) (hg : u.grownBy u' row) (hr : ∀ b, row = some b → B < b) : Fa w r q X B s i e a l m c u' := by
  have h0 := h.wr
  have h1 := h.rq
  have h2 := h.qx
  have h3 := h.xb
  exact ⟨h.hr.grown hg (fun e => by have := hr _ e; omega), h.hq.grown hg (fun e => by have := hr _ e; omega), h.hx.grown hg (fun e => by have := hr _ e; omega), h.hb.grown hg (fun e => by have := hr _ e; omega), h.lo.grown hg h.lo.size (fun b e => by have := hr _ e; omega), h0, h1, h2, h3⟩
theorem Fa.lt {w : World} {r q X B : Nat} {s : ByteArray} {i e a l m : Int} {c : Value} {u : World} (h : Fa w r q X B s i e a l m c u) : B < u.heap.size ∧ X < u.heap.size ∧ q < u.heap.size ∧ r < u.heap.size := ⟨h.hb.lt, h.hx.lt, h.hq.lt, h.hr.lt⟩
theorem Fa.cells {w : World} {r q X B : Nat} {s : ByteArray} {i e a l m : Int} {c : Value} {u : World} (h : Fa w r q X B s i e a l m c u) :
    (u.cell? ⟨X, 0, none⟩ = some (.int .i64 a) ∧ u.cell? ⟨X, 1, none⟩ = some (.int .i64 l) ∧ u.cell? ⟨X, 2, none⟩ = some (.int .i64 m) ∧ u.cell? ⟨X, 3, none⟩ = some c ∧ u.frozen? ⟨X, 0, none⟩ = false ∧ u.frozen? ⟨X, 1, none⟩ = false ∧ u.frozen? ⟨X, 2, none⟩ = false ∧ u.frozen? ⟨X, 3, none⟩ = false) ∧
    u.cell? ⟨B, 0, none⟩ = some (.string s) ∧ u.cell? ⟨B, 1, none⟩ = some (.int .i64 i) ∧ u.cell? ⟨B, 2, none⟩ = some (.int .i64 e) ∧ u.frozen? ⟨B, 0, none⟩ = false ∧ u.frozen? ⟨B, 1, none⟩ = false ∧ u.frozen? ⟨B, 2, none⟩ = false :=
  ⟨⟨h.hx.cell 0, h.hx.cell 1, h.hx.cell 2, h.hx.cell 3, h.hx.fz 0, h.hx.fz 1, h.hx.fz 2, h.hx.fz 3⟩, h.hb.cell 0, h.hb.cell 1, h.hb.cell 2, h.hb.fz 0, h.hb.fz 1, h.hb.fz 2⟩
theorem Fa.res {w : World} {r q X B : Nat} {s : ByteArray} {i e a l m : Int} {c : Value} {u : World} (h : Fa w r q X B s i e a l m c u) :
    (u.cell? ⟨r, 0, none⟩ = some (.int .i64 0) ∧ u.cell? ⟨r, 1, none⟩ = some (.int .i64 0) ∧ u.cell? ⟨r, 2, none⟩ = some (.int .i64 0) ∧ u.cell? ⟨r, 3, none⟩ = some (.slice none 0 0) ∧ u.frozen? ⟨r, 0, none⟩ = false ∧ u.frozen? ⟨r, 1, none⟩ = false ∧ u.frozen? ⟨r, 2, none⟩ = false ∧ u.frozen? ⟨r, 3, none⟩ = false) ∧
    u.cell? ⟨q, 0, none⟩ = some (.string ⟨#[]⟩) ∧ u.cell? ⟨q, 1, none⟩ = some (.int .i64 0) ∧ u.cell? ⟨q, 2, none⟩ = some (.int .i64 0) ∧ u.frozen? ⟨q, 0, none⟩ = false ∧ u.frozen? ⟨q, 1, none⟩ = false ∧ u.frozen? ⟨q, 2, none⟩ = false :=
  ⟨⟨h.hr.cell 0, h.hr.cell 1, h.hr.cell 2, h.hr.cell 3, h.hr.fz 0, h.hr.fz 1, h.hr.fz 2, h.hr.fz 3⟩, h.hq.cell 0, h.hq.cell 1, h.hq.cell 2, h.hq.fz 0, h.hq.fz 1, h.hq.fz 2⟩
theorem Fa.far {w : World} {r q X B : Nat} {s : ByteArray} {i e a l m : Int} {c : Value} {u : World} (h : Fa w r q X B s i e a l m c u) (x y z k x' y' z' : Value) :
    Held (((((((u.setCell ⟨r, 0, none⟩ x).setCell ⟨r, 1, none⟩ y).setCell ⟨r, 2, none⟩ z).setCell ⟨r, 3, none⟩ k).setCell ⟨q, 0, none⟩ x').setCell ⟨q, 1, none⟩ y').setCell ⟨q, 2, none⟩ z').drew r 39 #[x, y, z, k] ∧
    Held (((((((u.setCell ⟨r, 0, none⟩ x).setCell ⟨r, 1, none⟩ y).setCell ⟨r, 2, none⟩ z).setCell ⟨r, 3, none⟩ k).setCell ⟨q, 0, none⟩ x').setCell ⟨q, 1, none⟩ y').setCell ⟨q, 2, none⟩ z').drew q 54 #[x', y', z'] ∧
    Below w.heap.size w (((((((u.setCell ⟨r, 0, none⟩ x).setCell ⟨r, 1, none⟩ y).setCell ⟨r, 2, none⟩ z).setCell ⟨r, 3, none⟩ k).setCell ⟨q, 0, none⟩ x').setCell ⟨q, 1, none⟩ y').setCell ⟨q, 2, none⟩ z').drew := by
  have h0 := h.wr
  have h1 := h.rq
  have h2 := h.qx
  have h3 := h.xb
  have hr : w.heap.size ≤ r := by omega
  have hq : w.heap.size ≤ q := by omega
  refine ⟨held_drew ?_, held_drew ?_, Below.drew ?_⟩
  · have e0 := (((h.hr.set_at 0 x).set_at 1 y).set_at 2 z).set_at 3 k
    have hne : r ≠ q := by omega
    have e1 := ((e0.far hne 0 x').far hne 1 y').far hne 2 z'
    exact e1
  · have hne : q ≠ r := by omega
    have e0 := (((h.hq.far hne 0 x).far hne 1 y).far hne 2 z).far hne 3 k
    have e1 := ((e0.set_at 0 x').set_at 1 y').set_at 2 z'
    exact e1
  · exact ((((((h.lo.setCell hr _).setCell hr _).setCell hr _).setCell hr _).setCell hq _).setCell hq _).setCell hq _
end Go.Proofs.YtcfdbciooimjmaaGreatDoor

