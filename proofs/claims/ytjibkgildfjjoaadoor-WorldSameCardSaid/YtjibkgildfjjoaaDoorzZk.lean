/- Layer 13: what world's four calls answer; worlds in variables. -/
import Derived.Test.YtjibkgildfjjoaaDoorzYr
import Derived.Test.YtjibkgildfjjoaaDoorzZd
import Derived.Test.YtjibkgildfjjoaaDoorzRw
namespace Go.Proofs.YtjibkgildfjjoaaDoor
set_option linter.unusedVariables false
set_option linter.unusedSimpArgs false
open Go.RowKit Go.ChangeShapes Go.WideShapes Go.ChangeAt Go.Sort

/-- Two lists that can be read. -/
def FreshR (w : World) (R : List Rng × List V) (e : Ending) (w' : World) : Prop := ∃ A c A2 c2, e = .returned (.tuple #[.slice A R.1.length c, .slice A2 R.2.length c2]) ∧ GAt w' w'.heap.size A R.1 ∧ PAt w' w'.heap.size A2 R.2 ∧ Below w.heap.size w w'
theorem FreshQ.r {w w' : World} {R : List Rng × List V} {e : Ending} (h : FreshQ w R e w') : FreshR w R e w' := by
  obtain ⟨A, c, A2, c2, he, h1, h2, hb⟩ := h
  exact ⟨A, c, A2, c2, he, h1.own.at, own2_at h2, hb⟩
/-- What world's calls answer. -/
structure WC (T : World → Prop) : Prop where
  new : ∀ {Ap A2 : Option Addr} {p : List Fun} {args : List V} {B : Nat} (c c2 : Nat) (s k lf lm lr : Int) (w : World), T w → ProgAt w B Ap p → SizedP p → VAt w B A2 args → args.length ≤ 1000 → B ≤ w.heap.size →
    Calls Tryd.prog 17 #[.slice Ap p.length c, .slice A2 args.length c2, .int .i64 s, .int .i64 k, .agg (lmc lf lm lr)] w (WorldQ w (newW p args s k lf lm lr))
  ready : ∀ {a : WA} {W : Wld} {B : Nat} (w : World), T w → WAt w B a W → LenW W → B ≤ w.heap.size → Calls Tryd.prog 8 #[.agg (wcs a W)] w (ListQ w (readyW W))
  same : ∀ {a b : WA} {U W : Wld} {B : Nat} (w : World), T w → WAt w B a U → WAt w B b W → LenW U → LenW W → B ≤ w.heap.size → Calls Tryd.prog 12 #[.agg (wcs a U), .agg (wcs b W)] w fun e w' => e = .returned (.bool (sameW U W)) ∧ Below w.heap.size w w'
  fresh : ∀ (k lf lm lr : Int) (w : World), T w → Calls Tryd.prog 13 #[.int .i64 k, .agg (lmc lf lm lr)] w (FreshR w (freshR k lr))
  kept : ∀ {w w' : World}, T w → Below w.heap.size w w' → T w'
/-- A variable that holds a world. -/
structure WV (W : World) (g : Nat) (a : WA) (U : Wld) : Prop where
  x : Held W g 40 (wcs a U)
  p : WAt W W.heap.size a U
theorem WV.below {W W' : World} {g : Nat} {a : WA} {U : Wld} (h : WV W g a U) (hb : Below W.heap.size W W') : WV W' g a U := ⟨h.x.below hb, h.p.later hb⟩
theorem new_w1 {W u : World} {a : WA} {U : Wld} (hb : Below W.heap.size W u) (ho : WAt u u.heap.size a U) :
    WV ((u.alloc (.cells wz0 40)).setRow u.heap.size (wcs a U)) u.heap.size a U ∧ Below W.heap.size W ((u.alloc (.cells wz0 40)).setRow u.heap.size (wcs a U)) := by
  have hb2 : Below u.heap.size u ((u.alloc (.cells wz0 40)).setRow u.heap.size (wcs a U)) := below_setRow ((Below.refl _ _).alloc (Nat.le_refl _) _) (Nat.le_refl _) _
  exact ⟨⟨held_rowSelf (Held.new u 40 wz0) _, ho.later hb2⟩, Below.step hb hb2⟩
theorem ProgAt.later {w w' : World} {A : Option Addr} {p : List Fun} (h : ProgAt w w.heap.size A p) (hb : Below w.heap.size w w') : ProgAt w' w'.heap.size A p := (h.below hb (Nat.le_refl _)).more hb.size
theorem PAt.later {w w' : World} {A : Option Addr} {l : List P2} (h : PAt w w.heap.size A l) (hb : Below w.heap.size w w') : PAt w' w'.heap.size A l := (h.below hb (Nat.le_refl _)).more hb.size
theorem VAt.later {w w' : World} {A : Option Addr} {l : List V} (h : VAt w w.heap.size A l) (hb : Below w.heap.size w w') : VAt w' w'.heap.size A l := (h.below hb (Nat.le_refl _)).more hb.size
/-- As the laws meet the calls: results under names. -/
theorem newW_c {T : World → Prop} (C : WC T) {p : List Fun} {args : List V} {s k lf lm lr : Int} {U : Wld} {x : Int} (hR : newW p args s k lf lm lr = (U, x)) (hz : SizedP p) (hl : args.length ≤ 1000) (c c2 : Nat) (W : World) (hT : T W) {Ap A2 : Option Addr} (hp : ProgAt W W.heap.size Ap p) (ha : VAt W W.heap.size A2 args) :
    Calls Tryd.prog 17 #[.slice Ap p.length c, .slice A2 args.length c2, .int .i64 s, .int .i64 k, .agg (lmc lf lm lr)] W fun e w' => ∃ a, e = .returned (.tuple #[.agg (wcs a U), .int .i64 x]) ∧ WAt w' w'.heap.size a U ∧ Below W.heap.size W w' := by
  have h := C.new c c2 s k lf lm lr W hT hp hz ha hl (Nat.le_refl _)
  rw [hR] at h
  exact h
theorem freshW_c {T : World → Prop} (C : WC T) {k lr : Int} {RL : List Rng} {CL : List V} (hR : freshR k lr = (RL, CL)) (lf lm : Int) (W : World) (hT : T W) :
    Calls Tryd.prog 13 #[.int .i64 k, .agg (lmc lf lm lr)] W fun e w' => ∃ A c A2 c2, e = .returned (.tuple #[.slice A RL.length c, .slice A2 CL.length c2]) ∧ GAt w' w'.heap.size A RL ∧ PAt w' w'.heap.size A2 CL ∧ Below W.heap.size W w' := by
  have h := C.fresh k lf lm lr W hT
  rw [hR] at h
  exact h
theorem readyW_c {T : World → Prop} (C : WC T) {U : Wld} {l : List V} (hR : readyW U = l) (hl : LenW U) (W : World) (hT : T W) {a : WA} (h : WAt W W.heap.size a U) :
    Calls Tryd.prog 8 #[.agg (wcs a U)] W fun e w' => ∃ A c, e = .returned (.slice A l.length c) ∧ PAt w' w'.heap.size A l ∧ Below W.heap.size W w' := by
  subst hR
  exact (C.ready W hT h hl (Nat.le_refl _)).mono fun _ _ ⟨A, c, a, b, d⟩ => ⟨A, c, a, own2_at b, d⟩
theorem sameW_c {T : World → Prop} (C : WC T) {U V : Wld} {R : Bool} (hR : sameW U V = R) (hl : LenW U) (hl' : LenW V) (W : World) (hT : T W) {a b : WA} (h : WAt W W.heap.size a U) (h' : WAt W W.heap.size b V) :
    Calls Tryd.prog 12 #[.agg (wcs a U), .agg (wcs b V)] W fun e w' => e = .returned (.bool R) ∧ Below W.heap.size W w' := by
  subst hR
  exact C.same W hT h h' hl hl' (Nat.le_refl _)
theorem smallW_c {U : Wld} {R : Bool} (hR : smW U = R) (hz : SzW U) (W : World) {a : WA} (h : WAt W W.heap.size a U) :
    Calls Tryd.prog 7 #[.agg (wcs a U)] W fun e w' => e = .returned (.bool R) ∧ Below W.heap.size W w' := by
  subst hR
  exact rsmall_w W h hz (Nat.le_refl _)
theorem sm_lenW {U : Wld} (h : smW U = true) (hz : SizedP U.prog) : LenW U := by
  unfold smW at h
  simp only [Bool.and_eq_true, decide_eq_true_eq, List.all_eq_true] at h
  obtain ⟨⟨⟨⟨h1, h2⟩, h3⟩, h4⟩, h5⟩ := h
  exact ⟨hz, sm_len h4 (by decide), by omega, fun r hr => by have := h1 r hr; omega, by omega⟩
theorem wld0_len : LenW wld0 := ⟨⟨by simp [wld0], by intro x hx; simp [wld0] at hx⟩, ⟨by simp [wld0, zp0], by simp [wld0, zp0], fun i hi => absurd hi (by simp [wld0, zp0])⟩, by simp [wld0], by intro r hr; simp [wld0] at hr, by simp [wld0]⟩
end Go.Proofs.YtjibkgildfjjoaaDoor

/- Layer 13: world.Fresh. -/
namespace Go.Proofs.YtjibkgildfjjoaaDoor
set_option linter.unusedVariables false
set_option linter.unusedSimpArgs false
open Go.RowKit Go.ChangeShapes Go.WideShapes Go.ChangeAt Go.Sort

/-! Rings that are made, and set. -/
abbrev rg00 : Rng := ⟨[], 0, 0, 0⟩
def flatZ : Nat → List Value
  | 0 => []
  | n + 1 => .slice none 0 0 :: .int .i64 0 :: .int .i64 0 :: .int .i64 0 :: flatZ n
theorem flatZ_len : ∀ n, (flatZ n).length = n * 4
  | 0 => rfl
  | n + 1 => by simp only [flatZ, List.length_cons, flatZ_len n]; omega
theorem flatZ_at : ∀ n j i, j < n → i < 4 → (flatZ n)[j * 4 + i]? = (rgc none 0 0 0 0 0).toList[i]?
  | 0, _, _, h, _ => absurd h (by omega)
  | n + 1, 0, i, _, hi => by
    match i, hi with
    | 0, _ => rfl
    | 1, _ => rfl
    | 2, _ => rfl
    | 3, _ => rfl
  | n + 1, j + 1, i, h, hi => by
    rw [show (j + 1) * 4 + i = j * 4 + i + 1 + 1 + 1 + 1 by omega]
    simp only [flatZ, List.getElem?_cons_succ]
    exact flatZ_at n j i (by omega) hi
def zeroG (n : Nat) : Array Value := (flatZ n).toArray
theorem madeG (n : Nat) : madeCells #[Value.slice none 0 0, .int .i64 0, .int .i64 0, .int .i64 0] (n * 4) = zeroG n := by
  unfold zeroG
  apply Array.ext'
  apply List.ext_getElem?
  intro k
  by_cases hk : k < n * 4
  · have hm : k % 4 = 0 ∨ k % 4 = 1 ∨ k % 4 = 2 ∨ k % 4 = 3 := by omega
    have h9 := flatZ_at n (k / 4) (k % 4) (by omega) (by omega)
    rw [show k / 4 * 4 + k % 4 = k by omega] at h9
    rw [show (flatZ n).toArray.toList[k]? = (flatZ n)[k]? by simp, h9]
    simp only [madeCells]
    rcases hm with hm | hm | hm | hm <;> simp [hk, hm]
  · simp only [madeCells]
    rw [List.getElem?_eq_none (by simp; omega), List.getElem?_eq_none (by simp [flatZ_len]; omega)]
theorem make_gs {n : Nat} (hn : n ≤ 2000) (w : World) : (Instr.makeSlice 30 (.int .i64 (n : Int)) (.int .i64 (n : Int))).run Tryd.prog w = .ok (.slice (some ⟨w.heap.size, 0, none⟩) n n) (w.alloc (.cells (zeroG n) 46)) := by
  obtain ⟨q, hi, hz0, hz1, hz2⟩ := info_parts infoG
  have hr := run_make (P := Tryd.prog) w 30 46 q _ Tryd.underlying30 hi hz0 .i64 .i64 n n (by omega) (Int.le_refl _) (by rw [hz2]; omega) (by omega)
  simp only [Int.toNat_natCast, hz1] at hr
  rw [hr, ← madeG]
  rfl
theorem zeroG_own {N : Option Nat} {w : World} {B g n : Nat} (h : Held w g 46 (zeroG n)) (hB : B ≤ g) (hn : n ≤ 1000000) : OwnGx N w B (.slice (some ⟨g, 0, none⟩) n n) (List.replicate n rg00) := by
  refine ⟨flatZ n, ?_, ?_⟩
  · rw [List.length_replicate]
    refine ⟨flatZ_len n, .inr ⟨g, n, zeroG n, rfl, hB, h, Nat.le_refl _, by unfold maxLen; omega, ?_, ?_⟩⟩
    · simp [zeroG, flatZ_len]
    · rw [← flatZ_len n]
      simp [zeroG]
  · refine ⟨by rw [List.length_replicate, flatZ_len], fun j hj => ?_⟩
    rw [List.length_replicate] at hj
    refine ⟨none, 0, ⟨?_, fun b hb => by simp [Value.ownBlock] at hb⟩, fun i hi => ?_⟩
    · rw [List.getElem_replicate]
      exact Own2.nil _ _ _
    · rw [flatZ_at n j i hj hi, List.getElem_replicate]
      rfl
theorem rgsOf_set {F G : RF} {xs : List Value} {l : List Rng} (h : RgsOf F xs l) {j : Nat} (hj : j < l.length) {A : Option Addr} {c : Nat} {r : Rng} (h3 : G A c r) (hF : ∀ A c r, F A c r → G A c r) :
    RgsOf G (setL xs (j * 4) (rgc A r.buf.length c r.head r.many r.most).toList) (l.set j r) := by
  have hx := h.1
  refine ⟨by rw [setL_len, List.length_set]; exact h.1, fun k hk => ?_⟩
  rw [List.length_set] at hk
  by_cases e : k = j
  · subst e
    refine ⟨A, c, by rw [List.getElem_set_self]; exact h3, fun i hi => ?_⟩
    rw [List.getElem_set_self, setL_in _ _ _ _ (by omega) (by simp; omega) (by simp; omega)]
    congr 1
    omega
  · obtain ⟨A', c', d3, d4⟩ := h.2 k hk
    refine ⟨A', c', by rw [List.getElem_set_ne (Ne.symm e)]; exact hF _ _ _ d3, fun i hi => ?_⟩
    rw [List.getElem_set_ne (Ne.symm e), setL_out _ _ _ _ (by simp; omega)]
    exact d4 i hi
theorem OwnGx.set {N : Option Nat} {w : World} {B g n c c9 : Nat} {A9 : Option Addr} {l : List Rng} {r : Rng} (h : OwnGx N w B (.slice (some ⟨g, 0, none⟩) n c) l) {j : Nat} (hj : j < l.length) (hr : OwnR w B (.slice A9 r.buf.length c9) r.buf) (ha : ApN N (.slice A9 r.buf.length c9)) :
    OwnGx N (w.setCells g (j * 4) (rgc A9 r.buf.length c9 r.head r.many r.most).toList) B (.slice (some ⟨g, 0, none⟩) n c) (l.set j r) := by
  obtain ⟨xs, k1, k2⟩ := h
  have e : l.length = n := by
    obtain ⟨A', c', e, -⟩ := row_lies k1
    simp only [Value.slice.injEq] at e
    exact e.2.1.symm
  rw [e] at k1
  have hk : KTy w (w.setCells g (j * 4) (rgc A9 r.buf.length c9 r.head r.many r.most).toList) 46 := kt_setCells k1 _ _
  refine ⟨_, ?_, rgsOf_set (G := fun A c r => OwnR _ B (.slice A r.buf.length c) r.buf ∧ ApN N (.slice A r.buf.length c)) k2 hj ⟨row_kt hr hk (by decide), ha⟩ fun A c r k => ⟨row_kt k.1 hk (by decide), k.2⟩⟩
  rw [List.length_set, e]
  exact row_setCells _ _ k1
theorem OwnGx.kt {N : Option Nat} {w w' : World} {B : Nat} {v : Value} {l : List Rng} {t : TypeId} (h : OwnGx N w B v l) (hk : KTy w w' t) (h1 : 46 ≠ t) (h2 : 33 ≠ t) : OwnGx N w' B v l := by
  obtain ⟨xs, k1, k2⟩ := h
  exact ⟨xs, row_kt k1 hk h1, k2.mono fun _ _ _ k => ⟨row_kt k.1 hk h2, k.2⟩⟩
/-- What world.Fresh tells, whose lists are the call's own. -/
def FreshO (w : World) (R : List Rng × List V) (e : Ending) (w' : World) : Prop := ∃ A c A2 c2, e = .returned (.tuple #[.slice A R.1.length c, .slice A2 R.2.length c2]) ∧ OwnGx (Value.ownBlock (.slice A2 R.2.length c2)) w' w.heap.size (.slice A R.1.length c) R.1 ∧ OwnR w' w.heap.size (.slice A2 R.2.length c2) R.2 ∧ Below w.heap.size w w'
theorem rep_set {α : Type} (x y : α) (n j : Nat) (h : j < n) : (List.replicate j x ++ List.replicate (n - j) y).set j x = List.replicate (j + 1) x ++ List.replicate (n - (j + 1)) y := by
  obtain ⟨d, hd⟩ : ∃ d, n - j = d + 1 := ⟨n - j - 1, by omega⟩
  rw [hd, show n - (j + 1) = d by omega, List.set_append_right _ _ (by simp), List.length_replicate, Nat.sub_self, List.replicate_succ, List.set_cons_zero, List.replicate_succ' (n := j)]
  simp
/-- What lies ready in the loop. -/
structure FrS (w : World) (lf lm lr : Int) (n j gR gC : Nat) (W : World) : Prop where
  l : Held W w.heap.size 25 (lmc lf lm lr)
  g : OwnGx (some gC) W (w.heap.size + 1) (.slice (some ⟨gR, 0, none⟩) n n) (List.replicate j (rng1 lr) ++ List.replicate (n - j) rg00)
  c : OwnR W (w.heap.size + 1) (.slice (some ⟨gC, 0, none⟩) n n) (List.replicate j noV ++ List.replicate (n - j) (0, 0))
  t : TW W
  b : Below w.heap.size w W
theorem FrS.below {w : World} {lf lm lr : Int} {n j gR gC : Nat} {W W' : World} (h : FrS w lf lm lr n j gR gC W) (hb : Below W.heap.size W W') : FrS w lf lm lr n j gR gC W' :=
  ⟨h.l.below hb, h.g.below hb, r_later h.c hb, h.t.below hb, Below.step h.b hb⟩
theorem FrS.step {w : World} {lf lm lr : Int} {n j gR gC : Nat} {W : World} (h : FrS w lf lm lr n j gR gC W) (hT : TW w) (hj : j < n) {A9 : Option Addr} {c9 : Nat} (hr : OwnR W (w.heap.size + 1) (.slice A9 1 c9) (rng1 lr).buf) (ha : ApN (some gC) (.slice A9 1 c9)) :
    FrS w lf lm lr n (j + 1) gR gC ((W.setCells gR (j * 4) (rgc A9 1 c9 0 0 lr).toList).setCells gC (j * 2) [.int .i64 (-1), .int .i64 0]) := by
  obtain ⟨xs, k1, k2⟩ := h.g
  rw [List.length_append, List.length_replicate, List.length_replicate, show j + (n - j) = n by omega] at k1
  have hR := k1.lt gR rfl
  have hC := World.ownsRow.lt h.c gC rfl
  have hj1 : j < (List.replicate j (rng1 lr) ++ List.replicate (n - j) rg00).length := by simp; omega
  have hj2 : j < (List.replicate j noV ++ List.replicate (n - j) (0, 0)).length := by simp; omega
  have g1 := h.g.set hj1 (r := rng1 lr) hr ha
  have kR : KTy W (W.setCells gR (j * 4) (rgc A9 1 c9 0 0 lr).toList) 46 := kt_setCells k1 _ _
  have c1 : OwnR (W.setCells gR (j * 4) (rgc A9 1 c9 0 0 lr).toList) (w.heap.size + 1) (.slice (some ⟨gC, 0, none⟩) n n) (List.replicate j noV ++ List.replicate (n - j) (0, 0)) := row_kt h.c kR (by decide)
  have hgC := grown_setCells (W.setCells gR (j * 4) (rgc A9 1 c9 0 0 lr).toList) gC (j * 2) [.int .i64 (-1), .int .i64 0]
  have kC : KTy (W.setCells gR (j * 4) (rgc A9 1 c9 0 0 lr).toList) ((W.setCells gR (j * 4) (rgc A9 1 c9 0 0 lr).toList).setCells gC (j * 2) [.int .i64 (-1), .int .i64 0]) 33 := kt_own c1 hgC
  have g2 := g1.turn hgC kC (fun b e => .inl e)
  have c2 := Own2.set c1 j noV hj2
  rw [rep_set _ _ _ _ hj] at g2 c2
  have b1 := below_setCells h.b (show w.heap.size ≤ gR by omega) (j * 4) (rgc A9 1 c9 0 0 lr).toList
  have b2 := below_setCells b1 (show w.heap.size ≤ gC by omega) (j * 2) [.int .i64 (-1), .int .i64 0]
  refine ⟨held_kt (held_kt h.l kR (by decide)) kC (by decide), g2, c2, hT.below b2, b2⟩
theorem FrS.start {w : World} {lf lm lr : Int} {n gR gC : Nat} {W1 W2 : World} (hn : n ≤ 64) (hT : TW w) (hl : Held W1 w.heap.size 25 (lmc lf lm lr)) (hb : Below w.heap.size w W1) (hb2 : Below W1.heap.size W1 W2)
    (hg : Held W2 gR 46 (zeroG n)) (hc : Held W2 gC 33 (zeroR n)) (h1 : W1.heap.size ≤ gR) (h2 : W1.heap.size ≤ gC) : FrS w lf lm lr n 0 gR gC W2 := by
  have hs := hl.lt
  refine ⟨hl.below hb2, ?_, ?_, (hT.below (Below.step hb hb2)), Below.step hb hb2⟩
  · simp only [List.replicate_zero, List.nil_append, Nat.sub_zero]
    exact zeroG_own hg (by omega) (by omega)
  · simp only [List.replicate_zero, List.nil_append, Nat.sub_zero]
    exact zeroR_own hc (by omega) (by omega)
theorem FrS.row {w : World} {lf lm lr : Int} {n j gR gC : Nat} {W : World} (h : FrS w lf lm lr n j gR gC W) (hj : j ≤ n) : ∃ xs, W.ownsRow (w.heap.size + 1) 46 4 (.slice (some ⟨gR, 0, none⟩) n n) n xs := by
  obtain ⟨xs, k1, k2⟩ := h.g
  rw [List.length_append, List.length_replicate, List.length_replicate, show j + (n - j) = n by omega] at k1
  exact ⟨xs, k1⟩
theorem FrS.there {w : World} {lf lm lr : Int} {n j gR gC : Nat} {W : World} (h : FrS w lf lm lr n j gR gC W) (hj : j < n) : W.there gR (j * 4) 4 := by
  obtain ⟨xs, k1⟩ := h.row (Nat.le_of_lt hj)
  exact row_there k1 (by omega)
theorem FrS.there2 {w : World} {lf lm lr : Int} {n j gR gC : Nat} {W : World} (h : FrS w lf lm lr n j gR gC W) (A : Option Addr) (k c : Nat) (t : Int) (hj : j < n) : (W.setCells gR (j * 4) (rgc A k c 0 0 t).toList).there gC (j * 2) 2 := by
  obtain ⟨xs, k1⟩ := h.row (Nat.le_of_lt hj)
  have hk : KTy W (W.setCells gR (j * 4) (rgc A k c 0 0 t).toList) 46 := kt_setCells k1 _ _
  have h9 := h.c
  unfold OwnR Own2 at h9
  rw [List.length_append, List.length_replicate, List.length_replicate, show j + (n - j) = n by omega] at h9
  exact row_there (row_kt h9 hk (by decide)) (by omega)
theorem FrS.nor {w : World} {lf lm lr : Int} {n j gR gC : Nat} {W : World} (h : FrS w lf lm lr n j gR gC W) (A : Option Addr) (k c : Nat) (t : Int) (hj : j < n) (hT : TW w) : NoR (W.setCells gR (j * 4) (rgc A k c 0 0 t).toList) := by
  obtain ⟨xs, k1⟩ := h.row (Nat.le_of_lt hj)
  have := (k1.lt gR rfl).1
  exact (hT.below (below_setCells h.b (show w.heap.size ≤ gR by omega) (j * 4) (rgc A k c 0 0 t).toList)).nr
set_option maxHeartbeats 4000000 in
set_option maxRecDepth 100000 in
theorem fresh_w (k lf lm lr : Int) (w : World) (hT : TW w) :
    Calls Tryd.prog 13 #[.int .i64 k, .agg (lmc lf lm lr)] w (FreshO w (freshR k lr)) := by
  have hb0 : Below w.heap.size w (w.alloc (.cells (lmc lf lm lr) 25)) := (Below.refl _ _).alloc (Nat.le_refl _) _
  have g1 := Held.new w 25 (lmc lf lm lr)
  have NC := fun W => new_r 1 lr W
  rw [newR_1] at NC
  obtain ⟨R, hR⟩ : ∃ R, freshR k lr = R := ⟨_, rfl⟩
  rw [hR]
  have HT := Lib.hid hT
  clear hT
  by_cases hr : 1 ≤ lr ∧ lr ≤ 1024
  · rw [if_pos hr] at NC
    by_cases hk : 1 ≤ k ∧ k ≤ 64
    · obtain ⟨n, rfl⟩ : ∃ n : Nat, k = n := ⟨k.toNat, by omega⟩
      obtain rfl : (List.replicate n (rng1 lr), List.replicate n noV) = R := by rw [← hR]; exact (freshR_yes (k := n) ((mayFr_iff _ _).2 ⟨hk, hr⟩)).symm
      have c1 : decide ((n : Int) < 1) = false := decide_eq_false (by omega)
      have c2 : decide (64 < (n : Int)) = false := decide_eq_false (by omega)
      have MG := fun W => make_gs (n := n) (by omega) W
      have MR := fun W => make_rs (n := n) (by omega) W
      have HN := Lib.hid (show 1 ≤ n ∧ n ≤ 64 by omega)
      clear hk hr hR
      have NC2 := Lib.hid NC
      clear NC
      go_enter Tryd.func13, Tryd.ntmps13
      go_upto_region 1 with (fail)
      generalize w.alloc (.cells (lmc lf lm lr) 25) = W0 at *
      have x2 := g1.cell 2
      simp at x2
      go_upto_region 2 with (first
        | (go_at_call 28; (with_reducible refine (NC2.out _).mono ?_); rintro _ u ⟨_, rfl, ⟨A9, c9, rfl, hro⟩, hbu⟩; have hn := Held.new u 46 rz0)
        | (guard_target = wpList _ _ _ (Oper.mk _ (Op.store 46 (.tmp 6) _) _ _ _ none :: _) _ _; refine wpList_store_row rfl 46 _ _ rfl u.heap.size (rgc A9 1 c9 0 0 lr) rfl rfl _ _ hn (by kernel_rfl) rfl (by simp [Value.oneCell']) ?_))
      have hbV : Below u.heap.size u ((u.alloc (.cells rz0 46)).setRow u.heap.size (rgc A9 1 c9 0 0 lr)) := below_setRow ((Below.refl _ _).alloc (Nat.le_refl _) _) (Nat.le_refl _) _
      have g2 := (g1.below hbu).below hbV
      have hb2 := Below.step (Below.step hb0 hbu) hbV
      clear hro hn hbu hbV x2 g1 hb0
      generalize World.setRow _ u.heap.size _ = W1 at *
      go_upto_region 4 with (fail)
      go_cut [8, 9] from 27 to 30 (fun v8 v9 wx => ∃ gR gC, v8 = .slice (some ⟨gR, 0, none⟩) n n ∧ v9 = .slice (some ⟨gC, 0, none⟩) n n ∧ FrS w lf lm lr n 0 gR gC wx)
      case first =>
        have HG := Lib.hid (And.intro g2 hb2)
        clear g2 hb2
        go_region
        all_goals go_wp2_with fail
        all_goals go_meet
        case rel =>
          obtain ⟨g2, hb2⟩ := HG.out
          have b2 := below2 W1 (.cells (zeroG n) 46) (.cells (zeroR n) 33)
          have e1 : Held ((W1.alloc (.cells (zeroG n) 46)).alloc (.cells (zeroR n) 33)) W1.heap.size 46 (zeroG n) := (Held.new W1 46 (zeroG n)).alloc _
          have e2 : Held ((W1.alloc (.cells (zeroG n) 46)).alloc (.cells (zeroR n) 33)) (W1.heap.size + 1) 33 (zeroR n) := Held.new1 W1 (.cells (zeroG n) 46) 33 (zeroR n)
          exact ⟨W1.heap.size, W1.heap.size + 1, rfl, rfl, (FrS.start HN.out.2 HT.out g2 hb2 b2 e1 e2 (Nat.le_refl _) (Nat.le_succ _)).below (Below.refl _ _).drew⟩
        case rel =>
          obtain ⟨g2, hb2⟩ := HG.out
          have b2 := below2 W1 (.cells (zeroR n) 33) (.cells (zeroG n) 46)
          have e1 : Held ((W1.alloc (.cells (zeroR n) 33)).alloc (.cells (zeroG n) 46)) W1.heap.size 33 (zeroR n) := (Held.new W1 33 (zeroR n)).alloc _
          have e2 : Held ((W1.alloc (.cells (zeroR n) 33)).alloc (.cells (zeroG n) 46)) (W1.heap.size + 1) 46 (zeroG n) := Held.new1 W1 (.cells (zeroR n) 33) 46 (zeroG n)
          exact ⟨W1.heap.size + 1, W1.heap.size, rfl, rfl, (FrS.start HN.out.2 HT.out g2 hb2 b2 e2 e1 (Nat.le_succ _) (Nat.le_refl _)).below (Below.refl _ _).drew⟩
      case rest =>
        obtain ⟨gR, gC, rfl, rfl, h0⟩ := hcut
        have HS := Lib.hid h0
        clear h0 g2 hb2 MG MR c1 c2
        go_upto_region 6 with (fail)
        go_loopw [32] (fun iv W => ∃ j : Nat, iv = .int .i64 j ∧ j ≤ n ∧ FrS w lf lm lr n j gR gC W) (fun iv _ => n - (intOf iv).toNat)
        case atStart => exact ⟨0, rfl, by omega, HS.out⟩
        case round =>
          clear HS
          obtain ⟨j, rfl, hj, hs⟩ := hrel
          have hj0 : (0 : Int) ≤ j := by omega
          have hnI : (n : Int) ≤ 64 := by have := HN.out; omega
          by_cases hlt : j < n
          · have hlt2 : (j : Int) < (n : Int) := by omega
            have x2 := hs.l.cell 2
            simp at x2
            have HS := Lib.hid hs
            clear hs
            go_upto_region 9 with (first
              | (go_at_call 28; (with_reducible refine (NC2.out _).mono ?_); rintro _ u2 ⟨_, rfl, ⟨A8, c8, rfl, hr8⟩, hb8⟩; have q8 := (HS.out.below hb8).there hlt)
              | (guard_target = wpList _ _ _ (Oper.mk none (Op.store 46 (.tmp 43) _) _ _ _ none :: _) _ _; refine wpList_store_mid rfl 46 _ _ rfl gR (j * 4) (rgc A8 1 c8 0 0 lr) rfl rfl q8 (by kernel_rfl) (by simp [Value.oneCell']) ?_))
            have nr := (HS.out.below hb8).nor A8 1 c8 lr hlt HT.out
            have q9 := (HS.out.below hb8).there2 A8 1 c8 lr hlt
            obtain ⟨tn, nr⟩ := nr
            have n0 := nr.cell 0
            have n1 := nr.cell 1
            simp at n0 n1
            go_upto_region 10 with (guard_target = wpList _ _ _ (Oper.mk none (Op.store 33 (.tmp 47) _) _ _ _ none :: _) _ _; refine wpList_store_mid rfl 33 _ _ rfl gC (j * 2) #[.int .i64 (-1), .int .i64 0] rfl rfl q9 (by kernel_rfl) (by simp [Value.oneCell']) ?_)
            have HF := Lib.hid ((HS.out.below hb8).step HT.out hlt (r_mono hr8 (by have := HS.out.b.size; have := HS.out.l.lt; omega)) (fun b e1 e2 => by
              have h7 := (World.ownsRow.lt hr8 b e1).1
              have h8 := (World.ownsRow.lt HS.out.c gC rfl).2
              simp only [Option.some.injEq] at e2
              omega))
            clear nr n0 n1 q8 q9 hr8 hb8 x2 HS
            go_wp2_with fail
            go_roundw
            case rel => exact ⟨j + 1, by go_num, by omega, HF.out⟩
            case measure => simp [intOf]; omega
          · obtain rfl : j = n := by omega
            have HF := Lib.hid hs
            clear hs
            go_wp2_with fail
            go_returns
            have h9 := HF.out.g
            have h8 := HF.out.c
            rw [Nat.sub_self, List.replicate_zero, List.append_nil] at h9 h8
            refine (⟨some ⟨gR, 0, none⟩, j, some ⟨gC, 0, none⟩, j, ?_, ?_, ?_, HF.out.b⟩ : FreshO w (List.replicate j (rng1 lr), List.replicate j noV) _ wr)
            · simp only [List.length_replicate]
              rfl
            · simp only [List.length_replicate]
              exact h9.mono (Nat.le_succ _)
            · simp only [List.length_replicate]
              exact r_mono h8 (Nat.le_succ _)
    · obtain rfl : ([], []) = R := by rw [← hR]; exact (freshR_no (by rw [← Bool.not_eq_true, mayFr_iff]; exact fun h => hk h.1)).symm
      have hcs : decide (k < 1) = true ∨ (decide (k < 1) = false ∧ decide (64 < k) = true) := by
        simp only [decide_eq_true_eq, decide_eq_false_iff_not]
        omega
      have NC2 := Lib.hid NC
      clear NC hR hk hr
      rcases hcs with c1 | ⟨c1, c2⟩
      all_goals
        go_enter Tryd.func13, Tryd.ntmps13
        go_upto_region 1 with (fail)
        generalize w.alloc (.cells (lmc lf lm lr) 25) = W0 at *
        have x2 := g1.cell 2
        simp at x2
        go_upto_region 2 with (first
          | (go_at_call 28; (with_reducible refine (NC2.out _).mono ?_); rintro _ u ⟨_, rfl, ⟨A9, c9, rfl, hro⟩, hbu⟩; have hn := Held.new u 46 rz0)
          | (guard_target = wpList _ _ _ (Oper.mk _ (Op.store 46 (.tmp 6) _) _ _ _ none :: _) _ _; refine wpList_store_row rfl 46 _ _ rfl u.heap.size (rgc A9 1 c9 0 0 lr) rfl rfl _ _ hn (by kernel_rfl) rfl (by simp [Value.oneCell']) ?_))
        have hbV : Below u.heap.size u ((u.alloc (.cells rz0 46)).setRow u.heap.size (rgc A9 1 c9 0 0 lr)) := below_setRow ((Below.refl _ _).alloc (Nat.le_refl _) _) (Nat.le_refl _) _
        have hb2 := Below.step (Below.step hb0 hbu) hbV
        clear hro hn hbu hbV x2 g1 hb0
        generalize World.setRow _ u.heap.size _ = W1 at *
        go_wp2_with fail
        go_returns
        exact ⟨none, 0, none, 0, rfl, OwnGx.nil _ _ _, Own2.nil _ _ _, hb2⟩
  · rw [if_neg hr] at NC
    obtain rfl : ([], []) = R := by rw [← hR]; exact (freshR_no (by rw [← Bool.not_eq_true, mayFr_iff]; exact fun h => hr h.2)).symm
    have NC2 := Lib.hid NC
    clear NC hR hr
    go_enter Tryd.func13, Tryd.ntmps13
    go_upto_region 1 with (fail)
    generalize w.alloc (.cells (lmc lf lm lr) 25) = W0 at *
    have x2 := g1.cell 2
    simp at x2
    go_upto_region 2 with (first
      | (go_at_call 28; (with_reducible refine (NC2.out _).mono ?_); rintro _ u ⟨_, rfl, ⟨A9, c9, rfl, hro⟩, hbu⟩; have hn := Held.new u 46 rz0)
      | (guard_target = wpList _ _ _ (Oper.mk _ (Op.store 46 (.tmp 6) _) _ _ _ none :: _) _ _; refine wpList_store_row rfl 46 _ _ rfl u.heap.size (rgc A9 0 c9 0 0 0) rfl rfl _ _ hn (by kernel_rfl) rfl (by simp [Value.oneCell']) ?_))
    have hbV : Below u.heap.size u ((u.alloc (.cells rz0 46)).setRow u.heap.size (rgc A9 0 c9 0 0 0)) := below_setRow ((Below.refl _ _).alloc (Nat.le_refl _) _) (Nat.le_refl _) _
    have hb2 := Below.step (Below.step hb0 hbu) hbV
    clear hro hn hbu hbV x2 g1 hb0
    generalize World.setRow _ u.heap.size _ = W1 at *
    go_wp2_with fail
    go_returns
    exact ⟨none, 0, none, 0, rfl, OwnGx.nil _ _ _, Own2.nil _ _ _, hb2⟩
end Go.Proofs.YtjibkgildfjjoaaDoor

