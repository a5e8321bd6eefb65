/- Layer 12: pens of a call's own, turned; the document's copy. -/
import Derived.Test.YtkpjlobpaippdaaYr
namespace Go.Proofs.Ytkpjlobpaippdaa
set_option linter.unusedVariables false
set_option linter.unusedSimpArgs false
open Go.RowKit Go.ChangeShapes Go.WideShapes Go.ChangeAt Go.Sort

/-- A pen whose lists are one's own, and whose frames are as F has it. -/
structure RowZ (F : Value → Frm → Prop) (w : World) (D : Nat) (A : Option Addr) (c : Nat) (A2 : Option Addr) (c2 : Nat) (p : Zp) : Prop where
  cells : ∃ xs, w.ownsRow D 62 18 (.slice A p.cells.length c) p.cells.length xs ∧ CelsOf (fun _ => F) xs p.cells
  free : OwnI w D (.slice A2 p.free.length c2) p.free
theorem OwnZ.row {w : World} {D c c2 : Nat} {A A2 : Option Addr} {p : Zp} (h : OwnZ w D A c A2 c2 p) : RowZ (OwnF w D) w D A c A2 c2 p := ⟨h.cells, h.free⟩
theorem RowZ.own {w : World} {D c c2 : Nat} {A A2 : Option Addr} {p : Zp} (h : RowZ (OwnF w D) w D A c A2 c2 p) : OwnZ w D A c A2 c2 p := ⟨h.cells, h.free⟩
theorem RowZ.at {w : World} {D B c c2 : Nat} {A A2 : Option Addr} {p : Zp} (h : RowZ (FrmAt w B) w D A c A2 c2 p) (hB : B ≤ w.heap.size) : PAtZ w w.heap.size A A2 p := by
  obtain ⟨xs, h1, h2⟩ := h.cells
  obtain ⟨A', c', e, k⟩ := row_lies h1
  simp only [Value.slice.injEq] at e
  obtain ⟨rfl, _, rfl⟩ := e
  refine ⟨fun h0 => ?_, h.free.at⟩
  obtain ⟨b, e2, _, hlt, hr⟩ := k h0
  exact ⟨b, 0, xs, e2, hlt, hr, h2.mono fun _ _ _ k => k.more hB⟩
theorem RowZ.kt {F F' : Value → Frm → Prop} {w w' : World} {D c c2 : Nat} {A A2 : Option Addr} {p : Zp} {t : TypeId} (h : RowZ F w D A c A2 c2 p) (hk : KTy w w' t) (h1 : 62 ≠ t) (h2 : 3 ≠ t) (hF : ∀ v f, F v f → F' v f) : RowZ F' w' D A c A2 c2 p := by
  obtain ⟨xs, k1, k2⟩ := h.cells
  exact ⟨⟨xs, row_kt k1 hk h1, k2.mono fun _ => hF⟩, row_kt h.free hk h2⟩
theorem RowZ.below {F F' : Value → Frm → Prop} {w w' : World} {D c c2 : Nat} {A A2 : Option Addr} {p : Zp} (h : RowZ F w D A c A2 c2 p) (hb : Below w.heap.size w w') (hF : ∀ v f, F v f → F' v f) : RowZ F' w' D A c A2 c2 p := by
  obtain ⟨xs, k1, k2⟩ := h.cells
  exact ⟨⟨xs, r_later k1 hb, k2.mono fun _ => hF⟩, r_later h.free hb⟩
/-- A cell is stored. -/
theorem RowZ.setc {F F' : Value → Frm → Prop} {w : World} {D c c2 g : Nat} {A2 : Option Addr} {p : Zp} (h : RowZ F w D (some ⟨g, 0, none⟩) c A2 c2 p) {j : Nat} (hj : j < p.cells.length) {x : Cel} {cs : Array Value} (h1 : cs.size = 16) (h2 : cs.all (·.oneCell') = true) (h3 : F' (.agg cs) x.frm)
    (hF : ∀ v f, F v f → F' v f) : RowZ F' (w.setCells g (j * 18) (celv x cs)) D (some ⟨g, 0, none⟩) c A2 c2 ⟨p.cells.set j x, p.free, p.most⟩ := by
  obtain ⟨xs, k1, k2⟩ := h.cells
  refine ⟨⟨setL xs (j * 18) (celv x cs), ?_, celsOf_set k2 hj h1 h2 h3 fun _ _ _ _ k => hF _ _ k⟩, row_kt h.free (kt_setCells k1 _ _) tyCI⟩
  simp only [List.length_set]
  exact row_setCells _ _ k1
theorem RowZ.there {F : Value → Frm → Prop} {w : World} {D c c2 g : Nat} {A2 : Option Addr} {p : Zp} (h : RowZ F w D (some ⟨g, 0, none⟩) c A2 c2 p) {j : Nat} (hj : j < p.cells.length) : w.there g (j * 18) 18 := by
  obtain ⟨xs, k1, k2⟩ := h.cells
  exact row_there k1 (by omega)
theorem RowZ.kts {F : Value → Frm → Prop} {w : World} {D c c2 g : Nat} {A2 : Option Addr} {p : Zp} (h : RowZ F w D (some ⟨g, 0, none⟩) c A2 c2 p) (o : Nat) (vs : List Value) : KTy w (w.setCells g o vs) 62 := by
  obtain ⟨xs, k1, k2⟩ := h.cells
  exact kt_setCells k1 _ _
theorem RowZ.ge {F : Value → Frm → Prop} {w : World} {D c c2 g : Nat} {A2 : Option Addr} {p : Zp} (h : RowZ F w D (some ⟨g, 0, none⟩) c A2 c2 p) : D ≤ g ∧ g < w.heap.size := by
  obtain ⟨xs, k1, k2⟩ := h.cells
  exact k1.lt g rfl
/-- Where there is a cell. -/
theorem RowZ.form {F : Value → Frm → Prop} {w : World} {D c c2 : Nat} {A A2 : Option Addr} {p : Zp} (h : RowZ F w D A c A2 c2 p) {j : Nat} (hj : j < p.cells.length) : ∃ g, A = some ⟨g, 0, none⟩ ∧ w.cell? ⟨g, j * 18, none⟩ = some (.int .i64 p.cells[j].gen) := by
  obtain ⟨xs, k1, k2⟩ := h.cells
  obtain ⟨g, c', e⟩ := r_form k1 (by omega)
  simp only [Value.slice.injEq] at e
  obtain ⟨rfl, _, _⟩ := e
  obtain ⟨cs, s1, s2, s3, s4⟩ := k2.2 j hj
  have hl := k1.1
  refine ⟨g, rfl, ?_⟩
  rw [k1.cellAt (j * 18) (by omega)]
  exact s4 0 (by omega)
/-- One int in a block of its own. -/
theorem one1_at {t : TypeId} {w : World} (x : Int) : IAt (w.alloc (.cells #[.int .i64 x] t)) (w.alloc (.cells #[.int .i64 x] t)).heap.size (some ⟨w.heap.size, 0, none⟩) [x] := fun _ => by
  have h := Held.new w t #[.int .i64 x]
  refine ⟨_, _, rfl, h.lt, fun j hj => ?_⟩
  obtain rfl : j = 0 := by simpa using hj
  exact h.cell 0
theorem lie_form {w : World} {D n c : Nat} {A : Option Addr} {l : List Int} (h : OwnI w D (.slice A n c) l) {j : Nat} (hj : j < l.length) : ∃ g, A = some ⟨g, 0, none⟩ ∧ D ≤ g ∧ g < w.heap.size ∧ w.cell? ⟨g, j, none⟩ = some (.int .i64 l[j]) := by
  obtain rfl := h.len
  obtain ⟨g, c', e⟩ := r_form h (by omega)
  simp only [Value.slice.injEq] at e
  obtain ⟨rfl, _, _⟩ := e
  refine ⟨g, rfl, (h.lt g rfl).1, (h.lt g rfl).2, ?_⟩
  unfold OwnI at h
  rw [h.cellAt j (by omega)]
  simp [hj]
theorem below_grown2 {w0 w w' : World} {row : Option Nat} {C : Nat} (h0 : Below C w0 w) (hg : w.grownBy w' row) (h : ∀ q, row = some q → C ≤ q) (hC : C ≤ w.heap.size) : Below C w0 w' := h0.trans (below_grown hg h hC)

set_option maxHeartbeats 4000000 in
set_option maxRecDepth 100000 in
theorem copied_z {A A2 : Option Addr} {p : Zp} {B n m : Nat} (c c2 : Nat) (w : World) (hn : p.cells.length = n) (hm : p.free.length = m) (h : PAtZ w B A A2 p) (hl : LenZ p) (hB : B ≤ w.heap.size) :
    Calls Try.prog 32 #[pv A n c A2 m c2 p.most] w fun e w' => ∃ A' c' A2' c2', e = .returned (pv A' n c' A2' m c2' p.most) ∧ RowZ (FrmAt w' B) w' w.heap.size A' c' A2' c2' p ∧ Below w.heap.size w w' := by
  subst hn hm
  have hb0 := below2 w (.cells (pc A p.cells.length c A2 p.free.length c2 p.most) 25) (.cells pz0 25)
  have g1 := (Held.new w 25 (pc A p.cells.length c A2 p.free.length c2 p.most)).alloc (.cells pz0 25)
  have g2 := Held.new1 w (.cells (pc A p.cells.length c A2 p.free.length c2 p.most) 25) 25 pz0
  have hsz : ((w.alloc (.cells (pc A p.cells.length c A2 p.free.length c2 p.most) 25)).alloc (.cells pz0 25)).heap.size = w.heap.size + 2 := by simp
  have hp := h.below hb0 hB
  have HL := Lib.hid hl
  have HB := Lib.hid hB
  clear h hl hB
  go_enter Try.func32, Try.ntmps32
  go_upto_region 1 with (fail)
  generalize (w.alloc (.cells (pc A p.cells.length c A2 p.free.length c2 p.most) 25)).alloc (.cells pz0 25) = W0 at *
  have hbe : Below W0.heap.size W0 (W0.alloc (.cells #[] 62)) := (Below.refl _ _).alloc (Nat.le_refl _) _
  have k1 := Held.below g1 hbe
  have x0 := k1.cell 0
  simp at x0
  have HPC := Lib.hid hp.cells
  have HSZ := Lib.hid hsz
  have HX := Lib.hid (And.intro g1 (And.intro g2 (And.intro hb0 hp)))
  clear hbe k1 g1 g2 hb0 hp hsz
  go_upto_region 2 with (at_builtin; refine wpList_append_cs0 rfl _ _ rfl W0 rfl rfl rfl rfl HPC.out (by have := HSZ.out; have := HB.out; omega) (by have := HL.out.cells; omega) ?_; intro A6 c6 u6 ys r1 r2 r3; have g9 := Held.below HX.out.1 r3; have z0 := g9.cell 0; have f0 := g9.fz 0; simp at z0)
  obtain ⟨g1, g2, hb0, hp⟩ := HX.out
  have G1 := (Held.below g1 r3).set_at 0 (.slice A6 p.cells.length c6)
  have G2 := (Held.below g2 r3).far (Nat.succ_ne_self _) 0 (.slice A6 p.cells.length c6)
  have hs3 := r3.size
  have hsz := HSZ.out
  have hbq : Below w.heap.size w (u6.setCell ⟨w.heap.size, 0, none⟩ (.slice A6 p.cells.length c6)) := (Below.step hb0 r3).setCell (p := ⟨w.heap.size, 0, none⟩) (Nat.le_refl _) _
  have hkt : KTy u6 (u6.setCell ⟨w.heap.size, 0, none⟩ (.slice A6 p.cells.length c6)) 25 := fun g e cs fr hg hne => Below.heap_setCell u6 ⟨w.heap.size, 0, none⟩ _ g (fun e2 => by
    subst e2
    have hh := Held.below g1 r3
    rw [Held, hg] at hh
    simp at hh
    exact hne hh.2.1)
  have R1 := row_kt r1 hkt (by decide)
  have R2 := r2.mono fun _ v f (k : FrmAt u6 B v f) => k.below (C := w.heap.size) (w' := u6.setCell ⟨w.heap.size, 0, none⟩ (.slice A6 p.cells.length c6)) ((Below.refl _ _).setCell (p := ⟨w.heap.size, 0, none⟩) (Nat.le_refl _) _) HB.out
  have HPF := (hp.free.below r3 (by have := HB.out; omega)).below (C := w.heap.size) (w' := u6.setCell ⟨w.heap.size, 0, none⟩ (.slice A6 p.cells.length c6)) ((Below.refl _ _).setCell (p := ⟨w.heap.size, 0, none⟩) (Nat.le_refl _) _) HB.out
  have hs6 : W0.heap.size ≤ (u6.setCell ⟨w.heap.size, 0, none⟩ (.slice A6 p.cells.length c6)).heap.size := by simpa [World.setCell] using hs3
  clear r1 r2 r3 g9 z0 f0 hkt g1 g2 hb0 hp HX x0 hs3 HPC
  simp only [Array.setIfInBounds, List.size_toArray, List.length_cons] at G1
  generalize u6.setCell ⟨w.heap.size, 0, none⟩ (.slice A6 p.cells.length c6) = W3 at *
  have hbe : Below W3.heap.size W3 (W3.alloc (.cells #[] 3)) := (Below.refl _ _).alloc (Nat.le_refl _) _
  have k1 := Held.below G1 hbe
  have x1 := k1.cell 1
  simp at x1
  have HPI := Lib.hid (HPF.below hbe (by have := HB.out; omega))
  have HX := Lib.hid (And.intro G1 (And.intro G2 (And.intro hbq (And.intro R1 R2))))
  have HS6 := Lib.hid (And.intro hs6 hsz)
  clear hbe k1 G1 G2 hbq R1 R2 HPF hs6 hsz
  go_upto_region 3 with (at_builtin; refine wpList_append_is0 rfl _ _ rfl W3 rfl rfl rfl rfl HPI.out (by have := HL.out.free; omega) ?_; intro A7 c7 u7 r1 r3; have g9 := Held.below HX.out.1 r3; have z1 := g9.cell 1; have f1 := g9.fz 1; simp at z1)
  obtain ⟨G1, G2, hbq, R1, R2⟩ := HX.out
  have K1 := (Held.below G1 r3).set_at 1 (.slice A7 p.free.length c7)
  have K2 := (Held.below G2 r3).far (Nat.succ_ne_self _) 1 (.slice A7 p.free.length c7)
  have hbz : Below w.heap.size w (u7.setCell ⟨w.heap.size, 1, none⟩ (.slice A7 p.free.length c7)) := (Below.step hbq r3).setCell (p := ⟨w.heap.size, 1, none⟩) (Nat.le_refl _) _
  have hkt : KTy u7 (u7.setCell ⟨w.heap.size, 1, none⟩ (.slice A7 p.free.length c7)) 25 := fun g e cs fr hg hne => Below.heap_setCell u7 ⟨w.heap.size, 1, none⟩ _ g (fun e2 => by
    subst e2
    have hh := Held.below G1 r3
    rw [Held, hg] at hh
    simp at hh
    exact hne hh.2.1)
  have Q1 := row_kt (r_later R1 r3) hkt (by decide)
  have hsB : B ≤ W3.heap.size := by have := HS6.out.1; have := HS6.out.2; have := HB.out; omega
  have Q2 := R2.mono fun _ v f (k : FrmAt W3 B v f) => (k.below r3 hsB).below (C := w.heap.size) (w' := u7.setCell ⟨w.heap.size, 1, none⟩ (.slice A7 p.free.length c7)) ((Below.refl _ _).setCell (p := ⟨w.heap.size, 1, none⟩) (Nat.le_refl _) _) HB.out
  have Q3 := row_kt r1 hkt (by decide)
  simp only [Array.setIfInBounds, List.size_toArray, List.length_cons] at K1
  have HS9 := HS6.out
  clear r1 r3 g9 z1 f1 hkt G1 G2 hbq R1 R2 HX HPI x1
  generalize u7.setCell ⟨w.heap.size, 1, none⟩ (.slice A7 p.free.length c7) = W4 at *
  simp at K1
  go_wp2_with (first
    | (guard_target = wpList _ _ _ (Oper.mk _ (Op.load 25 (.tmp 1)) _ _ _ none :: _) _ _; refine wpList_load_row rfl 25 _ rfl w.heap.size rfl _ _ _ _ K1 Try.underlying25 rfl (by kernel_rfl) ?_)
    | (guard_target = wpList _ _ _ (Oper.mk _ (Op.store 25 (.tmp 2) _) _ _ _ none :: _) _ _; refine wpList_store_row rfl 25 _ _ rfl (w.heap.size + 1) (pc A6 p.cells.length c6 A7 p.free.length c7 p.most) rfl rfl _ _ K2 (by kernel_rfl) rfl (by simp [Value.oneCell']) ?_))
  have hk9 : KTy W4 (W4.setRow (w.heap.size + 1) (pc A6 p.cells.length c6 A7 p.free.length c7 p.most)) 25 := fun g e cs fr hg hne => row_far0 _ _ _ g (fun e2 => by
    subst e2
    rw [Held, hg] at K2
    simp at K2
    exact hne K2.2.1)
  refine bodyPost_ret (results_c0 rfl _ _ rfl (load_pen (held_rowSelf K2 (pc A6 p.cells.length c6 A7 p.free.length c7 p.most)) rfl)) rfl ⟨A6, c6, A7, c7, rfl, ⟨⟨_, row_mono (row_kt Q1 hk9 (by decide)) (by omega), Q2.mono fun _ v f k => k.below (C := w.heap.size) (below_setRow (Below.refl _ _) (by omega) _) HB.out⟩, row_mono (row_kt Q3 hk9 (by decide)) (by omega)⟩, below_setRow hbz (by omega) _⟩
end Go.Proofs.Ytkpjlobpaippdaa
