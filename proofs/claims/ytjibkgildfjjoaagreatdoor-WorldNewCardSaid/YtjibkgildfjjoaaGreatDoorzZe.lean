/- Layer 13: what of the world must stay for world's calls; programs cloned: slices.Clone of functions, of instructions; world.own. -/
import Derived.Test.YtjibkgildfjjoaaGreatDoorzFm
import Derived.Test.YtjibkgildfjjoaaGreatDoorzPr1
import Derived.Test.YtjibkgildfjjoaaGreatDoorzZc
import Derived.Test.YtjibkgildfjjoaaGreatDoorzOww
import Derived.Test.YtjibkgildfjjoaaGreatDoorzYn
import Derived.Test.YtjibkgildfjjoaaGreatDoorzZr
import Derived.Test.YtjibkgildfjjoaaGreatDoorzRs
import Derived.Deep.RegionHeld3
import Derived.Deep.DeepCutAuto
import Derived.Deep.CutBlock
import Derived.BigQuiet
namespace Go.Proofs.YtjibkgildfjjoaaGreatDoor
set_option linter.unusedVariables false
set_option linter.unusedSimpArgs false
open Go.RowKit Go.ChangeShapes Go.WideShapes Go.ChangeAt Go.Sort

/-- The variable NoRef. -/
def NoR (W : World) : Prop := ∃ ty, Held W 0 ty #[.int .i64 (-1), .int .i64 0]
theorem NoR.below {w w' : World} (h : NoR w) (hb : Below w.heap.size w w') : NoR w' := h.imp fun _ h => h.below hb
/-- What must stay: three listed variables. -/
structure TW (w : World) : Prop where
  tb : TabB w w.heap.size
  nr : NoR w
theorem TW.below {w w' : World} (h : TW w) (hb : Below w.heap.size w w') : TW w' := ⟨(h.tb.below hb (Nat.le_refl _)).more hb.size, h.nr.below hb⟩

/-- A program that is the call's own. -/
def OwnK (w : World) (B : Nat) (v : Value) (p : List Fun) : Prop := ∃ L : List (Fun × Value), L.map (·.1) = p ∧ w.ownsRow B 73 4 v L.length (flatF L) ∧ ∀ x ∈ L, OwnC w B x.2 x.1.code
theorem OwnK.kt {w w' : World} {B : Nat} {v : Value} {p : List Fun} {t : TypeId} (h : OwnK w B v p) (hk : KTy w w' t) (h1 : 73 ≠ t) (h2 : 115 ≠ t) : OwnK w' B v p := by
  obtain ⟨L, e, k1, k2⟩ := h
  exact ⟨L, e, row_kt k1 hk h1, fun x hx => row_kt (k2 x hx) hk h2⟩
theorem OwnK.below {w w' : World} {B : Nat} {v : Value} {p : List Fun} (h : OwnK w B v p) (hb : Below w.heap.size w w') : OwnK w' B v p := by
  obtain ⟨L, e, k1, k2⟩ := h
  exact ⟨L, e, r_later k1 hb, fun x hx => (k2 x hx).below hb⟩
theorem OwnK.mono {w : World} {B C : Nat} {v : Value} {p : List Fun} (h : OwnK w B v p) (hC : C ≤ B) : OwnK w C v p := by
  obtain ⟨L, e, k1, k2⟩ := h
  exact ⟨L, e, row_mono k1 hC, fun x hx => (k2 x hx).mono hC⟩
theorem OwnK.prog {w : World} {B : Nat} {v : Value} {p : List Fun} (h : OwnK w B v p) (h0 : 1 ≤ p.length) : ∃ A c, v = .slice A p.length c ∧ ProgAt w w.heap.size A p := by
  obtain ⟨L, rfl, k1, k2⟩ := h
  have hl : 1 ≤ L.length := by simpa using h0
  obtain ⟨g, cap, rfl, hg1, hg2⟩ := k1.form hl
  exact ⟨_, cap, by rw [List.length_map], prog_of_row k1 fun x hx => (k2 x hx).code⟩
theorem run_eqF (w : World) (a : Option Addr) (n c n' c' : Nat) : (binOp .eql 23 (.slice a n c) (.slice none n' c')).run Tryz.prog w = .ok (.bool a.isNone) w := Lib.run_eql_slice_nil w _ _ a n c n' c' Tryz.underlying23
theorem run_eqI (w : World) (a : Option Addr) (n c n' c' : Nat) : (binOp .eql 71 (.slice a n c) (.slice none n' c')).run Tryz.prog w = .ok (.bool a.isNone) w := Lib.run_eql_slice_nil w _ _ a n c n' c' Tryz.underlying71
theorem OwnC.made (w : World) : OwnC (w.alloc (.cells #[] 115)) w.heap.size (.slice (some ⟨w.heap.size, 0, none⟩) 0 0) [] := World.ownsRow_made w #[] 0 (Nat.le_refl _) (by decide) rfl
set_option maxHeartbeats 1000000 in
/-- Instructions cloned. -/
theorem cloI_w {A : Option Addr} {l : List Ins} {B n : Nat} (c : Nat) (w : World) (hn : l.length = n) (h : CodeAt w B A l) (h1 : 1 ≤ n) (hl : n ≤ 1000) (hB : B ≤ w.heap.size) :
    Calls Tryz.prog 67 #[.slice A n c] w fun e w' => ∃ g cap, e = .returned (.slice (some ⟨g, 0, none⟩) n cap) ∧ OwnC w' w.heap.size (.slice (some ⟨g, 0, none⟩) n cap) l ∧ Below w.heap.size w w' := by
  have q := run_eqI
  obtain ⟨b, off, rfl, hb0, _⟩ := h (by omega)
  have hbe : Below w.heap.size w (w.alloc (.cells #[] 115)) := (Below.refl _ _).alloc (Nat.le_refl _) _
  have HVA := Lib.hid (h.below hbe hB)
  have HN := Lib.hid (show n = l.length ∧ 1 ≤ l.length ∧ l.length ≤ 1000 by omega)
  have HO := Lib.hid (OwnC.made w)
  have HS := Lib.hid (show w.heap.size ≤ (w.alloc (.cells #[] 115)).heap.size by simp)
  have HBE := Lib.hid hbe
  clear h hB hl h1 hbe hb0 hn
  go_enter Tryz.func67, Tryz.ntmps67
  go_wp2_with (at_builtin; refine wpList_append_code rfl _ _ rfl w.heap.size _ [] rfl HO.out (k := l) (c := c) (by rw [← HN.out.1]; rfl) HVA.out HN.out.2.1 (by have := HN.out.2.2; simp; omega) HS.out ?_; intro g6 c6 u6 k1 k2 k3 k4; rw [List.length_nil, Nat.zero_add, ← HN.out.1]; rw [List.length_nil, Nat.zero_add, List.nil_append, ← HN.out.1] at k1; have K1 := Lib.hid k1; have K2 := Lib.hid k2; clear k1 k2 k3 k4)
  go_ret
  exact ⟨g6, c6, rfl, K1.out, HBE.out.trans K2.out⟩
set_option maxHeartbeats 1000000 in
/-- Functions cloned: their codes are the same ones. -/
theorem cloF_w {A : Option Addr} {p : List Fun} {n : Nat} (c : Nat) (w : World) (hn : p.length = n) (h : ProgAt w w.heap.size A p) (h1 : 1 ≤ n) (hl : n ≤ 1000) :
    Calls Tryz.prog 66 #[.slice A n c] w fun e w' => ∃ g cap L, e = .returned (.slice (some ⟨g, 0, none⟩) n cap) ∧ L.map (·.1) = p ∧ OwnQ w' w.heap.size (.slice (some ⟨g, 0, none⟩) n cap) L ∧ Below w.heap.size w w' := by
  have q := run_eqF
  obtain ⟨b, off, rfl, hb0, _⟩ := h (by omega)
  have hbe : Below w.heap.size w (w.alloc (.cells #[] 73)) := (Below.refl _ _).alloc (Nat.le_refl _) _
  have HVA := Lib.hid (h.below hbe (Nat.le_refl _))
  have HN := Lib.hid (show n = p.length ∧ 1 ≤ p.length ∧ p.length ≤ 1000 by omega)
  have HO := Lib.hid (OwnQ.made w)
  have HS := Lib.hid (show w.heap.size ≤ (w.alloc (.cells #[] 73)).heap.size by simp)
  have HBE := Lib.hid hbe
  clear h hl h1 hbe hb0 hn
  go_enter Tryz.func66, Tryz.ntmps66
  go_wp2_with (at_builtin; refine wpList_append_prog 23 Tryz.underlying23 rfl _ _ rfl w.heap.size _ [] rfl HO.out (p := p) (c := c) (by rw [← HN.out.1]; rfl) HVA.out HN.out.2.1 (by have := HN.out.2.2; simp; omega) HS.out ?_; intro v6 u6 L6 k1 k2 k3; rw [List.nil_append] at k2; have K1 := Lib.hid k1; have K2 := Lib.hid k2; have K3 := Lib.hid k3; clear k1 k2 k3)
  go_ret
  have e9 : L6.length = n := by rw [HN.out.1, ← K1.out, List.length_map]
  obtain ⟨k1, k2⟩ := K2.out
  have h1 := HN.out.2.1
  obtain ⟨g, cap, rfl, -, -⟩ := k1.form (by rw [e9, HN.out.1]; exact h1)
  rw [e9]
  refine ⟨g, cap, L6, rfl, K1.out, ⟨?_, k2⟩, HBE.out.trans K3.out⟩
  rw [e9] at k1 ⊢
  exact k1

theorem flatF_set3 : ∀ (l : List (Fun × Value)) (k : Nat) (y : Value) (h : k < l.length), (flatF l).set (k * 4 + 3) y = flatF (l.set k (l[k].1, y))
  | z :: l, 0, y, _ => rfl
  | z :: l, k + 1, y, h => by
    have ih := flatF_set3 l k y (by simpa using h)
    rw [List.set_cons_succ, show (k + 1) * 4 + 3 = k * 4 + 3 + 4 by omega]
    show .int .i64 z.1.ar :: .int .i64 z.1.lo :: .int .i64 z.1.sl :: z.2 :: (flatF l).set (k * 4 + 3) y = .int .i64 z.1.ar :: .int .i64 z.1.lo :: .int .i64 z.1.sl :: z.2 :: flatF (l.set k ((l[k]'(by simpa using h)).1, y))
    rw [ih]
theorem map_set1 {l : List (Fun × Value)} {k : Nat} {y : Value} (h : k < l.length) : (l.set k (l[k].1, y)).map (·.1) = l.map (·.1) := by
  apply List.ext_getElem (by simp)
  intro i h1 h2
  simp only [List.getElem_map, List.getElem_set]
  split
  · subst_vars; rfl
  · rfl
/-- A program of which the first j codes are the call's own, too. -/
structure HalfK (w : World) (B g n cap : Nat) (p : List Fun) (j : Nat) (L : List (Fun × Value)) : Prop where
  e : L.map (·.1) = p
  len : L.length = n
  r : w.ownsRow B 73 4 (.slice (some ⟨g, 0, none⟩) n cap) n (flatF L)
  o : ∀ i (h : i < L.length), i < j → OwnC w B L[i].2 L[i].1.code
  l : ∀ i (h : i < L.length), j ≤ i → ∃ A c, L[i].2 = .slice A L[i].1.code.length c ∧ CodeAt w B A L[i].1.code
theorem HalfK.below {w w' : World} {B g n cap : Nat} {p : List Fun} {j : Nat} {L : List (Fun × Value)} (h : HalfK w B g n cap p j L) (hB : B ≤ w.heap.size) (hb : Below w.heap.size w w') : HalfK w' B g n cap p j L :=
  ⟨h.e, h.len, r_later h.r hb, fun i hi hj => (h.o i hi hj).below hb, fun i hi hj => by
    obtain ⟨A, c, e, k⟩ := h.l i hi hj
    exact ⟨A, c, e, k.below hb hB⟩⟩
theorem HalfK.step {w : World} {B g n cap : Nat} {p : List Fun} {j : Nat} {L : List (Fun × Value)} (h : HalfK w B g n cap p j L) (hj : j < L.length) {v : Value} (hv : OwnC w B v L[j].1.code) :
    HalfK (w.setCell ⟨g, j * 4 + 3, none⟩ v) B g n cap p (j + 1) (L.set j (L[j].1, v)) := by
  have hgB : B ≤ g := (h.r.lt g rfl).1
  have hgr : w.grownBy (w.setCell ⟨g, j * 4 + 3, none⟩ v) (some g) := grown_set w g (j * 4 + 3) v
  have hk : KTy w (w.setCell ⟨g, j * 4 + 3, none⟩ v) 73 := kt_own h.r hgr
  have hb : Below B w (w.setCell ⟨g, j * 4 + 3, none⟩ v) := (Below.refl _ _).setCell (p := ⟨g, j * 4 + 3, none⟩) hgB _
  refine ⟨by rw [map_set1 hj]; exact h.e, by rw [List.length_set]; exact h.len, ?_, fun i hi hij => ?_, fun i hi hij => ?_⟩
  · rw [← flatF_set3 L j v hj]
    exact (h.r.stored (j * 4 + 3) v).1
  · rw [List.length_set] at hi
    by_cases e : i = j
    · subst e
      rw [List.getElem_set_self]
      exact row_kt hv hk (by decide)
    · rw [List.getElem_set_ne (fun e2 => e e2.symm)]
      exact row_kt (h.o i hi (by omega)) hk (by decide)
  · rw [List.length_set] at hi
    rw [List.getElem_set_ne (by omega)]
    obtain ⟨A, c, e, k⟩ := h.l i hi (by omega)
    exact ⟨A, c, e, k.below hb (Nat.le_refl _)⟩
theorem HalfK.done {w : World} {B g n cap : Nat} {p : List Fun} {L : List (Fun × Value)} (h : HalfK w B g n cap p n L) : OwnK w B (.slice (some ⟨g, 0, none⟩) n cap) p :=
  ⟨L, h.e, by rw [h.len]; exact h.r, fun x hx => by
    obtain ⟨i, hi, rfl⟩ := List.mem_iff_getElem.1 hx
    exact h.o i hi (by have := h.len; omega)⟩
set_option maxHeartbeats 2000000 in
set_option maxRecDepth 100000 in
/-- A valid program in memory of its own. -/
theorem own_w {A : Option Addr} {p : List Fun} (c : Nat) (w : World) (h : ProgAt w w.heap.size A p) (hm : mayP p = true) :
    Calls Tryz.prog 33 #[.slice A p.length c] w fun e w' => ∃ v, e = .returned v ∧ OwnK w' w.heap.size v p ∧ Below w.heap.size w w' := by
  obtain ⟨m1, m2, m3⟩ := (mayP_iff p).1 hm
  obtain ⟨n, hn⟩ : ∃ n, p.length = n := ⟨_, rfl⟩
  have HC := Lib.hid (cloF_w c w hn h (by omega) (by omega))
  have HN := Lib.hid hn
  rw [hn] at m1 m2 ⊢
  have hM : ∀ f ∈ p, 1 ≤ f.code.length ∧ f.code.length ≤ 200 := fun f hf => by
    have h9 := m3 f hf
    unfold mayF at h9
    simp at h9
    exact h9.1.2
  have HM := Lib.hid hM
  clear h hm m3 hM hn
  go_enter Tryz.func33, Tryz.ntmps33
  go_upto_region 2 with (go_at_call 66; (with_reducible refine HC.out.mono ?_); rintro _ u0 ⟨g, cap, L0, rfl, e0, oq, hb0⟩)
  go_upto_region 3 with (fail)
  have hL0 : L0.length = n := by rw [← HN.out, ← e0, List.length_map]
  have h0 : HalfK u0 w.heap.size g n cap p 0 L0 := ⟨e0, hL0, by have := oq.1; rw [hL0] at this; exact this, fun i hi hj => absurd hj (by omega), fun i hi _ => oq.2 _ (List.getElem_mem hi)⟩
  have H0 := Lib.hid (And.intro h0 hb0)
  clear HC e0 oq hb0 hL0 h0
  go_loopw [8] (fun iv W => ∃ (j : Nat) (L : List (Fun × Value)), iv = .int .i64 j ∧ j ≤ n ∧ HalfK W w.heap.size g n cap p j L ∧ Below w.heap.size w W) (fun iv _ => n - (intOf iv).toNat)
  case atStart => exact ⟨0, L0, rfl, by omega, H0.out.1, H0.out.2⟩
  case round =>
    clear H0
    obtain ⟨j, L, rfl, hj, hk, hb⟩ := hrel
    have hj0 : (0 : Int) ≤ j := by omega
    by_cases hlt : j < n
    · have hlt2 : (j : Int) < (n : Int) := by omega
      have hjL : j < L.length := by rw [hk.len]; exact hlt
      obtain ⟨A9, c9, e9, hc9⟩ := hk.l j hjL (Nat.le_refl _)
      have hmem : L[j].1 ∈ p := by rw [← hk.e]; exact List.mem_map.2 ⟨L[j], List.getElem_mem hjL, rfl⟩
      obtain ⟨q1, q2⟩ := HM.out _ hmem
      have y3 := (hk.r.cellAt (j * 4 + 3) (by omega)).trans (flatF_at L j hjL).2.2.2
      rw [e9] at y3
      obtain ⟨m, hm⟩ : ∃ m, L[j].1.code.length = m := ⟨_, rfl⟩
      rw [hm] at y3
      have HCI := Lib.hid (cloI_w c9 wr hm hc9 (by omega) (by omega) hb.size)
      have HK := Lib.hid (And.intro hk hb)
      clear hk hb e9 hc9 hmem q1 q2 hm
      go_upto_region 5 with (fail)
      go_upto_region 6 with (go_at_call 67; (with_reducible refine HCI.out.mono ?_); rintro _ u ⟨g7, c7, rfl, ho7, hb7⟩; have z9 := ((HK.out.1.below HK.out.2.size hb7).r).cellAt (j * 4 + 3) (by omega); rw [(flatF_at L j hjL).2.2.2] at z9; have f9 := ((HK.out.1.below HK.out.2.size hb7).r).frozenAt (j * 4 + 3))
      have hk2 := (HK.out.1.below HK.out.2.size hb7).step hjL (ho7.mono HK.out.2.size)
      have hb2 : Below w.heap.size w (u.setCell ⟨g, j * 4 + 3, none⟩ (.slice (some ⟨g7, 0, none⟩) m c7)) := (Below.step HK.out.2 hb7).setCell (p := ⟨g, j * 4 + 3, none⟩) ((HK.out.1.r).lt g rfl).1 _
      have HF := Lib.hid (And.intro hk2 hb2)
      clear hk2 hb2 z9 f9 HK HCI ho7 hb7 y3
      generalize (u.setCell ⟨g, j * 4 + 3, none⟩ (.slice (some ⟨g7, 0, none⟩) m c7)) = W9 at *
      go_wp2_with fail
      go_roundw
      case rel => exact ⟨j + 1, _, by go_num, by omega, HF.out.1, HF.out.2⟩
      case measure => simp [intOf]; omega
    · obtain rfl : j = n := by omega
      have HF := Lib.hid (And.intro hk.done hb)
      clear hk hb
      go_wp2_with fail
      go_ret
      exact ⟨_, rfl, HF.out.1, HF.out.2⟩
end Go.Proofs.YtjibkgildfjjoaaGreatDoor

/- Layer 13: world.Ready. -/
namespace Go.Proofs.YtjibkgildfjjoaaGreatDoor
set_option linter.unusedVariables false
set_option linter.unusedSimpArgs false
open Go.RowKit Go.ChangeShapes Go.WideShapes Go.ChangeAt Go.Sort

abbrev wcsR (b off : Nat) (a : WA) (W : Wld) : Array Value := #[.slice a.ap W.prog.length a.cp, .int .i64 W.lf, .int .i64 W.lm, .int .i64 W.lr, .slice a.ac W.pen.cells.length a.cc, .slice a.af W.pen.free.length a.cf, .int .i64 W.pen.most, .slice (some ⟨b, off, none⟩) W.rings.length a.cr, .slice a.aq W.cur.length a.cq, .int .i64 W.root.1, .int .i64 W.root.2, .int .i64 W.used, .int .i64 W.st, .int .i64 W.otr, .int .i64 W.ore, .int .i64 W.oim, .int .i64 W.err, .int .i64 W.stl, .int .i64 W.mis]
set_option maxHeartbeats 1000000 in
set_option maxRecDepth 100000 in
theorem ready_none {a : WA} {W : Wld} (w : World) (h0 : W.rings.length = 0) : Calls Tryz.prog 15 #[.agg (wcs a W)] w (ListQ w (readyW W)) := by
  have hb0 : Below w.heap.size w (w.alloc (.cells (wcs a W) 43)) := (Below.refl _ _).alloc (Nat.le_refl _) _
  have g1 := Held.new w 43 (wcs a W)
  have hR : readyW W = [] := by unfold readyW; rw [h0]; rfl
  rw [hR]
  simp only [wcs, h0] at g1 hb0 ⊢
  clear hR h0
  go_enter Tryz.func15, Tryz.ntmps15
  go_upto_region 1 with (fail)
  generalize w.alloc _ = W0 at *
  have x7 := g1.cell 7
  simp at x7
  go_upto_region 3 with (fail)
  go_loopw [9, 3] (fun iv sv wx => iv = .int .i64 0 ∧ sv = .slice none 0 0 ∧ wx = W0) (fun _ _ _ => 0)
  case atStart => exact ⟨rfl, rfl, rfl⟩
  case round =>
    obtain ⟨rfl, rfl, rfl⟩ := hrel
    go_wp2_with fail
    go_ret
    exact ⟨none, 0, rfl, Own2.nil _ _ _, hb0⟩
set_option maxHeartbeats 4000000 in
set_option maxRecDepth 100000 in
theorem ready_some {a : WA} {W : Wld} {B bR oR : Nat} (w : World) (hT : TW w) (h : WAt w B a W) (hr : a.ar = some ⟨bR, oR, none⟩) (hn1 : W.rings.length ≤ 900) (hn2 : W.cur.length ≤ 1000) (hB : B ≤ w.heap.size) :
    Calls Tryz.prog 15 #[.agg (wcs a W)] w (ListQ w (readyW W)) := by
  rw [show wcs a W = wcsR bR oR a W by simp only [wcs, wcsR, hr]]
  have hb0 : Below w.heap.size w (w.alloc (.cells (wcsR bR oR a W) 43)) := (Below.refl _ _).alloc (Nat.le_refl _) _
  have g1 := Held.new w 43 (wcsR bR oR a W)
  have HP := Lib.hid (And.intro h hB)
  have HR := Lib.hid hr
  have HTW := Lib.hid hT
  clear h hB hr hT
  go_enter Tryz.func15, Tryz.ntmps15
  go_upto_region 1 with (fail)
  generalize w.alloc (.cells (wcsR bR oR a W) 43) = W0 at *
  have x7 := g1.cell 7
  simp at x7
  go_upto_region 3 with (fail)
  have HX := Lib.hid (And.intro g1 hb0)
  clear g1 hb0 x7
  go_loopw [9, 3] (fun iv sv wx => ∃ (j k : Nat) (A9 : Option Addr) (c9 : Nat), iv = .int .i64 j ∧ sv = .slice A9 k c9 ∧ j ≤ W.rings.length ∧ (readyN W.rings W.cur j).length = k ∧ OwnR wx w.heap.size (.slice A9 k c9) (readyN W.rings W.cur j) ∧ Below w.heap.size w wx ∧ Held wx w.heap.size 43 (wcsR bR oR a W)) (fun iv _ _ => W.rings.length - (intOf iv).toNat)
  case atStart => exact ⟨0, 0, none, 0, rfl, rfl, by omega, rfl, Own2.nil _ _ _, HX.out.2, HX.out.1⟩
  case round =>
    clear HX
    obtain ⟨j, k, A9, c9, rfl, rfl, hj, hk, ho, hbw, g1⟩ := hrel
    have hj0 : (0 : Int) ≤ j := by omega
    have hnI : (W.rings.length : Int) ≤ 900 := by omega
    have hcI : (W.cur.length : Int) ≤ 1000 := by omega
    by_cases hlt : j < W.rings.length
    · have hlt2 : (j : Int) < (W.rings.length : Int) := by omega
      have hkn : k ≤ 922500 := by
        have := readyN_le W.rings W.cur j
        omega
      have HST := Lib.hid (readyN_at (cs := W.cur) hlt)
      obtain ⟨cj, hcj⟩ : ∃ c, W.cur.getD j noV = c := ⟨_, rfl⟩
      rw [hcj] at HST
      have HJ := Lib.hid (And.intro ho (And.intro hbw hk))
      have hp := HP.out.1.below hbw HP.out.2
      obtain ⟨b, off, e1, hbl0, Ab, cb, hab, k0, k1, k2, k3⟩ := hp.rings.rng hlt
      have e2 := HR.out.symm.trans e1
      simp only [Option.some.injEq, Addr.mk.injEq, and_true] at e2
      obtain ⟨rfl, rfl⟩ := e2
      obtain ⟨rj, hrj⟩ : ∃ r, W.rings[j] = r := ⟨_, rfl⟩
      rw [hrj] at k0 k1 k2 k3 hab HST
      obtain ⟨nb, hnb⟩ : ∃ n, rj.buf.length = n := ⟨_, rfl⟩
      rw [hnb] at k0
      have hn := Held.new wr 54 rz0
      have HHB := Lib.hid hbl0
      clear ho hbw hk hp e1 hbl0
      go_upto_region 5 with (guard_target = wpList _ _ _ (Oper.mk _ (Op.store 54 (.tmp 5) _) _ _ _ none :: _) _ _; refine wpList_store_row rfl 54 _ _ rfl wr.heap.size (rgc Ab nb cb rj.head rj.many rj.most) rfl rfl _ _ hn (by kernel_rfl) rfl (by simp [Value.oneCell']) ?_)
      have hbV : Below wr.heap.size wr ((wr.alloc (.cells rz0 54)).setRow wr.heap.size (rgc Ab nb cb rj.head rj.many rj.most)) := below_setRow ((Below.refl _ _).alloc (Nat.le_refl _) _) (Nat.le_refl _) _
      have kn := held_rowSelf hn (rgc Ab nb cb rj.head rj.many rj.most)
      replace g1 := g1.below hbV
      replace hab := hab.below hbV (Nat.le_trans HP.out.2 HJ.out.2.1.size)
      have HJ2 := Lib.hid (And.intro (r_later HJ.out.1 hbV : OwnR _ w.heap.size (.slice A9 k c9) (readyN W.rings W.cur j)) (And.intro (Below.step HJ.out.2.1 hbV) HJ.out.2.2))
      clear HJ k0 k1 k2 k3 hn hbV
      generalize World.setRow _ wr.heap.size _ = W1 at *
      generalize wr.heap.size = gV at *
      have HAB := Lib.hid hab
      clear hab
      obtain ⟨tn, nr⟩ := (HTW.out.below HJ2.out.2.1).nr
      have hln := nr.lt
      have hlg := g1.lt
      have HKN := Lib.hid kn
      clear kn
      simp only [Act.put]
      go_cut [27] from 14 to 27 (fun v wx => v = .bool (decide (cj ≠ noV)) ∧ Below W1.heap.size W1 wx)
      case first =>
        have hp := HP.out.1.below HJ2.out.2.1 HP.out.2
        have hbs := Nat.le_trans HP.out.2 HJ2.out.2.1.size
        by_cases hc : j < W.cur.length
        · have hc2 : (j : Int) < (W.cur.length : Int) := by omega
          obtain ⟨bq, oq, e1, hbl0, k0, k1⟩ := pat_cell hp.cur hc
          have hbl : bq < W1.heap.size := Nat.lt_of_lt_of_le hbl0 hbs
          rw [show W.cur[j] = cj by rw [← hcj, List.getD_eq_getElem?_getD, List.getElem?_eq_getElem hc, Option.getD_some]] at k0 k1
          have NE9 : ∀ w9, (binOp .neq 36 (gv cj.1 cj.2) (gv (-1) 0)).run Tryz.prog w9 = .ok (.bool (decide (cj ≠ noV))) w9 := fun w9 => neqr_run cj.1 cj.2 (-1) 0 w9
          clear HST HJ2 hp hbl0 hbs
          have hdr := (Below.refl W1.heap.size W1).drew
          have HDR := Lib.hid hdr
          replace g1 := Held.below g1 hdr
          replace nr := Held.below nr hdr
          replace hln : _ < W1.drew.heap.size := hln
          replace hlg : _ < W1.drew.heap.size := hlg
          replace k0 := (hdr.cell (p := ⟨bq, _, none⟩) hbl).trans k0
          replace k1 := (hdr.cell (p := ⟨bq, _, none⟩) hbl).trans k1
          replace hbl : bq < W1.drew.heap.size := hbl
          clear hdr
          refine wp_region_held_drew (S := fun W => Below W1.drew.heap.size W1.drew W) (by kernel_rfl) (Below.refl _ _) (fun hS => ?_)
          generalize W1.drew = Wq at *
          show wpAnyH _ _ _ _ _ 14 #[false, false, false, false, false, false, false, false, false, false, false, false, false, false] _ _
          refine wpAnyH_begin (by kernel_rfl) (fun HNS => ?_)
          refine wpAnyH_takeS HNS (i := 0) (v := .int .i64 j) rfl (by kernel_rfl) (by kernel_rfl) (fun _ _ _ h => h) (Or.inl ⟨by kernel_rfl, fun W hW => ?_⟩) hS ?_
          · go_simp
          simp only [Act.put, List.getElem_toArray, List.getElem_cons_succ, List.getElem_cons_zero, List.setIfInBounds_toArray, List.set_cons_zero, List.set_cons_succ]
          refine wpAnyH_takeS HNS (i := 1) (v := .pointer (some ⟨w.heap.size, 8, none⟩)) rfl (by kernel_rfl) (by kernel_rfl) (fun _ _ _ h => h) (Or.inl ⟨by kernel_rfl, fun W hW => ?_⟩) hS ?_
          · go_simp
          simp only [Act.put, List.getElem_toArray, List.getElem_cons_succ, List.getElem_cons_zero, List.setIfInBounds_toArray, List.set_cons_zero, List.set_cons_succ]
          refine wpAnyH_takeS HNS (i := 2) (v := .slice a.aq W.cur.length a.cq) rfl (by kernel_rfl) (by kernel_rfl) (fun _ _ _ h => h) (Or.inl ⟨by kernel_rfl, fun W hW => ?_⟩) hS ?_
          · (have hz := Held.below g1 hW; have z0 := hz.cell 8; simp at z0; go_simp)
          simp only [Act.put, List.getElem_toArray, List.getElem_cons_succ, List.getElem_cons_zero, List.setIfInBounds_toArray, List.set_cons_zero, List.set_cons_succ]
          refine wpAnyH_takeS HNS (i := 3) (v := .int .i64 (W.cur.length : Nat)) rfl (by kernel_rfl) (by kernel_rfl) (fun _ _ _ h => h) (Or.inl ⟨by kernel_rfl, fun W hW => ?_⟩) hS ?_
          · go_simp
          simp only [Act.put, List.getElem_toArray, List.getElem_cons_succ, List.getElem_cons_zero, List.setIfInBounds_toArray, List.set_cons_zero, List.set_cons_succ]
          refine wpAnyH_takeS HNS (i := 4) (v := .bool true) rfl (by kernel_rfl) (by kernel_rfl) (fun _ _ _ h => h) (Or.inl ⟨by kernel_rfl, fun W hW => ?_⟩) hS ?_
          · go_simp
          simp only [Act.put, List.getElem_toArray, List.getElem_cons_succ, List.getElem_cons_zero, List.setIfInBounds_toArray, List.set_cons_zero, List.set_cons_succ]
          refine wpAnyH_takeS HNS (i := 5) (v := .bool true) rfl (by kernel_rfl) (by kernel_rfl) (fun _ _ _ h => h) (Or.inl ⟨by kernel_rfl, fun W hW => ?_⟩) hS ?_
          · go_simp
          simp only [Act.put, List.getElem_toArray, List.getElem_cons_succ, List.getElem_cons_zero, List.setIfInBounds_toArray, List.set_cons_zero, List.set_cons_succ]
          refine wpAnyH_takeS HNS (i := 6) (v := .pointer (some ⟨w.heap.size, 8, none⟩)) rfl (by kernel_rfl) (by kernel_rfl) (fun _ _ _ h => h) (Or.inl ⟨by kernel_rfl, fun W hW => ?_⟩) hS ?_
          · go_simp
          simp only [Act.put, List.getElem_toArray, List.getElem_cons_succ, List.getElem_cons_zero, List.setIfInBounds_toArray, List.set_cons_zero, List.set_cons_succ]
          refine wpAnyH_takeS HNS (i := 7) (v := .slice (some ⟨bq, oq, none⟩) W.cur.length a.cq) rfl (by kernel_rfl) (by kernel_rfl) (fun _ _ _ h => h) (Or.inl ⟨by kernel_rfl, fun W hW => ?_⟩) hS ?_
          · (have hz := Held.below g1 hW; have z0 := hz.cell 8; simp at z0; rw [e1] at z0; go_simp)
          simp only [Act.put, List.getElem_toArray, List.getElem_cons_succ, List.getElem_cons_zero, List.setIfInBounds_toArray, List.set_cons_zero, List.set_cons_succ]
          refine wpAnyH_takeS HNS (i := 8) (v := .int .i64 j) rfl (by kernel_rfl) (by kernel_rfl) (fun _ _ _ h => h) (Or.inl ⟨by kernel_rfl, fun W hW => ?_⟩) hS ?_
          · go_simp
          simp only [Act.put, List.getElem_toArray, List.getElem_cons_succ, List.getElem_cons_zero, List.setIfInBounds_toArray, List.set_cons_zero, List.set_cons_succ]
          refine wpAnyH_takeS HNS (i := 9) (v := .pointer (some ⟨bq, oq + j * 2, none⟩)) rfl (by kernel_rfl) (by kernel_rfl) (fun _ _ _ h => h) (Or.inl ⟨by kernel_rfl, fun W hW => ?_⟩) hS ?_
          · go_simp
          simp only [Act.put, List.getElem_toArray, List.getElem_cons_succ, List.getElem_cons_zero, List.setIfInBounds_toArray, List.set_cons_zero, List.set_cons_succ]
          refine wpAnyH_takeS HNS (i := 10) (v := .agg #[.int .i64 cj.1, .int .i64 cj.2]) rfl (by kernel_rfl) (by kernel_rfl) (fun _ _ _ h => h) (Or.inl ⟨by kernel_rfl, fun W hW => ?_⟩) hS ?_
          · (have z0 := (hW.cell (p := ⟨bq, _, none⟩) hbl).trans k0; have z1 := (hW.cell (p := ⟨bq, _, none⟩) hbl).trans k1; go_simp)
          simp only [Act.put, List.getElem_toArray, List.getElem_cons_succ, List.getElem_cons_zero, List.setIfInBounds_toArray, List.set_cons_zero, List.set_cons_succ]
          refine wpAnyH_takeS HNS (i := 11) (v := .agg #[.int .i64 (-1), .int .i64 0]) rfl (by kernel_rfl) (by kernel_rfl) (fun _ _ _ h => h) (Or.inl ⟨by kernel_rfl, fun W hW => ?_⟩) hS ?_
          · (have hz := Held.below nr hW; have z0 := hz.cell 0; have z1 := hz.cell 1; simp at z0 z1; go_simp)
          simp only [Act.put, List.getElem_toArray, List.getElem_cons_succ, List.getElem_cons_zero, List.setIfInBounds_toArray, List.set_cons_zero, List.set_cons_succ]
          refine wpAnyH_takeS HNS (i := 12) (v := .bool (decide (cj ≠ noV))) rfl (by kernel_rfl) (by kernel_rfl) (fun _ _ _ h => h) (Or.inl ⟨by kernel_rfl, fun W hW => ?_⟩) hS ?_
          · (have e9 := NE9 W; go_simp; try exact e9)
          simp only [Act.put, List.getElem_toArray, List.getElem_cons_succ, List.getElem_cons_zero, List.setIfInBounds_toArray, List.set_cons_zero, List.set_cons_succ]
          refine wpAnyH_takeS HNS (i := 13) (v := .bool (decide (cj ≠ noV))) rfl (by kernel_rfl) (by kernel_rfl) (fun _ _ _ h => h) (Or.inl ⟨by kernel_rfl, fun W hW => ?_⟩) hS ?_
          · go_simp
          simp only [Act.put, List.getElem_toArray, List.getElem_cons_succ, List.getElem_cons_zero, List.setIfInBounds_toArray, List.set_cons_zero, List.set_cons_succ]
          refine wpAnyH_done (by kernel_rfl) ?_ _
          (repeat (first | go_skip | go_guarded | go_step | go_upon))
          go_meet
          case rel => exact ⟨rfl, Below.step HDR.out hS⟩
        · have hc2 : ¬ (j : Int) < (W.cur.length : Int) := by omega
          have hcn : cj = noV := by rw [← hcj, List.getD_eq_getElem?_getD, List.getElem?_eq_none (by omega), Option.getD_none]
          clear HST HJ2 hp hbs
          have hdr := (Below.refl W1.heap.size W1).drew
          have HDR := Lib.hid hdr
          replace g1 := Held.below g1 hdr
          replace nr := Held.below nr hdr
          replace hln : _ < W1.drew.heap.size := hln
          replace hlg : _ < W1.drew.heap.size := hlg
          clear hdr
          refine wp_region_held_drew (S := fun W => Below W1.drew.heap.size W1.drew W) (by kernel_rfl) (Below.refl _ _) (fun hS => ?_)
          generalize W1.drew = Wq at *
          show wpAnyH _ _ _ _ _ 14 #[false, false, false, false, false, false, false, false, false, false, false, false, false, false] _ _
          refine wpAnyH_begin (by kernel_rfl) (fun HNS => ?_)
          refine wpAnyH_takeS HNS (i := 0) (v := .int .i64 j) rfl (by kernel_rfl) (by kernel_rfl) (fun _ _ _ h => h) (Or.inl ⟨by kernel_rfl, fun W hW => ?_⟩) hS ?_
          · go_simp
          simp only [Act.put, List.getElem_toArray, List.getElem_cons_succ, List.getElem_cons_zero, List.setIfInBounds_toArray, List.set_cons_zero, List.set_cons_succ]
          refine wpAnyH_takeS HNS (i := 1) (v := .pointer (some ⟨w.heap.size, 8, none⟩)) rfl (by kernel_rfl) (by kernel_rfl) (fun _ _ _ h => h) (Or.inl ⟨by kernel_rfl, fun W hW => ?_⟩) hS ?_
          · go_simp
          simp only [Act.put, List.getElem_toArray, List.getElem_cons_succ, List.getElem_cons_zero, List.setIfInBounds_toArray, List.set_cons_zero, List.set_cons_succ]
          refine wpAnyH_takeS HNS (i := 2) (v := .slice a.aq W.cur.length a.cq) rfl (by kernel_rfl) (by kernel_rfl) (fun _ _ _ h => h) (Or.inl ⟨by kernel_rfl, fun W hW => ?_⟩) hS ?_
          · (have hz := Held.below g1 hW; have z0 := hz.cell 8; simp at z0; go_simp)
          simp only [Act.put, List.getElem_toArray, List.getElem_cons_succ, List.getElem_cons_zero, List.setIfInBounds_toArray, List.set_cons_zero, List.set_cons_succ]
          refine wpAnyH_takeS HNS (i := 3) (v := .int .i64 (W.cur.length : Nat)) rfl (by kernel_rfl) (by kernel_rfl) (fun _ _ _ h => h) (Or.inl ⟨by kernel_rfl, fun W hW => ?_⟩) hS ?_
          · go_simp
          simp only [Act.put, List.getElem_toArray, List.getElem_cons_succ, List.getElem_cons_zero, List.setIfInBounds_toArray, List.set_cons_zero, List.set_cons_succ]
          refine wpAnyH_takeS HNS (i := 4) (v := .bool false) rfl (by kernel_rfl) (by kernel_rfl) (fun _ _ _ h => h) (Or.inl ⟨by kernel_rfl, fun W hW => ?_⟩) hS ?_
          · go_simp
          simp only [Act.put, List.getElem_toArray, List.getElem_cons_succ, List.getElem_cons_zero, List.setIfInBounds_toArray, List.set_cons_zero, List.set_cons_succ]
          refine wpAnyH_takeS HNS (i := 5) (v := .bool false) rfl (by kernel_rfl) (by kernel_rfl) (fun _ _ _ h => h) (Or.inl ⟨by kernel_rfl, fun W hW => ?_⟩) hS ?_
          · go_simp
          simp only [Act.put, List.getElem_toArray, List.getElem_cons_succ, List.getElem_cons_zero, List.setIfInBounds_toArray, List.set_cons_zero, List.set_cons_succ]
          refine wpAnyH_takeS HNS (i := 6) (v := undef) rfl (by kernel_rfl) (by kernel_rfl) (fun _ _ _ h => h) (Or.inr ⟨by kernel_rfl, rfl⟩) hS ?_
          simp only [Act.put, List.getElem_toArray, List.getElem_cons_succ, List.getElem_cons_zero, List.setIfInBounds_toArray, List.set_cons_zero, List.set_cons_succ]
          refine wpAnyH_takeS HNS (i := 7) (v := undef) rfl (by kernel_rfl) (by kernel_rfl) (fun _ _ _ h => h) (Or.inr ⟨by kernel_rfl, rfl⟩) hS ?_
          simp only [Act.put, List.getElem_toArray, List.getElem_cons_succ, List.getElem_cons_zero, List.setIfInBounds_toArray, List.set_cons_zero, List.set_cons_succ]
          refine wpAnyH_takeS HNS (i := 8) (v := undef) rfl (by kernel_rfl) (by kernel_rfl) (fun _ _ _ h => h) (Or.inr ⟨by kernel_rfl, rfl⟩) hS ?_
          simp only [Act.put, List.getElem_toArray, List.getElem_cons_succ, List.getElem_cons_zero, List.setIfInBounds_toArray, List.set_cons_zero, List.set_cons_succ]
          refine wpAnyH_takeS HNS (i := 9) (v := undef) rfl (by kernel_rfl) (by kernel_rfl) (fun _ _ _ h => h) (Or.inr ⟨by kernel_rfl, rfl⟩) hS ?_
          simp only [Act.put, List.getElem_toArray, List.getElem_cons_succ, List.getElem_cons_zero, List.setIfInBounds_toArray, List.set_cons_zero, List.set_cons_succ]
          refine wpAnyH_takeS HNS (i := 10) (v := undef) rfl (by kernel_rfl) (by kernel_rfl) (fun _ _ _ h => h) (Or.inr ⟨by kernel_rfl, rfl⟩) hS ?_
          simp only [Act.put, List.getElem_toArray, List.getElem_cons_succ, List.getElem_cons_zero, List.setIfInBounds_toArray, List.set_cons_zero, List.set_cons_succ]
          refine wpAnyH_takeS HNS (i := 11) (v := undef) rfl (by kernel_rfl) (by kernel_rfl) (fun _ _ _ h => h) (Or.inr ⟨by kernel_rfl, rfl⟩) hS ?_
          simp only [Act.put, List.getElem_toArray, List.getElem_cons_succ, List.getElem_cons_zero, List.setIfInBounds_toArray, List.set_cons_zero, List.set_cons_succ]
          refine wpAnyH_takeS HNS (i := 12) (v := undef) rfl (by kernel_rfl) (by kernel_rfl) (fun _ _ _ h => h) (Or.inr ⟨by kernel_rfl, rfl⟩) hS ?_
          simp only [Act.put, List.getElem_toArray, List.getElem_cons_succ, List.getElem_cons_zero, List.setIfInBounds_toArray, List.set_cons_zero, List.set_cons_succ]
          refine wpAnyH_takeS HNS (i := 13) (v := .bool false) rfl (by kernel_rfl) (by kernel_rfl) (fun _ _ _ h => h) (Or.inl ⟨by kernel_rfl, fun W hW => ?_⟩) hS ?_
          · go_simp
          simp only [Act.put, List.getElem_toArray, List.getElem_cons_succ, List.getElem_cons_zero, List.setIfInBounds_toArray, List.set_cons_zero, List.set_cons_succ]
          refine wpAnyH_done (by kernel_rfl) ?_ _
          (repeat (first | go_skip | go_guarded | go_step | go_upon))
          go_meet
          case rel => exact ⟨by rw [hcn]; simp, Below.step HDR.out hS⟩
      case rest =>
        obtain ⟨rfl, hwc⟩ := hcut
        have g1b := g1.below hwc
        obtain ⟨ho0, hbw0, hk0⟩ := HJ2.out
        have hob : OwnR wc w.heap.size (.slice A9 k c9) (readyN W.rings W.cur j) := r_later ho0 hwc
        have hbwb := Below.step hbw0 hwc
        obtain ⟨L, hL⟩ : ∃ L, readyN W.rings W.cur j = L := ⟨_, rfl⟩
        rw [hL] at HST hob hk0
        have HW1 := Lib.hid (And.intro hwc (Nat.le_trans HP.out.2 hbw0.size))
        clear g1 HJ2 ho0 hbw0 hwc hL nr hln hlg
        obtain ⟨IL, hIL⟩ : ∃ l, itemsR rj = l := ⟨_, rfl⟩
        have hIl : IL.length ≤ 1024 := by rw [← hIL]; exact itemsR_le rj
        rw [hIL] at HST
        by_cases hcn : cj = noV
        · subst hcn
          have HST2 : Hid (readyN W.rings W.cur (j + 1) = L ++ IL) := Lib.hid (by rw [HST.out]; rfl)
          have HLK := Lib.hid (show L.length + IL.length ≤ 1000000 by omega)
          have hdn : decide (noV ≠ noV) = false := by simp
          rw [hdn]
          clear hk0 HST hcj hdn
          have IC := Lib.hid (by have h9 := items_r (r := rj) cb wc (HAB.out.below HW1.out.1 HW1.out.2) (Nat.le_trans HP.out.2 hbwb.size); rw [hIL, hnb] at h9; exact h9 : Calls Tryz.prog 40 #[rgv Ab nb cb rj.head rj.many rj.most] wc (ListQ wc IL))
          have HF := Lib.hid (And.intro hob (And.intro hbwb g1b))
          have kn := HKN.out.below HW1.out.1
          clear hob hbwb g1b hrj hIL hnb
          go_wp2_with (first
            | (guard_target = wpList _ _ _ (Oper.mk (some 37) _ _ _ _ none :: _) _ _; refine wpList_load_row rfl 54 _ rfl gV rfl _ _ _ _ kn Tryz.underlying54 rfl (by kernel_rfl) ?_)
            | (go_at_call 40; (with_reducible refine IC.out.mono ?_); rintro _ u ⟨A7, c7, rfl, hi, hbi⟩)
            | (at_builtin; refine wpList_append_rsE rfl _ _ rfl w.heap.size _ L rfl (by have h9 : OwnR u w.heap.size (.slice A9 k c9) L := r_later HF.out.1 hbi; exact h9) (k := IL) (n := IL.length) rfl rfl (own2_at hi) (by have := HLK.out; omega) (Nat.le_trans HF.out.2.1.size hbi.size) ?_; rintro v8 w8 r1 r2 -; obtain ⟨A8, c8, rfl, -⟩ := Own2.lies r1; have R1 := Lib.hid r1; have R2 := Lib.hid r2; clear r1 r2))
          have o9 : OwnR u w.heap.size (.slice A9 k c9) L := r_later HF.out.1 hbi
          have bw9 := (Below.step HF.out.2.1 hbi).trans (below_grow R2.out (fun q e => (World.ownsRow.lt o9 q e).1) (Nat.le_trans HF.out.2.1.size hbi.size))
          have g9 := held_grown (HF.out.2.2.below hbi) R2.out (fun e => r_apart o9 (HF.out.2.2.below hbi) (by decide) _ e rfl)
          have HG := Lib.hid (And.intro bw9 g9)
          clear o9 bw9 g9 HF IC R2 hbi hi kn
          go_roundw
          case rel => exact ⟨j + 1, (L ++ IL).length, A8, c8, by go_num, by rw [List.length_append], by omega, by rw [HST2.out], by rw [HST2.out]; exact R1.out, HG.out.1, HG.out.2⟩
          case measure => simp [intOf]; omega
        · have hc : j < W.cur.length := Nat.lt_of_not_le fun h9 => hcn (by rw [← hcj, List.getD_eq_getElem?_getD, List.getElem?_eq_none h9, Option.getD_none])
          have hc2 : (j : Int) < (W.cur.length : Int) := by omega
          have hp := HP.out.1.below hbwb HP.out.2
          have x8 := g1b.cell 8
          simp at x8
          obtain ⟨bq, offq, e2, hbq0, q0, q1⟩ := pat_cell hp.cur hc
          rw [show W.cur[j] = cj by rw [← hcj, List.getD_eq_getElem?_getD, List.getElem?_eq_getElem hc, Option.getD_some]] at q0 q1
          rw [e2] at x8
          have hdn : decide (cj ≠ noV) = true := decide_eq_true hcn
          rw [hdn]
          have HST2 : Hid (readyN W.rings W.cur (j + 1) = (L ++ [cj]) ++ IL) := Lib.hid (by rw [HST.out, show curL cj = [cj] from if_neg hcn, List.append_assoc])
          have HF := Lib.hid (And.intro hob (And.intro hbwb g1b))
          have HK1 := Lib.hid hk0
          have HBA := Lib.hid ((Below.refl _ _).alloc (Nat.le_refl _) _ : Below wc.heap.size wc (wc.alloc (.cells #[.int .i64 cj.1, .int .i64 cj.2] 36)))
          clear hob hbwb g1b hk0 HST hcj hcn hdn e2 hbq0 hp
          go_upto_region 7 with (at_builtin; (refine wpList_append_rs rfl _ _ rfl w.heap.size _ L rfl (by have h9 : OwnR _ w.heap.size (.slice A9 k c9) L := r_later HF.out.1 HBA.out; exact h9) (k := [cj]) (n := 1) rfl rfl (one2_at cj.1 cj.2) (Nat.le_refl _) (by have := HK1.out; omega) (Nat.le_trans HF.out.2.1.size HBA.out.size) ?_; rintro v6 w6 r1 r2 -; obtain ⟨A6, c6, rfl, -⟩ := Own2.lies r1; have R1 := Lib.hid r1; have R2 := Lib.hid r2; clear r1 r2))
          have o9 : OwnR _ w.heap.size (.slice A9 k c9) L := r_later HF.out.1 HBA.out
          have b19 := below_grow R2.out (fun q e => (World.ownsRow.lt o9 q e).1) (Nat.le_trans HF.out.2.1.size HBA.out.size)
          have bw6 := (Below.step HF.out.2.1 HBA.out).trans b19
          have g6 := held_grown (HF.out.2.2.below HBA.out) R2.out (fun e => r_apart o9 (HF.out.2.2.below HBA.out) (by decide) _ e rfl)
          have kn6 := held_grown ((HKN.out.below HW1.out.1).below HBA.out) R2.out (fun e => r_apart o9 ((HKN.out.below HW1.out.1).below HBA.out) (by decide) _ e rfl)
          have ab6 := ((HAB.out.below HW1.out.1 HW1.out.2).below HBA.out (Nat.le_trans HP.out.2 HF.out.2.1.size)).below b19 HP.out.2
          have o6 : OwnR w6 w.heap.size (.slice A6 (L.length + 1) c6) (L ++ [cj]) := by
            have h9 := R1.out
            rw [List.length_append] at h9
            exact h9
          obtain ⟨k6, hk6⟩ : ∃ n, L.length + 1 = n := ⟨_, rfl⟩
          obtain ⟨L6, hL6⟩ : ∃ l, L ++ [cj] = l := ⟨_, rfl⟩
          simp only [hk6] at o6 ⊢
          have HLK : Hid (L6.length + IL.length ≤ 1000000) := Lib.hid (by rw [← hL6, List.length_append]; have := HK1.out; simp; omega)
          rw [hL6] at o6 HST2
          clear o9 b19 HF HBA R1 R2 HK1 hL6 hk6 x8 q0 q1 HKN HAB
          have HKN := Lib.hid kn6
          have HAB := Lib.hid ab6
          clear kn6 ab6
          have IC := Lib.hid (by have h9 := items_r (r := rj) cb w6 (HAB.out.below (Below.refl w6.heap.size w6) (Nat.le_trans HP.out.2 bw6.size)) (Nat.le_trans HP.out.2 bw6.size); rw [hIL, hnb] at h9; exact h9 : Calls Tryz.prog 40 #[rgv Ab nb cb rj.head rj.many rj.most] w6 (ListQ w6 IL))
          have HF := Lib.hid (And.intro o6 (And.intro bw6 g6))
          have kn := HKN.out.below (Below.refl w6.heap.size w6)
          clear o6 bw6 g6 hrj hIL hnb
          go_wp2_with (first
            | (guard_target = wpList _ _ _ (Oper.mk (some 37) _ _ _ _ none :: _) _ _; refine wpList_load_row rfl 54 _ rfl gV rfl _ _ _ _ kn Tryz.underlying54 rfl (by kernel_rfl) ?_)
            | (go_at_call 40; (with_reducible refine IC.out.mono ?_); rintro _ u ⟨A7, c7, rfl, hi, hbi⟩)
            | (at_builtin; refine wpList_append_rsE rfl _ _ rfl w.heap.size _ L6 rfl (by have h9 : OwnR u w.heap.size (.slice A6 k6 c6) L6 := r_later HF.out.1 hbi; exact h9) (k := IL) (n := IL.length) rfl rfl (own2_at hi) (by have := HLK.out; omega) (Nat.le_trans HF.out.2.1.size hbi.size) ?_; rintro v8 w8 r1 r2 -; obtain ⟨A8, c8, rfl, -⟩ := Own2.lies r1; have R1 := Lib.hid r1; have R2 := Lib.hid r2; clear r1 r2))
          have o9 : OwnR u w.heap.size (.slice A6 k6 c6) L6 := r_later HF.out.1 hbi
          have bw9 := (Below.step HF.out.2.1 hbi).trans (below_grow R2.out (fun q e => (World.ownsRow.lt o9 q e).1) (Nat.le_trans HF.out.2.1.size hbi.size))
          have g9 := held_grown (HF.out.2.2.below hbi) R2.out (fun e => r_apart o9 (HF.out.2.2.below hbi) (by decide) _ e rfl)
          have HG := Lib.hid (And.intro bw9 g9)
          clear o9 bw9 g9 HF IC R2 hbi hi kn
          go_roundw
          case rel => exact ⟨j + 1, (L6 ++ IL).length, A8, c8, by go_num, by rw [List.length_append], by omega, by rw [HST2.out], by rw [HST2.out]; exact R1.out, HG.out.1, HG.out.2⟩
          case measure => simp [intOf]; omega
    · obtain rfl : j = W.rings.length := by omega
      have HF := Lib.hid (And.intro ho (And.intro hbw hk))
      clear ho hbw hk g1
      go_wp2_with fail
      go_ret
      obtain ⟨ho, hbw, hk⟩ := HF.out
      refine ⟨A9, c9, ?_, ?_, hbw⟩
      · unfold readyW; rw [hk]; rfl
      · unfold readyW; rw [hk]; exact ho
theorem ready_w {a : WA} {W : Wld} {B : Nat} (w : World) (hT : TW w) (h : WAt w B a W) (hn1 : W.rings.length ≤ 900) (hn2 : W.cur.length ≤ 1000) (hB : B ≤ w.heap.size) :
    Calls Tryz.prog 15 #[.agg (wcs a W)] w (ListQ w (readyW W)) := by
  by_cases h0 : W.rings.length = 0
  · exact ready_none w h0
  · obtain ⟨b, off, xs, e, _⟩ := h.rings (by omega)
    exact ready_some w hT h e hn1 hn2 hB
end Go.Proofs.YtjibkgildfjjoaaGreatDoor

