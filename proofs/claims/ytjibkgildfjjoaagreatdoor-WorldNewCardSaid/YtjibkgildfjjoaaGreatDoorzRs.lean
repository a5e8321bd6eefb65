/- Results that lie in cells. -/
import Derived.Test.YtjibkgildfjjoaaGreatDoorzRw
import Derived.Laws.IdiomCopy
import Derived.Deep.MidRow
import Derived.Deep.RegionHeld3
import Derived.OpenShut
import Derived.Deep.SlicePairs
import Derived.Lib.SmallJoins
import Derived.Laws.Rows
import Derived.Lib.SliceRun
import Derived.Test.YtjibkgildfjjoaaGreatDoorzQt
import Derived.BigQuiet
import Derived.Laws.CopyRow
namespace Go.Proofs.YtjibkgildfjjoaaGreatDoor
set_option linter.unusedVariables false
set_option linter.unusedSimpArgs false
open Go.RowKit Go.ChangeShapes Go.WideShapes Go.ChangeAt Go.Sort

theorem results_c0 {P : Program} {fn : Func} {p : Tmp} {ty1 : TypeId} (h : fn.results = #[.cell p ty1]) (tmps : Array Value) (w : World) {a1 : Addr} {v1 : Value} (hp : tmps.getD p undef = .pointer (some a1)) (l1 : (loadVar ty1 a1).run P w = .ok v1 w) : (results fn tmps).run P w = .ok v1 w := by
  have hp' : tmps[p]?.getD undef = .pointer (some a1) := by simpa using hp
  simp [results, h, hp', asAddr, l1]
theorem results_ct0 {P : Program} {fn : Func} {p q : Tmp} {ty1 : TypeId} (h : fn.results = #[.cell p ty1, .tmp q]) (tmps : Array Value) (w : World) {a1 : Addr} {v1 v2 : Value} (hp : tmps.getD p undef = .pointer (some a1)) (hq : tmps.getD q undef = v2)
    (l1 : (loadVar ty1 a1).run P w = .ok v1 w) : (results fn tmps).run P w = .ok (.tuple #[v1, v2]) w := by
  have hp' : tmps[p]?.getD undef = .pointer (some a1) := by simpa using hp
  have hq' : tmps[q]?.getD undef = v2 := by simpa using hq
  simp [results, h, hp', hq', asAddr, l1]
theorem results_cct {P : Program} {fn : Func} {p q t : Tmp} {ty1 ty2 : TypeId} (h : fn.results = #[.cell p ty1, .cell q ty2, .tmp t]) (tmps : Array Value) (w : World) {a1 a2 : Addr} {v1 v2 v3 : Value} (hp : tmps.getD p undef = .pointer (some a1)) (hq : tmps.getD q undef = .pointer (some a2)) (ht : tmps.getD t undef = v3)
    (l1 : (loadVar ty1 a1).run P w = .ok v1 w) (l2 : (loadVar ty2 a2).run P w = .ok v2 w) : (results fn tmps).run P w = .ok (.tuple #[v1, v2, v3]) w := by
  have hp' : tmps[p]?.getD undef = .pointer (some a1) := by simpa using hp
  have hq' : tmps[q]?.getD undef = .pointer (some a2) := by simpa using hq
  have ht' : tmps[t]?.getD undef = v3 := by simpa using ht
  simp [results, h, hp', hq', ht', asAddr, l1, l2]
theorem load_ref {w : World} {g : Nat} {cs : Array Value} (h : Held w g 36 cs) (hs : cs.size = 2) : (loadVar 36 ⟨g, 0, none⟩).run Tryz.prog w = .ok (.agg cs) w :=
  run_loadVar_row (P := Tryz.prog) _ g 36 36 _ (0, 0) _ h Tryz.underlying36 rfl (by rw [hs]; kernel_rfl)
end Go.Proofs.YtjibkgildfjjoaaGreatDoor

/- Layer 11: the document's Same, New, Pop, Steal. -/
namespace Go.Proofs.YtjibkgildfjjoaaGreatDoor
set_option linter.unusedVariables false
set_option linter.unusedSimpArgs false
open Go.RowKit Go.ChangeShapes Go.WideShapes Go.ChangeAt Go.Sort

abbrev rgc (A : Option Addr) (n c : Nat) (h m t : Int) : Array Value := #[.slice A n c, .int .i64 h, .int .i64 m, .int .i64 t]
set_option maxHeartbeats 2000000 in
set_option maxRecDepth 100000 in
theorem rsamer_any {A A2 : Option Addr} {r q : Rng} {B : Nat} (c c2 : Nat) (w : World) (h1 : PAt w B A r.buf) (h2 : PAt w B A2 q.buf) (hB : B ≤ w.heap.size) (l1 : r.buf.length ≤ 100000) (l2 : q.buf.length ≤ 100000) :
    Calls Tryz.prog 13 #[rgv A r.buf.length c r.head r.many r.most, rgv A2 q.buf.length c2 q.head q.many q.most] w
      fun e w' => e = .returned (.bool (decide (r.buf = q.buf) && (r.head == q.head) && (r.many == q.many) && (r.most == q.most))) ∧ Below w.heap.size w w' := by
  have hb0 := below2 w (.cells (rgc A r.buf.length c r.head r.many r.most) 54) (.cells (rgc A2 q.buf.length c2 q.head q.many q.most) 54)
  have g2 := (Held.new w 54 (rgc A r.buf.length c r.head r.many r.most)).alloc (.cells (rgc A2 q.buf.length c2 q.head q.many q.most) 54)
  have g3 := Held.new1 w (.cells (rgc A r.buf.length c r.head r.many r.most) 54) 54 (rgc A2 q.buf.length c2 q.head q.many q.most)
  have CR := rrefs_any c c2 _ (h1.below hb0 hB) (h2.below hb0 hB) l1 l2
  obtain ⟨b1, h1', m1, t1⟩ := r
  obtain ⟨b2, h2', m2, t2⟩ := q
  simp only at *
  generalize decide (b1 = b2) = X at *
  generalize b1.length = n1 at *
  generalize b2.length = n2 at *
  clear h1 h2 hB l1 l2
  go_enter Tryz.func13, Tryz.ntmps13
  go_upto_region 1 with (fail)
  generalize (w.alloc (.cells (rgc A n1 c h1' m1 t1) 54)).alloc (.cells (rgc A2 n2 c2 h2' m2 t2) 54) = W0 at *
  have x0 := g2.cell 0
  have y0 := g3.cell 0
  simp at x0 y0
  cases X
  · go_wp2_with (go_at_call 12; (with_reducible refine CR.mono ?_); rintro _ u ⟨rfl, hb⟩)
    go_ret
    exact ⟨rfl, Below.step hb0 hb⟩
  · cases e1 : (h1' == h2')
    · go_wp2_with (go_at_call 12; (with_reducible refine CR.mono ?_); rintro _ u ⟨rfl, hb⟩; have k2 := g2.below hb; have k3 := g3.below hb; have x1 := k2.cell 1; have y1 := k3.cell 1; simp at x1 y1)
      go_ret
      exact ⟨ret_bool (by rw [e1]; simp), Below.step hb0 hb⟩
    · cases e2 : (m1 == m2)
      · go_wp2_with (go_at_call 12; (with_reducible refine CR.mono ?_); rintro _ u ⟨rfl, hb⟩; have k2 := g2.below hb; have k3 := g3.below hb; have x1 := k2.cell 1; have y1 := k3.cell 1; have x2 := k2.cell 2; have y2 := k3.cell 2; simp at x1 y1 x2 y2)
        go_ret
        exact ⟨ret_bool (by rw [e1, e2]; simp), Below.step hb0 hb⟩
      · go_wp2_with (go_at_call 12; (with_reducible refine CR.mono ?_); rintro _ u ⟨rfl, hb⟩; have k2 := g2.below hb; have k3 := g3.below hb; have x1 := k2.cell 1; have y1 := k3.cell 1; have x2 := k2.cell 2; have y2 := k3.cell 2; have x3 := k2.cell 3; have y3 := k3.cell 3; simp at x1 y1 x2 y2 x3 y3)
        go_ret
        exact ⟨ret_bool (by rw [e1, e2]; simp), Below.step hb0 hb⟩
end Go.Proofs.YtjibkgildfjjoaaGreatDoor

/- Layer 11: the document's Steal, Pop. -/
namespace Go.Proofs.YtjibkgildfjjoaaGreatDoor
set_option linter.unusedVariables false
set_option linter.unusedSimpArgs false
open Go.RowKit Go.ChangeShapes Go.WideShapes Go.ChangeAt Go.Sort

theorem load_ring {w : World} {g : Nat} {cs : Array Value} (h : Held w g 54 cs) (hs : cs.size = 4) : (loadVar 54 ⟨g, 0, none⟩).run Tryz.prog w = .ok (.agg cs) w :=
  run_loadVar_row (P := Tryz.prog) _ g 54 54 _ (0, 0) _ h Tryz.underlying54 rfl (by rw [hs]; kernel_rfl)
end Go.Proofs.YtjibkgildfjjoaaGreatDoor

/- Layer 11: the document's Pop. -/
namespace Go.Proofs.YtjibkgildfjjoaaGreatDoor
set_option linter.unusedVariables false
set_option linter.unusedSimpArgs false
open Go.RowKit Go.ChangeShapes Go.WideShapes Go.ChangeAt Go.Sort

end Go.Proofs.YtjibkgildfjjoaaGreatDoor

/- Layer 11: the document's New: refs that are made. -/
namespace Go.Proofs.YtjibkgildfjjoaaGreatDoor
set_option linter.unusedVariables false
set_option linter.unusedSimpArgs false
open Go.RowKit Go.ChangeShapes Go.WideShapes Go.ChangeAt Go.Sort

def zeroR (n : Nat) : Array Value := (flatP (List.replicate n (0, 0))).toArray
theorem flatP_rep : ∀ n, flatP (List.replicate n (0, 0)) = List.replicate (n * 2) (.int .i64 0)
  | 0 => rfl
  | n + 1 => by
    rw [List.replicate_succ, show (n + 1) * 2 = n * 2 + 1 + 1 by omega, List.replicate_succ, List.replicate_succ, ← flatP_rep n]
    rfl
theorem madeR (n : Nat) : madeCells #[Value.int .i64 0, .int .i64 0] (n * 2) = zeroR n := by
  unfold zeroR
  rw [flatP_rep]
  apply Array.ext'
  apply List.ext_getElem?
  intro j
  simp only [madeCells]
  by_cases hj : j < n * 2
  · have hm : j % 2 = 0 ∨ j % 2 = 1 := by omega
    rcases hm with hm | hm <;> simp [hj, hm]
  · simp [hj]
theorem make_rs {n : Nat} (hn : n ≤ 2000) (w : World) : (Instr.makeSlice 34 (.int .i64 (n : Int)) (.int .i64 (n : Int))).run Tryz.prog w = .ok (.slice (some ⟨w.heap.size, 0, none⟩) n n) (w.alloc (.cells (zeroR n) 36)) := by
  obtain ⟨q, hi, hz0, hz1, hz2⟩ := info_parts infoR
  have hr := run_make (P := Tryz.prog) w 34 36 q _ Tryz.underlying34 hi hz0 .i64 .i64 n n (by omega) (Int.le_refl _) (by rw [hz2]; omega) (by omega)
  simp only [Int.toNat_natCast, hz1] at hr
  rw [hr, ← madeR]
  rfl
theorem zeroR_own {w : World} {B g n : Nat} (h : Held w g 36 (zeroR n)) (hB : B ≤ g) (hn : n ≤ 1000000) : OwnR w B (.slice (some ⟨g, 0, none⟩) n n) (List.replicate n (0, 0)) := by
  have := own2_held (l := List.replicate n ((0, 0) : P2)) h hB (by rw [List.length_replicate]; exact hn)
  rwa [List.length_replicate] at this
abbrev rz0 : Array Value := #[.slice none 0 0, .int .i64 0, .int .i64 0, .int .i64 0]
/-- A ring of the call's own, and more. -/
def RingO (w : World) (B : Nat) (v : Value) (r : Rng) : Prop := ∃ A c, v = rgv A r.buf.length c r.head r.many r.most ∧ OwnR w B (.slice A r.buf.length c) r.buf
def RingQ (w : World) (R : Rng) (x : Value) (e : Ending) (w' : World) : Prop := ∃ v, e = .returned (.tuple #[v, x]) ∧ RingO w' w.heap.size v R ∧ Below w.heap.size w w'
set_option maxHeartbeats 2000000 in
set_option maxRecDepth 100000 in
theorem rnewr_any (room most : Int) (w : World) : Calls Tryz.prog 37 #[.int .i64 room, .int .i64 most] w (RingQ w (newR room most).1 (.bool (newR room most).2)) := by
  have g4 := Held.new w 54 rz0
  have hb0 : Below w.heap.size w (w.alloc (.cells rz0 54)) := (Below.refl _ _).alloc (Nat.le_refl _) _
  by_cases h : 1 ≤ most ∧ most ≤ 1024 ∧ 1 ≤ room ∧ room ≤ most
  · have e : newR room most = (⟨List.replicate room.toNat (0, 0), 0, 0, most⟩, true) := if_pos h
    rw [e]
    obtain ⟨h1, h2, h3, h4⟩ := h
    obtain ⟨n, rfl⟩ : ∃ n : Nat, room = n := ⟨room.toNat, by omega⟩
    have c1 : decide (most < 1) = false := decide_eq_false (by omega)
    have c2 : decide (1024 < most) = false := decide_eq_false (by omega)
    have c3 : decide ((n : Int) < 1) = false := decide_eq_false (by omega)
    have c4 : decide (most < (n : Int)) = false := decide_eq_false (by omega)
    have HN := Lib.hid (show n ≤ 1024 by omega)
    have MK := fun W => make_rs (n := n) (by omega) W
    clear h1 h2 h3 h4 e
    go_enter Tryz.func37, Tryz.ntmps37
    go_upto_region 1 with (fail)
    generalize w.alloc (.cells rz0 54) = W0 at *
    have k4 := g4.alloc (.cells (zeroR n) 36)
    have hne := g4.lt
    go_wp2_with (guard_target = wpList _ _ _ (Oper.mk _ (Op.store 54 (.tmp 4) _) _ _ _ none :: _) _ _; refine wpList_store_row rfl 54 _ _ rfl w.heap.size (rgc (some ⟨W0.heap.size, 0, none⟩) n n 0 0 most) rfl rfl _ _ k4 (by kernel_rfl) rfl (by simp [Value.oneCell']) ?_)
    have ho : OwnR ((W0.alloc (.cells (zeroR n) 36)).setRow w.heap.size (rgc (some ⟨W0.heap.size, 0, none⟩) n n 0 0 most)) w.heap.size (.slice (some ⟨W0.heap.size, 0, none⟩) n n) (List.replicate n (0, 0)) :=
      zeroR_own (held_row (Held.new W0 36 (zeroR n)) (by omega) _) (by omega) (by have := HN.out; omega)
    refine bodyPost_ret (results_ct0 rfl _ _ rfl rfl (load_ring (held_rowSelf k4 (rgc (some ⟨W0.heap.size, 0, none⟩) n n 0 0 most)) rfl)) rfl ⟨_, rfl, ⟨some ⟨W0.heap.size, 0, none⟩, n, ?_, ?_⟩, below_setRow (hb0.alloc hb0.size _) (Nat.le_refl _) _⟩
    · simp only [Int.toNat_natCast, List.length_replicate]
    · simp only [Int.toNat_natCast, List.length_replicate]; exact ho
  · have e : newR room most = (⟨[], 0, 0, 0⟩, false) := if_neg h
    rw [e]
    have hcs : decide (most < 1) = true ∨ (decide (most < 1) = false ∧ decide (1024 < most) = true) ∨ (decide (most < 1) = false ∧ decide (1024 < most) = false ∧ decide (room < 1) = true) ∨ (decide (most < 1) = false ∧ decide (1024 < most) = false ∧ decide (room < 1) = false ∧ decide (most < room) = true) := by
      simp only [decide_eq_true_eq, decide_eq_false_iff_not]
      omega
    clear h e
    rcases hcs with c1 | ⟨c1, c2⟩ | ⟨c1, c2, c3⟩ | ⟨c1, c2, c3, c4⟩
    all_goals
      go_enter Tryz.func37, Tryz.ntmps37
      go_wp2_with (guard_target = wpList _ _ _ (Oper.mk _ (Op.store 54 (.tmp 4) _) _ _ _ none :: _) _ _; refine wpList_store_row rfl 54 _ _ rfl w.heap.size rz0 rfl rfl _ _ g4 (by kernel_rfl) rfl (by simp [Value.oneCell']) ?_)
      exact bodyPost_ret (results_ct0 rfl _ _ rfl rfl (load_ring (held_rowSelf g4 rz0) rfl)) rfl ⟨_, rfl, ⟨none, 0, rfl, Own2.nil _ _ _⟩, below_setRow hb0 (Nat.le_refl _) _⟩
end Go.Proofs.YtjibkgildfjjoaaGreatDoor

/- Layer 11: the document's one: an item more. -/
namespace Go.Proofs.YtjibkgildfjjoaaGreatDoor
set_option linter.unusedVariables false
set_option linter.unusedSimpArgs false
open Go.RowKit Go.ChangeShapes Go.WideShapes Go.ChangeAt Go.Sort

theorem fill_set (L : List P2) (N i : Nat) (hi : i < L.length) (hN : L.length ≤ N) : (L.take i ++ List.replicate (N - i) ((0, 0) : P2)).set i L[i] = L.take (i + 1) ++ List.replicate (N - (i + 1)) (0, 0) := by
  have hl : (L.take i).length = i := by rw [List.length_take]; omega
  rw [List.set_append_right _ _ (by omega), hl, Nat.sub_self, List.take_succ_eq_append_getElem hi, show N - i = (N - (i + 1)) + 1 by omega, List.replicate_succ, List.set_cons_zero, List.append_assoc]
  rfl
/-- On the way: the ring, the ref, the result's cell. -/
structure OneS (w : World) (A : Option Addr) (n c : Nat) (hd m t xa xb : Int) (W : World) : Prop where
  g2 : Held W w.heap.size 54 (rgc A n c hd m t)
  g3 : Held W (w.heap.size + 1) 36 #[.int .i64 xa, .int .i64 xb]
  g4 : Held W (w.heap.size + 1 + 1) 54 rz0
  b : Below w.heap.size w W
  z : w.heap.size + 3 ≤ W.heap.size
theorem OneS.below {w : World} {A : Option Addr} {n c : Nat} {hd m t xa xb : Int} {W W' : World} (h : OneS w A n c hd m t xa xb W) (hb : Below W.heap.size W W') : OneS w A n c hd m t xa xb W' :=
  ⟨h.g2.below hb, h.g3.below hb, h.g4.below hb, Below.step h.b hb, Nat.le_trans h.z hb.size⟩
/-- Refs of the call's own are turned. -/
theorem OneS.turn {w : World} {A : Option Addr} {n c g : Nat} {hd m t xa xb : Int} {W : World} (h : OneS w A n c hd m t xa xb W) (hg : w.heap.size + 3 ≤ g) (i j : Nat) (x y : Value) : OneS w A n c hd m t xa xb ((W.setCell ⟨g, i, none⟩ x).setCell ⟨g, j, none⟩ y) :=
  ⟨(h.g2.far (by omega) _ _).far (by omega) _ _, (h.g3.far (by omega) _ _).far (by omega) _ _, (h.g4.far (by omega) _ _).far (by omega) _ _, (h.b.setCell (p := ⟨g, i, none⟩) (by show w.heap.size ≤ g; omega) _).setCell (p := ⟨g, j, none⟩) (by show w.heap.size ≤ g; omega) _, by simpa [World.setCell] using h.z⟩
end Go.Proofs.YtjibkgildfjjoaaGreatDoor

/- Layer 11: the document's Push. -/
namespace Go.Proofs.YtjibkgildfjjoaaGreatDoor
set_option linter.unusedVariables false
set_option linter.unusedSimpArgs false
open Go.RowKit Go.ChangeShapes Go.WideShapes Go.ChangeAt Go.Sort

/-- A round begins: the ring so far in its block. -/
structure PuS (w : World) (R : Rng) (A9 : Option Addr) (c9 : Nat) (W : World) : Prop where
  g : Held W w.heap.size 54 (rgc A9 R.buf.length c9 R.head R.many R.most)
  g4 : Held W (w.heap.size + 1) 54 rz0
  p : PAt W W.heap.size A9 R.buf
  ne : ∀ b off, A9 = some ⟨b, off, none⟩ → b ≠ w.heap.size ∧ b ≠ w.heap.size + 1
  b : Below w.heap.size w W
theorem PuS.drew {w : World} {R : Rng} {A9 : Option Addr} {c9 : Nat} {W : World} (h : PuS w R A9 c9 W) : PuS w R A9 c9 W.drew := ⟨h.g, h.g4, h.p, h.ne, h.b.drew⟩
theorem PuS.below {w : World} {R : Rng} {A9 : Option Addr} {c9 : Nat} {W W' : World} (h : PuS w R A9 c9 W) (hb : Below W.heap.size W W') : PuS w R A9 c9 W' := ⟨h.g.below hb, h.g4.below hb, (h.p.below hb (Nat.le_refl _)).more hb.size, h.ne, Below.step h.b hb⟩
theorem PuS.start {w : World} {r : Rng} {A : Option Addr} {B c : Nat} (hp : PAt w B A r.buf) (hB : B ≤ w.heap.size) : PuS w r A c ((w.alloc (.cells (rgc A r.buf.length c r.head r.many r.most) 54)).alloc (.cells rz0 54)) ∨ r.buf = [] := by
  by_cases h0 : 0 < r.buf.length
  · left
    have hb := below2 w (.cells (rgc A r.buf.length c r.head r.many r.most) 54) (.cells rz0 54)
    obtain ⟨b, off, e, hlt, hc⟩ := hp h0
    exact ⟨(Held.new w 54 _).alloc _, Held.new1 w _ 54 rz0, (hp.below hb hB).more (Nat.le_trans hB hb.size), fun b' off' e' => by rw [e] at e'; cases e'; omega, hb⟩
  · right
    exact List.eq_nil_of_length_eq_zero (by omega)
end Go.Proofs.YtjibkgildfjjoaaGreatDoor

/- Layer 11: the document's Half. -/
namespace Go.Proofs.YtjibkgildfjjoaaGreatDoor
set_option linter.unusedVariables false
set_option linter.unusedSimpArgs false
open Go.RowKit Go.ChangeShapes Go.WideShapes Go.ChangeAt Go.Sort

/-- On the way: the ring in its block, the result's cell, what was stolen. -/
structure HaS (w : World) (A : Option Addr) (n c : Nat) (R : Rng) (A9 : Option Addr) (c9 : Nat) (K : List P2) (j : Nat) (W : World) : Prop where
  g : Held W w.heap.size 54 (rgc A n c R.head R.many R.most)
  g2 : Held W (w.heap.size + 1) 54 rz0
  o : OwnR W (w.heap.size + 2) (.slice A9 j c9) K
  b : Below w.heap.size w W
theorem HaS.below {w : World} {A : Option Addr} {n c : Nat} {R : Rng} {A9 : Option Addr} {c9 : Nat} {K : List P2} {j : Nat} {W W' : World} (h : HaS w A n c R A9 c9 K j W) (hb : Below W.heap.size W W') : HaS w A n c R A9 c9 K j W' :=
  ⟨h.g.below hb, h.g2.below hb, r_later h.o hb, Below.step h.b hb⟩
end Go.Proofs.YtjibkgildfjjoaaGreatDoor

/- Layer 11: arguments that are rings, lists of refs, two numbers, opened. -/
namespace Go.Proofs.YtjibkgildfjjoaaGreatDoor
set_option linter.unusedVariables false
set_option linter.unusedSimpArgs false
open Go.RowKit Go.ChangeShapes Go.WideShapes Go.ChangeAt Go.Deep Go.Joins

section
variable {H : Type} {enc : TypeId × Value → H} {W : World} {base : Nat} {sp : Nat → Bool} {hd : Bool} {fuel : Nat}
set_option maxRecDepth 100000 in
theorem ci1r : Tryz.prog.cellsOf 3 = 1 := by kernel_rfl
set_option maxRecDepth 100000 in
theorem ciR : Tryz.prog.cellsOf 36 = 2 := by kernel_rfl
set_option maxRecDepth 100000 in
theorem ciRs : Tryz.prog.cellsOf 34 = 1 := by kernel_rfl
set_option maxRecDepth 100000 in
theorem ciG : Tryz.prog.cellsOf 54 = 4 := by kernel_rfl
set_option maxRecDepth 100000 in
theorem open_ir {c : Value} {y : DataW H × List MemPlace} (g : DataW.trod enc Tryz.prog W base sp hd fuel 3 [c] = some y) : ∃ n : Int, c = .int .i64 n := by
  obtain ⟨n0, e0, _, _⟩ := DataW.trod_int Tryz.underlying3 g
  simp at e0
  exact ⟨n0, e0⟩
set_option maxRecDepth 100000 in
theorem open_ref2r {a b : Value} {y : DataW H × List MemPlace} (g : DataW.trod enc Tryz.prog W base sp hd fuel 36 [a, b] = some y) : ∃ n m : Int, a = .int .i64 n ∧ b = .int .i64 m := by
  obtain ⟨y0, y1, k, _, _, g0, g1⟩ := trod_struct2 Tryz.underlying36 g
  simp [ci1r] at g0 g1
  obtain ⟨n, rfl⟩ := open_ir g0
  obtain ⟨m, rfl⟩ := open_ir g1
  exact ⟨n, m, rfl, rfl⟩
set_option maxRecDepth 100000 in
theorem open_refs {cs : List Value} {x : DataW H × List MemPlace} (h : DataW.trod enc Tryz.prog W base sp hd fuel 34 cs = some x) : ∃ A c l, cs = [.slice A l.length c] ∧ PAt W W.heap.size A l ∧ l.length ≤ maxLen ∧ l.length ≤ c := by
  rcases open_slice Tryz.underlying34 h with ⟨rfl, _⟩ | ⟨a, len, cap, m, n, D, Pl, rfl, _, hl, hm, hmm, rfl, hx⟩
  · exact ⟨none, 0, [], rfl, PAt.nil _ _ _, by simp, by simp⟩
  · have hlm : len ≤ m := by rw [hmm]; split <;> omega
    have each : ∀ i, i < len → ∃ q : P2, W.cell? (a.add (i * 2)) = some (.int .i64 q.1) ∧ W.cell? (a.add (i * 2 + 1)) = some (.int .i64 q.2) := by
      intro i hi
      obtain ⟨cs', h1, h2⟩ := hx i (by omega)
      rw [ciR] at h1
      obtain ⟨_, hlen, hcell⟩ := World.cells?_some h1
      match cs', hlen with
      | [v0, v1], _ =>
        obtain ⟨n0, n1, rfl, rfl⟩ := open_ref2r h2
        have c0 := hcell 0 (by omega)
        have c1 := hcell 1 (by omega)
        rw [add_add] at c0 c1
        exact ⟨(n0, n1), by simpa using c0, by simpa using c1⟩
    obtain ⟨q, hq⟩ := choose_lt each
    refine ⟨some a, cap, (List.range len).map q, by simp, fun h0 => ?_, by simp; omega, by simpa using hl⟩
    have hlen : 0 < len := by simpa using h0
    obtain ⟨b, off, spot⟩ := a
    have hspot : spot = none := by simpa [Addr.add] using World.cell?_spot (hq 0 hlen).1
    subst hspot
    refine ⟨b, off, rfl, block_lt_of_cell (a := Addr.add ⟨b, off, none⟩ (0 * 2)) (hq 0 hlen).1, fun j hj => ?_⟩
    have hj' : j < len := by simpa using hj
    obtain ⟨c0, c1⟩ := hq j hj'
    rw [p_add] at c0 c1
    simp only [List.getElem_map, List.getElem_range]
    exact ⟨c0, c1⟩
end
end Go.Proofs.YtjibkgildfjjoaaGreatDoor

/- Layer 11: the code's May, has, place, clone. -/
namespace Go.Proofs.YtjibkgildfjjoaaGreatDoor
set_option linter.unusedVariables false
set_option linter.unusedSimpArgs false
open Go.RowKit Go.ChangeShapes Go.WideShapes Go.ChangeAt Go.Sort

set_option maxHeartbeats 1000000 in
theorem may_r (A : Option Addr) (n c : Nat) (h m t : Int) : Ct Tryz.prog 95 #[rgv A n c h m t] (.bool (mayN n h m t)) := fun w => by
  have hb : Below w.heap.size w (w.alloc (.cells #[.slice A n c, .int .i64 h, .int .i64 m, .int .i64 t] 54)) := (Below.refl _ _).alloc (Nat.le_refl _) _
  have hm : mayN n h m t = mayN n h m t := rfl
  have HM : Hid (mayN n h m t = (decide (1 ≤ t) && decide (t ≤ 1024) && (decide (1 ≤ (n : Int)) && decide ((n : Int) ≤ t)) && (decide (0 ≤ h) && decide (h < n)) && (decide (0 ≤ m) && decide (m ≤ n)))) := Lib.hid rfl
  generalize mayN n h m t = R at *
  clear hm
  go_enter Tryz.func95, Tryz.ntmps95
  go_wp2_with fail
  all_goals
    go_ret
    rw [HM.out]
    refine ⟨ret_bool ?_, hb⟩
    rw [Bool.eq_iff_iff]
    simp
    try omega
theorem has_iff (r : Rng) : (0 < (itemsR r).length) = (mayR r = true ∧ 0 < r.many) := by
  apply propext
  cases h : mayR r with
  | false => unfold itemsR; rw [h]; simp
  | true =>
    have := items_len h
    simp
    constructor
    · intro h1; omega
    · intro h1; omega
set_option maxHeartbeats 1000000 in
theorem has_r (A : Option Addr) (c : Nat) (r : Rng) : Ct Tryz.prog 70 #[rgv A r.buf.length c r.head r.many r.most] (.bool (decide (0 < (itemsR r).length))) := fun w => by
  have hb : Below w.heap.size w (w.alloc (.cells (rgc A r.buf.length c r.head r.many r.most) 54)) := (Below.refl _ _).alloc (Nat.le_refl _) _
  have CM := may_r A r.buf.length c r.head r.many r.most
  have hx := Held.new w 54 (rgc A r.buf.length c r.head r.many r.most)
  have HR : Hid (decide (0 < (itemsR r).length) = (mayR r && decide (0 < r.many))) := Lib.hid (by
    rw [Bool.eq_iff_iff]
    simp only [decide_eq_true_eq, Bool.and_eq_true]
    rw [has_iff])
  generalize decide (0 < (itemsR r).length) = R at *
  obtain ⟨b, h, m, t⟩ := r
  simp only at *
  have hmr : mayR ⟨b, h, m, t⟩ = mayN b.length h m t := rfl
  rw [hmr] at HR
  generalize mayN b.length h m t = M at *
  generalize b.length = n at *
  clear hmr
  go_enter Tryz.func70, Tryz.ntmps70
  go_upto_region 1 with (fail)
  generalize w.alloc (.cells (rgc A n c h m t) 54) = W0 at *
  cases M
  all_goals
    go_wp2_with (first
      | (guard_target = wpList _ _ _ (Oper.mk _ (Op.load 54 (.tmp 1)) _ _ _ none :: _) _ _; refine wpList_load_row rfl 54 _ rfl w.heap.size rfl _ _ _ _ hx Tryz.underlying54 rfl (by kernel_rfl) ?_)
      | (go_at_call 95; (with_reducible refine (CM.go _).mono ?_); rintro _ u ⟨rfl, hbu⟩; have x2 := (hx.below hbu).cell 2; simp at x2))
    go_ret
    rw [HR.out]
    refine ⟨?_, Below.step hb hbu⟩
    simp
/-- The place of what stands so many behind the top. -/
theorem place_mod {h n i : Nat} (hh : h < n) (hi : i ≤ n) : (h + i) % n = idxR h n i := by
  unfold idxR
  split
  · rename_i hc
    rw [Nat.mod_eq_sub_mod hc, Nat.mod_eq_of_lt (by omega)]
  · exact Nat.mod_eq_of_lt (by omega)
set_option maxHeartbeats 1000000 in
theorem place_r {A : Option Addr} {n h i : Nat} (c : Nat) (m t : Int) (hh : h < n) (hi : i ≤ n) (hn : n ≤ 1024) : Ct Tryz.prog 71 #[rgv A n c h m t, .int .i64 i] (.int .i64 (idxR h n i)) := fun w => by
  have hb : Below w.heap.size w (w.alloc (.cells (rgc A n c h m t) 54)) := (Below.refl _ _).alloc (Nat.le_refl _) _
  have h0 : (0 : Int) ≤ h := Int.natCast_nonneg h
  have i0 : (0 : Int) ≤ i := Int.natCast_nonneg i
  have h1 : (h : Int) ≤ 1024 := by omega
  have i1 : (i : Int) ≤ 1024 := by omega
  have n0 : (0 : Int) < n := by omega
  have n1 : (n : Int) ≤ 1024 := by omega
  have hr : Int.tmod ((h : Int) + i) n = (idxR h n i : Nat) := by
    rw [← place_mod hh hi]
    rfl
  have nz : ((n : Int) == 0) = false := by simp; omega
  generalize hI : idxR h n i = I at *
  have hI2 : (I : Int) ≤ 1024 := by
    have : I ≤ 1024 := by
      rw [← hI]; unfold idxR; split <;> omega
    omega
  have I0 : (0 : Int) ≤ I := Int.natCast_nonneg I
  clear hI hh hi hn
  go_enter Tryz.func71, Tryz.ntmps71
  go_wp2_with fail
  go_ret
  exact ⟨rfl, hb⟩
end Go.Proofs.YtjibkgildfjjoaaGreatDoor

/- Layer 11: the code's Items. -/
namespace Go.Proofs.YtjibkgildfjjoaaGreatDoor
set_option linter.unusedVariables false
set_option linter.unusedSimpArgs false
open Go.RowKit Go.ChangeShapes Go.WideShapes Go.ChangeAt Go.Sort

set_option maxHeartbeats 4000000 in
set_option maxRecDepth 100000 in
theorem items_r {A : Option Addr} {r : Rng} {B : Nat} (c : Nat) (w : World) (hp : PAt w B A r.buf) (hB : B ≤ w.heap.size) : Calls Tryz.prog 40 #[rgv A r.buf.length c r.head r.many r.most] w (ListQ w (itemsR r)) := by
  have hb0 : Below w.heap.size w (w.alloc (.cells (rgc A r.buf.length c r.head r.many r.most) 54)) := (Below.refl _ _).alloc (Nat.le_refl _) _
  have hx := Held.new w 54 (rgc A r.buf.length c r.head r.many r.most)
  have CH := has_r A c r
  by_cases h0 : 0 < (itemsR r).length
  · rw [decide_eq_true h0] at CH
    have hmy := ((has_iff r) ▸ h0 : mayR r = true ∧ 0 < r.many).1
    obtain ⟨b, hd, m, t, rfl, h1, h2, h3, h4, h5, h6⟩ := ring_nat hmy
    rw [items_nat hmy] at h0 ⊢
    rw [itemsN_len] at h0
    simp only at hp
    obtain ⟨gb, ob, rfl, hgb, hcb⟩ := hp (by omega)
    have HCB := Lib.hid hcb
    have HGB := Lib.hid (Nat.lt_of_lt_of_le hgb hB)
    have MK := fun W => make_rs (n := m) (by omega) W
    have HBD := Lib.hid (And.intro h2 (And.intro h4 (And.intro h5 h6)))
    have hm0 : (0 : Int) ≤ m := Int.natCast_nonneg m
    have hm1 : (m : Int) ≤ 1024 := by omega
    clear hmy hp hcb h1 h2 h3 h4 h5 h6 hgb hB
    simp only at *
    go_enter Tryz.func40, Tryz.ntmps40
    go_upto_region 1 with (fail)
    generalize w.alloc (.cells (rgc (some ⟨gb, ob, none⟩) b.length c hd m t) 54) = W0 at *
    go_upto_region 3 with (first
      | (guard_target = wpList _ _ _ (Oper.mk _ (Op.load 54 (.tmp 1)) _ _ _ none :: _) _ _; refine wpList_load_row rfl 54 _ rfl w.heap.size rfl _ _ _ _ hx Tryz.underlying54 rfl (by kernel_rfl) ?_)
      | (go_at_call 70; (with_reducible refine (CH.go _).mono ?_); rintro _ u ⟨rfl, hbu⟩))
    have hxu := hx.below hbu
    have hbw := Below.step hb0 hbu
    have x2 := hxu.cell 2
    simp at x2
    clear hx hbu hb0 CH
    go_upto_region 4 with (fail)
    have hbz : Below u.heap.size u (u.alloc (.cells (zeroR m) 36)) := (Below.refl _ _).alloc (Nat.le_refl _) _
    have hgu : w.heap.size + 1 ≤ u.heap.size := hxu.lt
    have hzo : OwnR (u.alloc (.cells (zeroR m) 36)) (w.heap.size + 1) (.slice (some ⟨u.heap.size, 0, none⟩) m m) ((itemsN b hd m).take 0 ++ List.replicate (m - 0) (0, 0)) := by
      have := zeroR_own (Held.new u 36 (zeroR m)) hgu (by omega)
      simpa using this
    have HZ := Lib.hid (And.intro hzo (And.intro (hxu.below hbz) (Below.step hbw hbz)))
    clear hzo hbz hxu hbw x2 MK
    generalize u.alloc (.cells (zeroR m) 36) = W1 at *
    generalize u.heap.size = g at *
    have HGU := Lib.hid hgu
    clear hgu
    go_wp2_with fail
    go_loopw [13] (fun iv wr => ∃ i : Nat, iv = .int .i64 i ∧ i ≤ m ∧ OwnR wr (w.heap.size + 1) (.slice (some ⟨g, 0, none⟩) m m) ((itemsN b hd m).take i ++ List.replicate (m - i) (0, 0)) ∧ Held wr w.heap.size 54 (rgc (some ⟨gb, ob, none⟩) b.length c hd m t) ∧ Below w.heap.size w wr) (fun iv _ => m - (intOf iv).toNat)
    case atStart => exact ⟨0, rfl, Nat.zero_le _, HZ.out.1, HZ.out.2.1, HZ.out.2.2⟩
    case round =>
      obtain ⟨i, rfl, hi, ho, hx, hb⟩ := hrel
      obtain ⟨h2, h4, h5, h6⟩ := HBD.out
      by_cases hlt : i < m
      · have CP := place_r (A := some ⟨gb, ob, none⟩) (n := b.length) (h := hd) (i := i) c m t h5 (by omega) (by omega)
        have hi2 : idxR hd b.length i < b.length := idxN_lt h5 (by omega)
        obtain ⟨y0, y1⟩ := HCB.out _ hi2
        replace y0 := (hb.cell (p := ⟨gb, _, none⟩) HGB.out).trans y0
        replace y1 := (hb.cell (p := ⟨gb, _, none⟩) HGB.out).trans y1
        have hiL : i < (itemsN b hd m).length := by rw [itemsN_len]; exact hlt
        have hfs := fill_set (itemsN b hd m) m i hiL (by rw [itemsN_len]; exact Nat.le_refl _)
        have hgi : (itemsN b hd m)[i] = b[idxR hd b.length i] := by
          have := itemsN_get (b := b) (h := hd) hlt
          rw [List.getElem?_eq_getElem hiL] at this
          rw [Option.some.inj this, List.getD_eq_getElem?_getD, List.getElem?_eq_getElem hi2]
          rfl
        rw [hgi] at hfs
        have hlen : ((itemsN b hd m).take i ++ List.replicate (m - i) ((0, 0) : P2)).length = m := by rw [List.length_append, List.length_take, List.length_replicate, itemsN_len]; omega
        have hlt2 : (i : Int) < m := by omega
        have hi0 : (0 : Int) ≤ i := Int.natCast_nonneg i
        have hiI : (idxR hd b.length i : Int) < b.length := by omega
        have hI0 : (0 : Int) ≤ (idxR hd b.length i : Int) := Int.natCast_nonneg _
        have HFS := Lib.hid hfs
        clear hgi hfs hiL
        generalize b[idxR hd b.length i] = x at *
        generalize idxR hd b.length i = I at *
        obtain ⟨xa, xb⟩ := x
        simp only at y0 y1
        have HO := Lib.hid ho
        have HLN := Lib.hid hlen
        have HLT := Lib.hid (show i < ((itemsN b hd m).take i ++ List.replicate (m - i) ((0, 0) : P2)).length by rw [hlen]; exact hlt)
        have HB := Lib.hid hb
        have x0 := hx.cell 0
        have x1 := hx.cell 1
        have x2 := hx.cell 2
        have x3 := hx.cell 3
        simp at x0 x1 x2 x3
        clear hb ho hlen h2 h4 h5 h6 hi2
        go_upto_region 7 with (fail)
        have g0 := fun d os => cell_regrown x0 d os
        have g1 := fun d os => cell_regrown x1 d os
        have g2 := fun d os => cell_regrown x2 d os
        have g3 := fun d os => cell_regrown x3 d os
        have g4 := fun d os => cell_regrown y0 d os
        have g5 := fun d os => cell_regrown y1 d os
        clear x0 x1 x2 x3 y0 y1
        refine wp_region_below_tail 10 (by kernel_rfl) (by kernel_rfl) ?_
        simp only [List.take_succ_cons, List.take_zero, List.drop_succ_cons, List.drop_zero]
        repeat (first
          | go_big_quiet_step ((go_at_call 71; (with_reducible exact Calls.regrown_of (CP.go _))))
          | quiet_step ((go_at_call 71; (with_reducible exact Calls.regrown_of (CP.go _)))))
        refine wpQuiet_nil ?_
        intro v hv
        have hbu := below_of_regrown hv
        clear hv g0 g1 g2 g3 g4 g5
        have ho' : OwnR v (w.heap.size + 1) _ _ := r_later HO.out hbu
        have hx' := hx.below hbu
        obtain ⟨z0, z1, w0, w1⟩ := own2_cells ho' (k := i) HLT.out
        have hset := ho'.set i (xa, xb) HLT.out
        rw [HFS.out] at hset
        have hb' := Below.step HB.out hbu
        have HGU2 := Lib.hid HGU.out
        generalize ((itemsN b hd m).take i ++ List.replicate (m - i) ((0, 0) : P2))[i] = v0 at *
        go_wp2_with fail
        go_roundw
        case rel => exact ⟨i + 1, by go_num, by omega, hset, (hx'.far (by have := HGU.out; omega) _ _).far (by have := HGU.out; omega) _ _, (hb'.setCell (p := ⟨g, _, none⟩) (by have := HGU.out; show w.heap.size ≤ g; omega) _).setCell (p := ⟨g, _, none⟩) (by have := HGU.out; show w.heap.size ≤ g; omega) _⟩
        case measure => simp [intOf]; omega
      · obtain rfl : i = m := by omega
        have hend : decide ((i : Int) < i) = false := by simp
        have hll : (itemsN b hd i).length = i := itemsN_len _ _ _
        have htk : (itemsN b hd i).take i ++ List.replicate (i - i) ((0, 0) : P2) = itemsN b hd i := by rw [List.take_of_length_le (by omega), Nat.sub_self]; simp
        rw [htk] at ho
        have HO := Lib.hid ho
        have HLL := Lib.hid hll
        clear ho hll htk hlt hi h2 h4 h5 h6
        go_wp2_with fail
        go_ret
        refine ⟨some ⟨g, 0, none⟩, i, ?_, ?_, hb⟩
        · rw [HLL.out]; rfl
        · rw [HLL.out]; exact r_mono HO.out (Nat.le_succ _)
  · rw [decide_eq_false h0] at CH
    have hnil : itemsR r = [] := List.eq_nil_of_length_eq_zero (by omega)
    rw [hnil]
    clear hnil h0 hp
    obtain ⟨b, hd, m, t⟩ := r
    simp only at *
    generalize b.length = n at *
    go_enter Tryz.func40, Tryz.ntmps40
    go_upto_region 1 with (fail)
    generalize w.alloc (.cells (rgc A n c hd m t) 54) = W0 at *
    go_wp2_with (first
      | (guard_target = wpList _ _ _ (Oper.mk _ (Op.load 54 (.tmp 1)) _ _ _ none :: _) _ _; refine wpList_load_row rfl 54 _ rfl w.heap.size rfl _ _ _ _ hx Tryz.underlying54 rfl (by kernel_rfl) ?_)
      | (go_at_call 70; (with_reducible refine (CH.go _).mono ?_); rintro _ u ⟨rfl, hbu⟩))
    go_ret
    exact ⟨none, 0, rfl, Own2.nil _ _ _, Below.step hb0 hbu⟩
end Go.Proofs.YtjibkgildfjjoaaGreatDoor

/- Layer 11: the code's methods of an end: pop, steal. -/
namespace Go.Proofs.YtjibkgildfjjoaaGreatDoor
set_option linter.unusedVariables false
set_option linter.unusedSimpArgs false
open Go.RowKit Go.ChangeShapes Go.WideShapes Go.ChangeAt Go.Sort

end Go.Proofs.YtjibkgildfjjoaaGreatDoor

/- Layer 11: copy of pairs; the code's grow. -/
namespace Go.Proofs.YtjibkgildfjjoaaGreatDoor
set_option linter.unusedVariables false
set_option linter.unusedSimpArgs false
open Go.RowKit Go.ChangeShapes Go.WideShapes Go.ChangeAt Go.Sort

end Go.Proofs.YtjibkgildfjjoaaGreatDoor

/- Layer 11: the code's method push. -/
namespace Go.Proofs.YtjibkgildfjjoaaGreatDoor
set_option linter.unusedVariables false
set_option linter.unusedSimpArgs false
open Go.RowKit Go.ChangeShapes Go.WideShapes Go.ChangeAt Go.Sort

end Go.Proofs.YtjibkgildfjjoaaGreatDoor

/- Layer 11: the code's Push. -/
namespace Go.Proofs.YtjibkgildfjjoaaGreatDoor
set_option linter.unusedVariables false
set_option linter.unusedSimpArgs false
open Go.RowKit Go.ChangeShapes Go.WideShapes Go.ChangeAt Go.Sort

/-- A ring of one's own in a variable's block. -/
structure RgS (w : World) (B g : Nat) (t : TypeId) (r : Rng) (A : Option Addr) (c : Nat) (W : World) : Prop where
  x : Held W g t (rgc A r.buf.length c r.head r.many r.most)
  o : OwnR W B (.slice A r.buf.length c) r.buf
  b : Below w.heap.size w W
  bg : w.heap.size ≤ g
  bo : w.heap.size ≤ B
theorem RgS.below {w : World} {B g : Nat} {t : TypeId} {r : Rng} {A : Option Addr} {c : Nat} {W W' : World} (h : RgS w B g t r A c W) (hb : Below W.heap.size W W') : RgS w B g t r A c W' := ⟨h.x.below hb, r_later h.o hb, Below.step h.b hb, h.bg, h.bo⟩
/-- Another block is turned, of another type than refs. -/
theorem RgS.row {w : World} {B g k : Nat} {t t2 : TypeId} {r : Rng} {A : Option Addr} {c : Nat} {W : World} {cs : Array Value} (h : RgS w B g t r A c W) (hk : Held W k t2 cs) (ht : t2 ≠ 36) (hne : g ≠ k) (hw : w.heap.size ≤ k) (cs' : Array Value) : RgS w B g t r A c (W.setRow k cs') :=
  ⟨held_row h.x hne cs', r_same h.o fun q e => row_far0 W k cs' q (r_apart h.o hk ht q e), below_setRow h.b hw cs', h.bg, h.bo⟩
/-- It is the call's own. -/
theorem RgS.own {w : World} {B g : Nat} {t : TypeId} {r : Rng} {A : Option Addr} {c : Nat} {W : World} (h : RgS w B g t r A c W) : RingO W w.heap.size (.agg (rgc A r.buf.length c r.head r.many r.most)) r := ⟨A, c, rfl, r_mono h.o h.bo⟩
end Go.Proofs.YtjibkgildfjjoaaGreatDoor

/- Layer 11: the code's Pop, Steal. -/
namespace Go.Proofs.YtjibkgildfjjoaaGreatDoor
set_option linter.unusedVariables false
set_option linter.unusedSimpArgs false
open Go.RowKit Go.ChangeShapes Go.WideShapes Go.ChangeAt Go.Sort

/-- A block of refs ahead of one's own is turned. -/
theorem RgS.far {w : World} {B g k : Nat} {t t2 : TypeId} {r : Rng} {A : Option Addr} {c : Nat} {W : World} {cs : Array Value} (h : RgS w (B + 1) g t r A c W) (_hk : Held W k t2 cs) (hkB : k ≤ B) (hne : g ≠ k) (cs' : Array Value) (hw : w.heap.size ≤ k := by omega) : RgS w (B + 1) g t r A c (W.setRow k cs') :=
  ⟨held_row h.x hne cs', r_same h.o fun q e => row_far0 W k cs' q (by have := (h.o.lt q e).1; omega), below_setRow h.b hw cs', h.bg, h.bo⟩
end Go.Proofs.YtjibkgildfjjoaaGreatDoor

/- Layer 11: the code's Half, New. -/
namespace Go.Proofs.YtjibkgildfjjoaaGreatDoor
set_option linter.unusedVariables false
set_option linter.unusedSimpArgs false
open Go.RowKit Go.ChangeShapes Go.WideShapes Go.ChangeAt Go.Sort

set_option maxHeartbeats 2000000 in
set_option maxRecDepth 100000 in
theorem new_r (room most : Int) (w : World) : Calls Tryz.prog 36 #[.int .i64 room, .int .i64 most] w (RingQ w (newR room most).1 (.bool (newR room most).2)) := by
  have g4 := Held.new w 54 rz0
  have hb0 : Below w.heap.size w (w.alloc (.cells rz0 54)) := (Below.refl _ _).alloc (Nat.le_refl _) _
  by_cases h : 1 ≤ most ∧ most ≤ 1024 ∧ 1 ≤ room ∧ room ≤ most
  · have e : newR room most = (⟨List.replicate room.toNat (0, 0), 0, 0, most⟩, true) := if_pos h
    rw [e]
    obtain ⟨h1, h2, h3, h4⟩ := h
    obtain ⟨n, rfl⟩ : ∃ n : Nat, room = n := ⟨room.toNat, by omega⟩
    have c1 : decide (most < 1) = false := decide_eq_false (by omega)
    have c2 : decide (1024 < most) = false := decide_eq_false (by omega)
    have c3 : decide ((n : Int) < 1) = false := decide_eq_false (by omega)
    have c4 : decide (most < (n : Int)) = false := decide_eq_false (by omega)
    have HN := Lib.hid (show n ≤ 1024 by omega)
    have MK := fun W => make_rs (n := n) (by omega) W
    clear h1 h2 h3 h4 e
    go_enter Tryz.func36, Tryz.ntmps36
    go_upto_region 1 with (fail)
    generalize w.alloc (.cells rz0 54) = W0 at *
    have k4 := g4.alloc (.cells (zeroR n) 36)
    have hne := g4.lt
    go_wp2_with (guard_target = wpList _ _ _ (Oper.mk _ (Op.store 54 (.tmp 4) _) _ _ _ none :: _) _ _; refine wpList_store_row rfl 54 _ _ rfl w.heap.size (rgc (some ⟨W0.heap.size, 0, none⟩) n n 0 0 most) rfl rfl _ _ k4 (by kernel_rfl) rfl (by simp [Value.oneCell']) ?_)
    have ho : OwnR ((W0.alloc (.cells (zeroR n) 36)).setRow w.heap.size (rgc (some ⟨W0.heap.size, 0, none⟩) n n 0 0 most)) w.heap.size (.slice (some ⟨W0.heap.size, 0, none⟩) n n) (List.replicate n (0, 0)) :=
      zeroR_own (held_row (Held.new W0 36 (zeroR n)) (by omega) _) (by omega) (by have := HN.out; omega)
    refine bodyPost_ret (results_ct0 rfl _ _ rfl rfl (load_ring (held_rowSelf k4 (rgc (some ⟨W0.heap.size, 0, none⟩) n n 0 0 most)) rfl)) rfl ⟨_, rfl, ⟨some ⟨W0.heap.size, 0, none⟩, n, ?_, ?_⟩, below_setRow (hb0.alloc hb0.size _) (Nat.le_refl _) _⟩
    · simp only [Int.toNat_natCast, List.length_replicate]
    · simp only [Int.toNat_natCast, List.length_replicate]; exact ho
  · have e : newR room most = (⟨[], 0, 0, 0⟩, false) := if_neg h
    rw [e]
    have hcs : decide (most < 1) = true ∨ (decide (most < 1) = false ∧ decide (1024 < most) = true) ∨ (decide (most < 1) = false ∧ decide (1024 < most) = false ∧ decide (room < 1) = true) ∨ (decide (most < 1) = false ∧ decide (1024 < most) = false ∧ decide (room < 1) = false ∧ decide (most < room) = true) := by
      simp only [decide_eq_true_eq, decide_eq_false_iff_not]
      omega
    clear h e
    rcases hcs with c1 | ⟨c1, c2⟩ | ⟨c1, c2, c3⟩ | ⟨c1, c2, c3, c4⟩
    all_goals
      go_enter Tryz.func36, Tryz.ntmps36
      go_wp2_with (guard_target = wpList _ _ _ (Oper.mk _ (Op.store 54 (.tmp 4) _) _ _ _ none :: _) _ _; refine wpList_store_row rfl 54 _ _ rfl w.heap.size rz0 rfl rfl _ _ g4 (by kernel_rfl) rfl (by simp [Value.oneCell']) ?_)
      exact bodyPost_ret (results_ct0 rfl _ _ rfl rfl (load_ring (held_rowSelf g4 rz0) rfl)) rfl ⟨_, rfl, ⟨none, 0, rfl, Own2.nil _ _ _⟩, below_setRow hb0 (Nat.le_refl _) _⟩
end Go.Proofs.YtjibkgildfjjoaaGreatDoor

