/- Layer 11: the code's methods of an end: pop, steal. -/
import Derived.Test.YthmnaclmbglkdaaJb
namespace Go.Proofs.Ythmnaclmbglkdaa
set_option linter.unusedVariables false
set_option linter.unusedSimpArgs false
open Go.RowKit Go.ChangeShapes Go.WideShapes Go.ChangeAt Go.Sort

/-- Where a slice lies, away from a block. -/
def Off (A : Option Addr) (g : Nat) : Prop := ∀ b off, A = some ⟨b, off, none⟩ → b ≠ g
theorem grown_alloc (w : World) (o : Obj) (g : Option Nat) : w.grownBy (w.alloc o) g := grown_of_below ((Below.refl _ _).alloc (Nat.le_refl _) _) g
theorem grown_below {w u v : World} {g : Option Nat} (h : w.grownBy u g) (hb : Below u.heap.size u v) : w.grownBy v g := grown_trans h (grown_of_below hb g)
theorem grown_at {w u : World} {g : Nat} (h : w.grownBy u (some g)) (i : Nat) (x : Value) : w.grownBy (u.setCell ⟨g, i, none⟩ x) (some g) := grown_trans h (grown_set1 u g i x)
set_option maxHeartbeats 2000000 in
set_option maxRecDepth 100000 in
theorem pop_m {A : Option Addr} {b : List P2} {hd m B g : Nat} (c : Nat) (t : Int) (w : World) (hp : PAt w B A b) (hB : B ≤ w.heap.size) (ho : Off A g) (hx : Held w g 49 (rgc A b.length c hd ((m : Int) + 1) t)) (hh : hd < b.length) (hm : m < b.length) (hn : b.length ≤ 1024) :
    Calls Try.prog 31 #[.pointer (some ⟨g, 0, none⟩)] w fun e w' => e = .returned (gv (b.getD (idxN hd b.length m) (0, 0)).1 (b.getD (idxN hd b.length m) (0, 0)).2) ∧ Held w' g 49 (rgc A b.length c hd m t) ∧ w.grownBy w' (some g) := by
  obtain ⟨gb, ob, rfl, hgb, hcb⟩ := hp (by omega)
  have hne : gb ≠ g := ho gb ob rfl
  have hlt := hx.lt
  have hi : idxN hd b.length m < b.length := idxN_lt hh hm
  obtain ⟨y0, y1⟩ := hcb _ hi
  have CP := place_r (A := some ⟨gb, ob, none⟩) (n := b.length) (h := hd) (i := m) c m t hh (by omega) hn
  have hgd : b.getD (idxN hd b.length m) (0, 0) = b[idxN hd b.length m] := by rw [List.getD_eq_getElem?_getD, List.getElem?_eq_getElem hi]; rfl
  rw [hgd]
  have hiI : (idxN hd b.length m : Int) < b.length := by omega
  have hI0 : (0 : Int) ≤ (idxN hd b.length m : Int) := Int.natCast_nonneg _
  clear hgd
  generalize b[idxN hd b.length m] = x at *
  generalize idxN hd b.length m = I at *
  obtain ⟨xa, xb⟩ := x
  simp only at y0 y1
  have hx0 := hx.alloc (.cells #[.int .i64 0, .int .i64 0] 33)
  have hr0 := Held.new w 33 #[.int .i64 0, .int .i64 0]
  have hg0 := grown_alloc w (.cells #[.int .i64 0, .int .i64 0] 33) (some g)
  have far0 : ∀ i v W, gb ≠ g → (World.setCell W ⟨g, i, none⟩ v).heap[gb]? = W.heap[gb]? := fun i v W hne => Below.heap_setCell W ⟨g, i, none⟩ v gb hne
  have hbl : (w.alloc (.cells #[.int .i64 0, .int .i64 0] 33)).heap[gb]? = w.heap[gb]? := ((Below.refl w.heap.size w).alloc (Nat.le_refl _) _).block gb (by omega)
  replace y0 := (World.cell?_of_block (a := ⟨gb, _, none⟩) hbl).trans y0
  replace y1 := (World.cell?_of_block (a := ⟨gb, _, none⟩) hbl).trans y1
  have hm0 : (0 : Int) ≤ m := Int.natCast_nonneg m
  have hm1 : (m : Int) ≤ 1024 := by omega
  have HLT := Lib.hid hlt
  clear hcb hp hx ho hbl hlt hB hgb hi
  go_enter Try.func31, Try.ntmps31
  go_upto_region 1 with (fail)
  generalize w.alloc (.cells #[.int .i64 0, .int .i64 0] 33) = W0 at *
  have x2 := hx0.cell 2
  have z2 := hx0.fz 2
  simp at x2
  go_upto_region 2 with (fail)
  have hx1 := hx0.set_at 2 (.int .i64 m)
  have hr1 := hr0.far (g := w.heap.size) (by have := HLT.out; omega : w.heap.size ≠ g) 2 (.int .i64 m)
  have hg1 := grown_at hg0 2 (.int .i64 m)
  replace y0 := (World.cell?_of_block (a := ⟨gb, _, none⟩) (far0 2 (.int .i64 m) W0 hne)).trans y0
  replace y1 := (World.cell?_of_block (a := ⟨gb, _, none⟩) (far0 2 (.int .i64 m) W0 hne)).trans y1
  clear z2 x2 hx0 hr0 hg0
  generalize W0.setCell ⟨g, 2, none⟩ (.int .i64 m) = W1 at *
  have x0 := hx1.cell 0
  have x1 := hx1.cell 1
  have x2 := hx1.cell 2
  have x3 := hx1.cell 3
  simp at x0 x1 x2 x3
  have g0 := fun d os => cell_regrown x0 d os
  have g1 := fun d os => cell_regrown x1 d os
  have g2 := fun d os => cell_regrown x2 d os
  have g3 := fun d os => cell_regrown x3 d os
  have g4 := fun d os => cell_regrown y0 d os
  have g5 := fun d os => cell_regrown y1 d os
  clear x0 x1 x2 x3 y0 y1
  refine wp_region_below_tail 17 (by kernel_rfl) (by kernel_rfl) ?_
  simp only [List.take_succ_cons, List.take_zero, List.drop_succ_cons, List.drop_zero]
  repeat (first
    | go_big_quiet_step ((go_at_call 33; (with_reducible exact Calls.regrown_of (CP.go _))))
    | quiet_step ((go_at_call 33; (with_reducible exact Calls.regrown_of (CP.go _)))))
  refine wpQuiet_nil ?_
  intro v hv
  have hbu := below_of_regrown hv
  clear hv g0 g1 g2 g3 g4 g5
  have hx2 := hx1.below hbu
  have hr2 := hr1.below hbu
  have hg2 := grown_below hg1 hbu
  have q0 := hr2.cell 0
  have q1 := hr2.cell 1
  have p0 := hr2.fz 0
  have p1 := hr2.fz 1
  simp at q0 q1
  go_wp2_with fail
  have hr3 := (hr2.set_at 0 (.int .i64 xa)).set_at 1 (.int .i64 xb)
  have hx3 := (hx2.far (g := g) (by have := HLT.out; omega : g ≠ w.heap.size) 0 (.int .i64 xa)).far (by have := HLT.out; omega : g ≠ w.heap.size) 1 (.int .i64 xb)
  have hg3 := grown_far (grown_far hg2 (Nat.le_refl _) 0 (.int .i64 xa)) (Nat.le_refl _) 1 (.int .i64 xb)
  exact bodyPost_ret (results_c0 rfl _ _ rfl (load_ref hr3 rfl)) rfl ⟨rfl, hx3, hg3⟩
set_option maxHeartbeats 2000000 in
set_option maxRecDepth 100000 in
theorem steal_m {A : Option Addr} {b : List P2} {hd m B g : Nat} (c : Nat) (t : Int) (w : World) (hp : PAt w B A b) (hB : B ≤ w.heap.size) (ho : Off A g) (hx : Held w g 53 (rgc A b.length c hd ((m : Int) + 1) t)) (hh : hd < b.length) (hm : m ≤ 1024) (hn : b.length ≤ 1024) :
    Calls Try.prog 32 #[.pointer (some ⟨g, 0, none⟩)] w fun e w' => e = .returned (gv (b.getD hd (0, 0)).1 (b.getD hd (0, 0)).2) ∧ Held w' g 53 (rgc A b.length c ((if hd + 1 = b.length then 0 else hd + 1 : Nat) : Int) m t) ∧ w.grownBy w' (some g) := by
  obtain ⟨gb, ob, rfl, hgb, hcb⟩ := hp (by omega)
  have hne : gb ≠ g := ho gb ob rfl
  have hlt := hx.lt
  obtain ⟨y0, y1⟩ := hcb _ hh
  have CP : Ct Try.prog 33 #[rgv (some ⟨gb, ob, none⟩) b.length c hd ((m : Int) + 1) t, .int .i64 1] (.int .i64 (idxN hd b.length 1)) := place_r (A := some ⟨gb, ob, none⟩) (n := b.length) (h := hd) (i := 1) c ((m : Int) + 1) t hh (by omega) hn
  have hid : idxN hd b.length 1 = if hd + 1 = b.length then 0 else hd + 1 := by unfold idxN; split <;> split <;> omega
  have hgd : b.getD hd (0, 0) = b[hd] := by rw [List.getD_eq_getElem?_getD, List.getElem?_eq_getElem hh]; rfl
  rw [hgd, ← hid]
  have hiI : (hd : Int) < b.length := by omega
  have hI0 : (0 : Int) ≤ (hd : Int) := Int.natCast_nonneg _
  clear hgd hid
  generalize b[hd] = x at *
  generalize idxN hd b.length 1 = I at *
  obtain ⟨xa, xb⟩ := x
  simp only at y0 y1
  have hx0 := hx.alloc (.cells #[.int .i64 0, .int .i64 0] 33)
  have hr0 := Held.new w 33 #[.int .i64 0, .int .i64 0]
  have hg0 := grown_alloc w (.cells #[.int .i64 0, .int .i64 0] 33) (some g)
  have hbl : (w.alloc (.cells #[.int .i64 0, .int .i64 0] 33)).heap[gb]? = w.heap[gb]? := ((Below.refl w.heap.size w).alloc (Nat.le_refl _) _).block gb (by omega)
  replace y0 := (World.cell?_of_block (a := ⟨gb, _, none⟩) hbl).trans y0
  replace y1 := (World.cell?_of_block (a := ⟨gb, _, none⟩) hbl).trans y1
  have hm0 : (0 : Int) ≤ m := Int.natCast_nonneg m
  have hm1 : (m : Int) ≤ 1024 := by omega
  have HLT := Lib.hid hlt
  clear hcb hp hx ho hbl hlt hB hgb hh hm
  go_enter Try.func32, Try.ntmps32
  go_upto_region 1 with (fail)
  generalize w.alloc (.cells #[.int .i64 0, .int .i64 0] 33) = W0 at *
  have x0 := hx0.cell 0
  have x1 := hx0.cell 1
  simp at x0 x1
  have l1 := hx0.lt
  have l2 := block_lt_of_cell y0
  have n1 : g ≠ W0.heap.size := by omega
  have n2 : gb ≠ W0.heap.size := by have : gb < W0.heap.size := l2; omega
  go_region
  have hx1 := held_drew (hx0.alloc (.cells #[.int .i64 xa, .int .i64 xb] 33))
  have hr1 := held_drew (hr0.alloc (.cells #[.int .i64 xa, .int .i64 xb] 33))
  have hc1 := held_drew (Held.new W0 33 #[.int .i64 xa, .int .i64 xb])
  have hg1 : w.grownBy (W0.alloc (.cells #[.int .i64 xa, .int .i64 xb] 33)).drew (some g) := grown_trans hg0 (grown_of_below ((Below.refl _ _).alloc (Nat.le_refl _) _).drew _)
  have hrl := hr0.lt
  have HLC := Lib.hid (show w.heap.size < W0.heap.size from hrl)
  have HN1 := Lib.hid n1
  clear x0 x1 y0 y1 hx0 hr0 hg0 l1 l2 n1 n2 hrl
  generalize (W0.alloc (.cells #[.int .i64 xa, .int .i64 xb] 33)).drew = W1 at *
  generalize W0.heap.size = gc at *
  go_upto_region 2 with (fail)
  have x0 := hx1.cell 0
  have x1 := hx1.cell 1
  have x2 := hx1.cell 2
  have x3 := hx1.cell 3
  simp at x0 x1 x2 x3
  go_upto_region 3 with (go_at_call 33; (with_reducible refine (CP.go _).mono ?_); rintro _ u ⟨rfl, hbu⟩; have x1 := (hx1.below hbu).cell 1; have z1 := (hx1.below hbu).fz 1; simp at x1)
  have hx2 := (hx1.below hbu).set_at 1 (.int .i64 I)
  have hr2 := (hr1.below hbu).far (g := w.heap.size) (by have := HLT.out; omega : w.heap.size ≠ g) 1 (.int .i64 I)
  have hc2 := (hc1.below hbu).far (g := gc) (Ne.symm HN1.out) 1 (.int .i64 I)
  have hg2 := grown_at (grown_below hg1 hbu) 1 (.int .i64 I)
  clear x0 x1 x2 x3 z1 hx1 hr1 hc1 hg1 hbu
  generalize u.setCell ⟨g, 1, none⟩ (.int .i64 I) = W2 at *
  have x2 := hx2.cell 2
  have z2 := hx2.fz 2
  simp at x2
  go_upto_region 4 with (fail)
  have hx3 := hx2.set_at 2 (.int .i64 m)
  have hr3 := hr2.far (g := w.heap.size) (by have := HLT.out; omega : w.heap.size ≠ g) 2 (.int .i64 m)
  have hc3 := hc2.far (g := gc) (Ne.symm HN1.out) 2 (.int .i64 m)
  have hg3 := grown_at hg2 2 (.int .i64 m)
  clear x2 z2 hx2 hr2 hc2 hg2
  generalize W2.setCell ⟨g, 2, none⟩ (.int .i64 m) = W3 at *
  have c0 := hc3.cell 0
  have c1 := hc3.cell 1
  have q0 := hr3.cell 0
  have q1 := hr3.cell 1
  have p0 := hr3.fz 0
  have p1 := hr3.fz 1
  simp at c0 c1 q0 q1
  go_wp2_with fail
  have hr4 := (hr3.set_at 0 (.int .i64 xa)).set_at 1 (.int .i64 xb)
  have hx4 := (hx3.far (g := g) (by have := HLT.out; omega : g ≠ w.heap.size) 0 (.int .i64 xa)).far (by have := HLT.out; omega : g ≠ w.heap.size) 1 (.int .i64 xb)
  have hg4 := grown_far (grown_far hg3 (Nat.le_refl _) 0 (.int .i64 xa)) (Nat.le_refl _) 1 (.int .i64 xb)
  exact bodyPost_ret (results_c0 rfl _ _ rfl (load_ref hr4 rfl)) rfl ⟨rfl, hx4, hg4⟩
end Go.Proofs.Ythmnaclmbglkdaa
