/- Layer 11: the document's Pop. -/
import Derived.Test.YthmnaclmbglkdaaNt
namespace Go.Proofs.Ythmnaclmbglkdaa
set_option linter.unusedVariables false
set_option linter.unusedSimpArgs false
open Go.RowKit Go.ChangeShapes Go.WideShapes Go.ChangeAt Go.Sort

set_option maxHeartbeats 4000000 in
set_option maxRecDepth 100000 in
theorem rpop_any {A : Option Addr} {r : Rng} {B : Nat} (c : Nat) (w : World) (hp : PAt w B A r.buf) (hB : B ≤ w.heap.size) : Calls Try.prog 14 #[rgv A r.buf.length c r.head r.many r.most] w (StealQ w A r.buf.length c (popR r)) := by
  have hb0 := below3 w (.cells (rgc A r.buf.length c r.head r.many r.most) 24) (.cells #[.slice none 0 0, .int .i64 0, .int .i64 0, .int .i64 0] 24) (.cells #[.int .i64 0, .int .i64 0] 33)
  have g1 := ((Held.new w 24 (rgc A r.buf.length c r.head r.many r.most)).alloc (.cells #[.slice none 0 0, .int .i64 0, .int .i64 0, .int .i64 0] 24)).alloc (.cells #[.int .i64 0, .int .i64 0] 33)
  have g2 := (Held.new1 w (.cells (rgc A r.buf.length c r.head r.many r.most) 24) 24 #[.slice none 0 0, .int .i64 0, .int .i64 0, .int .i64 0]).alloc (.cells #[.int .i64 0, .int .i64 0] 33)
  have g3 := Held.new2 w (.cells (rgc A r.buf.length c r.head r.many r.most) 24) (.cells #[.slice none 0 0, .int .i64 0, .int .i64 0, .int .i64 0] 24) 33 #[.int .i64 0, .int .i64 0]
  have CI := ritems_any c _ (hp.below hb0 hB) (Nat.le_trans hB hb0.size)
  have hmay : 0 < (itemsR r).length → mayR r = true := fun h0 => by
    cases hm : mayR r with
    | true => rfl
    | false => unfold itemsR at h0; rw [hm] at h0; simp at h0
  have hno := fun h => pop_no (r := r) h
  have hyes : 0 < (itemsR r).length → ∃ (m t n : Nat), r.many = ((m + 1 : Nat) : Int) ∧ r.most = t ∧ r.buf.length = n ∧ m + 1 ≤ 1024 ∧ (itemsR r).length = m + 1 ∧ popR r = ({ r with many := m }, (itemsR r).getD m (0, 0), true) := fun h0 => by
    have hl := items_len (hmay h0)
    have e : popR r = ({ r with many := r.many - 1 }, (itemsR r).getD ((itemsR r).length - 1) (0, 0), true) := if_neg (by omega)
    rw [e]
    obtain ⟨b, hd, m, t, rfl, h1, h2, h3, h4, h5, h6⟩ := ring_nat (hmay h0)
    simp only at hl
    cases m with
    | zero => omega
    | succ m =>
      have hl2 : (itemsR ⟨b, hd, ((m + 1 : Nat) : Int), t⟩).length = m + 1 := by omega
      refine ⟨m, t, b.length, rfl, rfl, rfl, by omega, hl2, ?_⟩
      simp only
      rw [hl2]
      congr 2
      omega
  obtain ⟨ST, hST⟩ : ∃ S, S = popR r := ⟨_, rfl⟩
  rw [← hST] at hno hyes ⊢
  have HP := Lib.hid hp
  generalize hL : itemsR r = L at *
  obtain ⟨b, hd, m, t⟩ := r
  simp only at *
  generalize hn : b.length = n at *
  clear hp hST hmay hL hn
  have HNO := Lib.hid hno
  have HYES := Lib.hid hyes
  clear hno hyes
  go_enter Try.func14, Try.ntmps14
  go_upto_region 1 with (fail)
  generalize ((w.alloc (.cells (rgc A n c hd m t) 24)).alloc (.cells #[.slice none 0 0, .int .i64 0, .int .i64 0, .int .i64 0] 24)).alloc (.cells #[.int .i64 0, .int .i64 0] 33) = W0 at *
  have x0 := g1.cell 0
  have x1 := g1.cell 1
  have x2 := g1.cell 2
  have x3 := g1.cell 3
  simp at x0 x1 x2 x3
  go_upto_region 2 with (go_at_call 24; (with_reducible refine CI.mono ?_); rintro _ u ⟨A9, c9, rfl, hol, hb⟩)
  have k1 := g1.below hb
  have k2 := g2.below hb
  have k3 := g3.below hb
  have hbu := Below.step hb0 hb
  have HSZ := Lib.hid (show W0.heap.size ≥ w.heap.size + 3 by have := g3.lt; omega)
  clear g1 g2 g3 hb0 CI x0 x1 x2 x3
  by_cases h0 : L.length = 0
  · obtain rfl := HNO.out h0
    have x0 := k1.cell 0
    have x1 := k1.cell 1
    have x2 := k1.cell 2
    have x3 := k1.cell 3
    simp at x0 x1 x2 x3
    rw [h0]
    go_wp2_with (first
      | (guard_target = wpList _ _ _ (Oper.mk _ (Op.store 24 (.tmp 2) _) _ _ _ none :: _) _ _; refine wpList_store_row rfl 24 _ _ rfl (w.heap.size + 1) (rgc A n c hd m t) rfl rfl _ _ k2 (by kernel_rfl) rfl (by simp [Value.oneCell']) ?_; have j3 := held_row k3 (by omega : w.heap.size + 1 + 1 ≠ w.heap.size + 1) (rgc A n c hd m t))
      | (guard_target = wpList _ _ _ (Oper.mk _ (Op.store 33 (.tmp 3) _) _ _ _ none :: _) _ _; refine wpList_store_row rfl 33 _ _ rfl (w.heap.size + 1 + 1) #[.int .i64 0, .int .i64 0] rfl rfl _ _ j3 (by kernel_rfl) rfl (by simp [Value.oneCell']) ?_))
    have j2 := held_row (held_rowSelf k2 (rgc A n c hd m t)) (by omega : w.heap.size + 1 ≠ w.heap.size + 1 + 1) #[.int .i64 0, .int .i64 0]
    exact bodyPost_ret (results_cct rfl _ _ rfl rfl rfl (load_ring j2 rfl) (load_ref (held_rowSelf j3 _) rfl)) rfl ⟨rfl, below_setRow (below_setRow hbu (Nat.le_succ _) _) (Nat.le_succ_of_le (Nat.le_succ _)) _⟩
  · obtain ⟨m', t', n', rfl, rfl, rfl, h7, hk, rfl⟩ := HYES.out (by omega)
    have x0 := k1.cell 0
    have x1 := k1.cell 1
    have x2 := k1.cell 2
    have x3 := k1.cell 3
    have z2 := k1.fz 2
    have xl := k1.lt
    simp at x0 x1 x2 x3
    obtain ⟨go, gc, ego⟩ := r_form hol (by omega)
    simp only [Value.slice.injEq, true_and] at ego
    obtain ⟨rfl, rfl⟩ := ego
    obtain ⟨y0, y1, -, -⟩ := own2_cells hol (k := m') (by omega)
    have hg0 : L.getD m' (0, 0) = L[m'] := by rw [List.getD_eq_getElem?_getD, List.getElem?_eq_getElem (by omega)]; rfl
    have e0 : ((L.length : Int) == 0) = false := by simpa using h0
    have hgo := hol.lt go rfl
    generalize L[m'] = x at *
    obtain ⟨xa, xb⟩ := x
    simp only at y0 y1
    have HG0 := Lib.hid hg0
    have hm0 : (0 : Int) ≤ m' := Int.natCast_nonneg m'
    have hm1 : (m' : Int) ≤ 1024 := by omega
    have hgs : w.heap.size + 3 ≤ go := by have := HSZ.out; omega
    rw [hk] at e0
    rw [hk]
    clear hg0 h0 hol
    go_upto_region 4 with (fail)
    go_cut [] (fun wx => Held wx w.heap.size 24 #[.slice A n c, .int .i64 hd, .int .i64 m', .int .i64 t'] ∧ Held wx (w.heap.size + 1) 24 #[.slice none 0 0, .int .i64 0, .int .i64 0, .int .i64 0] ∧ Held wx (w.heap.size + 1 + 1) 33 #[.int .i64 0, .int .i64 0] ∧ wx.cell? ⟨go, m' * 2, none⟩ = some (.int .i64 xa) ∧ wx.cell? ⟨go, m' * 2 + 1, none⟩ = some (.int .i64 xb) ∧ Below w.heap.size w wx)
    case first =>
      have far : ∀ i v W, go ≠ w.heap.size → (World.setCell W ⟨w.heap.size, i, none⟩ v).heap[go]? = W.heap[go]? := fun i v W hne => Below.heap_setCell W ⟨w.heap.size, i, none⟩ v go hne
      go_wp2_with fail
      go_meet
      case rel => exact ⟨k1.set_at 2 _, k2.far (by omega) _ _, k3.far (by omega) _ _, (World.cell?_of_block (a := ⟨go, _, none⟩) (far _ _ _ (by omega))).trans y0, (World.cell?_of_block (a := ⟨go, _, none⟩) (far _ _ _ (by omega))).trans y1, hbu.setCell (p := ⟨w.heap.size, 2, none⟩) (Nat.le_refl _) _⟩
    case rest =>
    obtain ⟨k1, k2, k3, y0, y1, hbw⟩ := hcut
    generalize wc = W5 at *
    have x0 := k1.cell 0
    have x1 := k1.cell 1
    have x2 := k1.cell 2
    have x3 := k1.cell 3
    have p0 := k2.cell 0
    have p1 := k2.cell 1
    have p2 := k2.cell 2
    have p3 := k2.cell 3
    have q0 := k3.cell 0
    have q1 := k3.cell 1
    have z0 := k2.fz 0
    have z1 := k2.fz 1
    have z2 := k2.fz 2
    have z3 := k2.fz 3
    have v0 := k3.fz 0
    have v1 := k3.fz 1
    simp at x0 x1 x2 x3 p0 p1 p2 p3 q0 q1
    have l2 := k2.lt
    have l3 := k3.lt
    have ne0 : go ≠ w.heap.size := by omega
    have ne1 : go ≠ w.heap.size + 1 := by omega
    have ne2 : go ≠ w.heap.size + 1 + 1 := by omega
    have ne3 : w.heap.size + 1 ≠ go := by omega
    have ne4 : w.heap.size + 1 + 1 ≠ go := by omega
    have hlN : (m' : Int) < ((m' + 1 : Nat) : Int) := by omega
    go_upto_region 5 with (fail)
    go_region
    have j2 := (((((k2.set_at 0 (.slice A n c)).set_at 1 (.int .i64 hd)).set_at 2 (.int .i64 m')).set_at 3 (.int .i64 t')).far (by omega : w.heap.size + 1 ≠ w.heap.size + 1 + 1) 0 (.int .i64 xa)).far (by omega : w.heap.size + 1 ≠ w.heap.size + 1 + 1) 1 (.int .i64 xb)
    have j3 := (((((k3.far (by omega : w.heap.size + 1 + 1 ≠ w.heap.size + 1) 0 (.slice A n c)).far (by omega : w.heap.size + 1 + 1 ≠ w.heap.size + 1) 1 (.int .i64 hd)).far (by omega : w.heap.size + 1 + 1 ≠ w.heap.size + 1) 2 (.int .i64 m')).far (by omega : w.heap.size + 1 + 1 ≠ w.heap.size + 1) 3 (.int .i64 t')).set_at 0 (.int .i64 xa)).set_at 1 (.int .i64 xb)
    have hbz := (((((hbw.setCell (p := ⟨w.heap.size + 1, 0, none⟩) (Nat.le_succ _) (.slice A n c)).setCell (p := ⟨w.heap.size + 1, 1, none⟩) (Nat.le_succ _) (.int .i64 hd)).setCell (p := ⟨w.heap.size + 1, 2, none⟩) (Nat.le_succ _) (.int .i64 m')).setCell (p := ⟨w.heap.size + 1, 3, none⟩) (Nat.le_succ _) (.int .i64 t')).setCell (p := ⟨w.heap.size + 1 + 1, 0, none⟩) (Nat.le_succ_of_le (Nat.le_succ _)) (.int .i64 xa)).setCell (p := ⟨w.heap.size + 1 + 1, 1, none⟩) (Nat.le_succ_of_le (Nat.le_succ _)) (.int .i64 xb)
    have HJ := Lib.hid (And.intro (held_drew j2) (And.intro (held_drew j3) hbz.drew))
    clear j2 j3 hbz p0 p1 p2 p3 q0 q1 z0 z1 z2 z3 v0 v1 x0 x1 x2 x3 k1 k2 k3 y0 y1
    (repeat go_step)
    exact bodyPost_ret (results_cct rfl _ _ rfl rfl rfl (load_ring HJ.out.1 rfl) (load_ref HJ.out.2.1 rfl)) rfl ⟨by rw [HG0.out]; first | done | rfl, HJ.out.2.2⟩
end Go.Proofs.Ythmnaclmbglkdaa
