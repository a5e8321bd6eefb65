/- Layer 11: the document's Steal, Pop. -/
import Derived.Test.YthmnaclmbglkdaaNs
namespace Go.Proofs.Ythmnaclmbglkdaa
set_option linter.unusedVariables false
set_option linter.unusedSimpArgs false
open Go.RowKit Go.ChangeShapes Go.WideShapes Go.ChangeAt Go.Sort

theorem results_cct {P : Program} {fn : Func} {p q t : Tmp} {ty1 ty2 : TypeId} (h : fn.results = #[.cell p ty1, .cell q ty2, .tmp t]) (tmps : Array Value) (w : World) {a1 a2 : Addr} {v1 v2 v3 : Value} (hp : tmps.getD p undef = .pointer (some a1)) (hq : tmps.getD q undef = .pointer (some a2)) (ht : tmps.getD t undef = v3)
    (l1 : (loadVar ty1 a1).run P w = .ok v1 w) (l2 : (loadVar ty2 a2).run P w = .ok v2 w) : (results fn tmps).run P w = .ok (.tuple #[v1, v2, v3]) w := by
  have hp' : tmps[p]?.getD undef = .pointer (some a1) := by simpa using hp
  have hq' : tmps[q]?.getD undef = .pointer (some a2) := by simpa using hq
  have ht' : tmps[t]?.getD undef = v3 := by simpa using ht
  simp [results, h, hp', hq', ht', asAddr, l1, l2]
theorem load_ring {w : World} {g : Nat} {cs : Array Value} (h : Held w g 24 cs) (hs : cs.size = 4) : (loadVar 24 ⟨g, 0, none⟩).run Try.prog w = .ok (.agg cs) w :=
  run_loadVar_row (P := Try.prog) _ g 24 24 _ (0, 0) _ h Try.underlying24 rfl (by rw [hs]; kernel_rfl)
theorem load_ref {w : World} {g : Nat} {cs : Array Value} (h : Held w g 33 cs) (hs : cs.size = 2) : (loadVar 33 ⟨g, 0, none⟩).run Try.prog w = .ok (.agg cs) w :=
  run_loadVar_row (P := Try.prog) _ g 33 33 _ (0, 0) _ h Try.underlying33 rfl (by rw [hs]; kernel_rfl)
/-- What a ring and a ref told leave. -/
def StealQ (w : World) (A : Option Addr) (n c : Nat) (R : Rng × RefP × Bool) (e : Ending) (w' : World) : Prop := e = .returned (.tuple #[rgv A n c R.1.head R.1.many R.1.most, gv R.2.1.1 R.2.1.2, .bool R.2.2]) ∧ Below w.heap.size w w'
set_option maxHeartbeats 4000000 in
set_option maxRecDepth 100000 in
theorem rsteal_any {A : Option Addr} {r : Rng} {B : Nat} (c : Nat) (w : World) (hp : PAt w B A r.buf) (hB : B ≤ w.heap.size) : Calls Try.prog 16 #[rgv A r.buf.length c r.head r.many r.most] w (StealQ w A r.buf.length c (stealR r)) := by
  have hb0 := below3 w (.cells (rgc A r.buf.length c r.head r.many r.most) 24) (.cells #[.slice none 0 0, .int .i64 0, .int .i64 0, .int .i64 0] 24) (.cells #[.int .i64 0, .int .i64 0] 33)
  have g1 := ((Held.new w 24 (rgc A r.buf.length c r.head r.many r.most)).alloc (.cells #[.slice none 0 0, .int .i64 0, .int .i64 0, .int .i64 0] 24)).alloc (.cells #[.int .i64 0, .int .i64 0] 33)
  have g2 := (Held.new1 w (.cells (rgc A r.buf.length c r.head r.many r.most) 24) 24 #[.slice none 0 0, .int .i64 0, .int .i64 0, .int .i64 0]).alloc (.cells #[.int .i64 0, .int .i64 0] 33)
  have g3 := Held.new2 w (.cells (rgc A r.buf.length c r.head r.many r.most) 24) (.cells #[.slice none 0 0, .int .i64 0, .int .i64 0, .int .i64 0] 24) 33 #[.int .i64 0, .int .i64 0]
  have CI := ritems_any c _ (hp.below hb0 hB) (Nat.le_trans hB hb0.size)
  have hmay : 0 < (itemsR r).length → mayR r = true := fun h0 => by
    cases hm : mayR r with
    | true => rfl
    | false => unfold itemsR at h0; rw [hm] at h0; simp at h0
  have hno := fun h => steal_no (r := r) h
  have hyes : 0 < (itemsR r).length → ∃ (hd m t n : Nat), r.head = hd ∧ r.many = ((m + 1 : Nat) : Int) ∧ r.most = t ∧ r.buf.length = n ∧ hd < n ∧ n ≤ 1024 ∧ m + 1 ≤ 1024 ∧ stealR r = ({ r with many := m, head := if hd + 1 = n then 0 else (hd : Int) + 1 }, (itemsR r).getD 0 (0, 0), true) := fun h0 => by
    have hl := items_len (hmay h0)
    have e : stealR r = ({ r with many := r.many - 1, head := if r.head + 1 = r.buf.length then 0 else r.head + 1 }, (itemsR r).getD 0 (0, 0), true) := if_neg (by omega)
    rw [e]
    obtain ⟨b, hd, m, t, rfl, h1, h2, h3, h4, h5, h6⟩ := ring_nat (hmay h0)
    cases m with
    | zero => simp only at hl; omega
    | succ m =>
      refine ⟨hd, m, t, b.length, rfl, rfl, rfl, rfl, h5, by omega, by omega, ?_⟩
      simp only
      congr 2
      · split <;> split <;> omega
      · omega
  obtain ⟨ST, hST⟩ : ∃ S, S = stealR r := ⟨_, rfl⟩
  rw [← hST] at hno hyes ⊢
  have HP := Lib.hid hp
  generalize hL : itemsR r = L at *
  obtain ⟨b, hd, m, t⟩ := r
  simp only at *
  generalize hn : b.length = n at *
  clear hp hST hmay hL hn
  have HNO := Lib.hid hno
  have HYES := Lib.hid hyes
  clear hno hyes
  go_enter Try.func16, Try.ntmps16
  go_upto_region 1 with (fail)
  generalize ((w.alloc (.cells (rgc A n c hd m t) 24)).alloc (.cells #[.slice none 0 0, .int .i64 0, .int .i64 0, .int .i64 0] 24)).alloc (.cells #[.int .i64 0, .int .i64 0] 33) = W0 at *
  have x0 := g1.cell 0
  have x1 := g1.cell 1
  have x2 := g1.cell 2
  have x3 := g1.cell 3
  simp at x0 x1 x2 x3
  go_upto_region 2 with (go_at_call 24; (with_reducible refine CI.mono ?_); rintro _ u ⟨A9, c9, rfl, hol, hb⟩)
  have k1 := g1.below hb
  have k2 := g2.below hb
  have k3 := g3.below hb
  have hbu := Below.step hb0 hb
  have HSZ := Lib.hid (show W0.heap.size ≥ w.heap.size + 3 by have := g3.lt; omega)
  clear g1 g2 g3 hb0 CI x0 x1 x2 x3
  by_cases h0 : L.length = 0
  · obtain rfl := HNO.out h0
    have x0 := k1.cell 0
    have x1 := k1.cell 1
    have x2 := k1.cell 2
    have x3 := k1.cell 3
    simp at x0 x1 x2 x3
    rw [h0]
    go_wp2_with (first
      | (guard_target = wpList _ _ _ (Oper.mk _ (Op.store 24 (.tmp 2) _) _ _ _ none :: _) _ _; refine wpList_store_row rfl 24 _ _ rfl (w.heap.size + 1) (rgc A n c hd m t) rfl rfl _ _ k2 (by kernel_rfl) rfl (by simp [Value.oneCell']) ?_; have j3 := held_row k3 (by omega : w.heap.size + 1 + 1 ≠ w.heap.size + 1) (rgc A n c hd m t))
      | (guard_target = wpList _ _ _ (Oper.mk _ (Op.store 33 (.tmp 3) _) _ _ _ none :: _) _ _; refine wpList_store_row rfl 33 _ _ rfl (w.heap.size + 1 + 1) #[.int .i64 0, .int .i64 0] rfl rfl _ _ j3 (by kernel_rfl) rfl (by simp [Value.oneCell']) ?_))
    have j2 := held_row (held_rowSelf k2 (rgc A n c hd m t)) (by omega : w.heap.size + 1 ≠ w.heap.size + 1 + 1) #[.int .i64 0, .int .i64 0]
    exact bodyPost_ret (results_cct rfl _ _ rfl rfl rfl (load_ring j2 rfl) (load_ref (held_rowSelf j3 _) rfl)) rfl ⟨rfl, below_setRow (below_setRow hbu (Nat.le_succ _) _) (Nat.le_succ_of_le (Nat.le_succ _)) _⟩
  · obtain ⟨hd', m', t', n', rfl, rfl, rfl, rfl, h5, h6, h7, rfl⟩ := HYES.out (by omega)
    have x0 := k1.cell 0
    have x1 := k1.cell 1
    have x2 := k1.cell 2
    have x3 := k1.cell 3
    have z1 := k1.fz 1
    have z2 := k1.fz 2
    have xl := k1.lt
    simp at x0 x1 x2 x3
    obtain ⟨go, gc, ego⟩ := r_form hol (by omega)
    simp only [Value.slice.injEq, true_and] at ego
    obtain ⟨rfl, rfl⟩ := ego
    obtain ⟨y0, y1, -, -⟩ := own2_cells hol (k := 0) (by omega)
    have hg0 : L.getD 0 (0, 0) = L[0] := by rw [List.getD_eq_getElem?_getD, List.getElem?_eq_getElem (by omega)]; rfl
    have hlt : (0 : Int) < L.length := by omega
    have e0 : ((L.length : Int) == 0) = false := by simpa using h0
    have hgo := hol.lt go rfl
    generalize L[0] = x at *
    obtain ⟨xa, xb⟩ := x
    simp only at y0 y1
    have HG0 := Lib.hid hg0
    have hm0 : (0 : Int) ≤ m' := Int.natCast_nonneg m'
    have hh0 : (0 : Int) ≤ hd' := Int.natCast_nonneg hd'
    have hm1 : (m' : Int) ≤ 1024 := by omega
    have hh1 : (hd' : Int) ≤ 1024 := by omega
    have HN := Lib.hid hol
    have H5 := Lib.hid (And.intro h5 h6)
    clear hg0 h0 h5 h6 h7 hol
    obtain ⟨hn, hhn⟩ : ∃ z : Int, z = if hd' + 1 = n then 0 else (hd' : Int) + 1 := ⟨_, rfl⟩
    have HHN := Lib.hid hhn
    clear hhn
    have hgs : w.heap.size + 3 ≤ go := by have := HSZ.out; omega
    go_upto_if 26 with (fail)
    go_cut [] (fun wx => Held wx w.heap.size 24 #[.slice A n c, .int .i64 hn, .int .i64 m', .int .i64 t'] ∧ Held wx (w.heap.size + 1) 24 #[.slice none 0 0, .int .i64 0, .int .i64 0, .int .i64 0] ∧ Held wx (w.heap.size + 1 + 1) 33 #[.int .i64 0, .int .i64 0] ∧ wx.cell? ⟨go, 0, none⟩ = some (.int .i64 xa) ∧ wx.cell? ⟨go, 1, none⟩ = some (.int .i64 xb) ∧ Below w.heap.size w wx)
    case first =>
      have far : ∀ i v W, go ≠ w.heap.size → (World.setCell W ⟨w.heap.size, i, none⟩ v).heap[go]? = W.heap[go]? := fun i v W hne => Below.heap_setCell W ⟨w.heap.size, i, none⟩ v go hne
      by_cases hw : hd' + 1 = n
      · have ew : ((hd' : Int) + 1 == (n : Int)) = true := by simp; omega
        have hh := HHN.out
        rw [if_pos hw] at hh
        subst hh
        clear hw
        go_wp2_with fail
        go_meet
        case rel => exact ⟨((k1.set_at 2 _).set_at 1 _).set_at 1 _, ((k2.far (by omega) _ _).far (by omega) _ _).far (by omega) _ _, ((k3.far (by omega) _ _).far (by omega) _ _).far (by omega) _ _, (World.cell?_of_block (a := ⟨go, 0, none⟩) ((far _ _ _ (by omega)).trans ((far _ _ _ (by omega)).trans (far _ _ _ (by omega))))).trans y0, (World.cell?_of_block (a := ⟨go, 1, none⟩) ((far _ _ _ (by omega)).trans ((far _ _ _ (by omega)).trans (far _ _ _ (by omega))))).trans y1, ((hbu.setCell (p := ⟨w.heap.size, 2, none⟩) (Nat.le_refl _) _).setCell (p := ⟨w.heap.size, 1, none⟩) (Nat.le_refl _) _).setCell (p := ⟨w.heap.size, 1, none⟩) (Nat.le_refl _) _⟩
      · have ew : ((hd' : Int) + 1 == (n : Int)) = false := by simp; omega
        have hh := HHN.out
        rw [if_neg hw] at hh
        subst hh
        clear hw
        go_wp2_with fail
        go_meet
        case rel => exact ⟨(k1.set_at 2 _).set_at 1 _, (k2.far (by omega) _ _).far (by omega) _ _, (k3.far (by omega) _ _).far (by omega) _ _, (World.cell?_of_block (a := ⟨go, 0, none⟩) ((far _ _ _ (by omega)).trans (far _ _ _ (by omega)))).trans y0, (World.cell?_of_block (a := ⟨go, 1, none⟩) ((far _ _ _ (by omega)).trans (far _ _ _ (by omega)))).trans y1, (hbu.setCell (p := ⟨w.heap.size, 2, none⟩) (Nat.le_refl _) _).setCell (p := ⟨w.heap.size, 1, none⟩) (Nat.le_refl _) _⟩
    case rest =>
    obtain ⟨k1, k2, k3, y0, y1, hbw⟩ := hcut
    generalize wc = W5 at *
    have x0 := k1.cell 0
    have x1 := k1.cell 1
    have x2 := k1.cell 2
    have x3 := k1.cell 3
    have p0 := k2.cell 0
    have p1 := k2.cell 1
    have p2 := k2.cell 2
    have p3 := k2.cell 3
    have q0 := k3.cell 0
    have q1 := k3.cell 1
    have z0 := k2.fz 0
    have z1 := k2.fz 1
    have z2 := k2.fz 2
    have z3 := k2.fz 3
    have v0 := k3.fz 0
    have v1 := k3.fz 1
    simp at x0 x1 x2 x3 p0 p1 p2 p3 q0 q1
    have l2 := k2.lt
    have l3 := k3.lt
    have ne0 : go ≠ w.heap.size := by omega
    have ne1 : go ≠ w.heap.size + 1 := by omega
    have ne2 : go ≠ w.heap.size + 1 + 1 := by omega
    have ne3 : w.heap.size + 1 ≠ go := by omega
    have ne4 : w.heap.size + 1 + 1 ≠ go := by omega
    have hlN : 0 < L.length := by omega
    go_upto_region 8 with (fail)
    go_region
    have j2 := (((((k2.set_at 0 (.slice A n c)).set_at 1 (.int .i64 hn)).set_at 2 (.int .i64 m')).set_at 3 (.int .i64 t')).far (by omega : w.heap.size + 1 ≠ w.heap.size + 1 + 1) 0 (.int .i64 xa)).far (by omega : w.heap.size + 1 ≠ w.heap.size + 1 + 1) 1 (.int .i64 xb)
    have j3 := (((((k3.far (by omega : w.heap.size + 1 + 1 ≠ w.heap.size + 1) 0 (.slice A n c)).far (by omega : w.heap.size + 1 + 1 ≠ w.heap.size + 1) 1 (.int .i64 hn)).far (by omega : w.heap.size + 1 + 1 ≠ w.heap.size + 1) 2 (.int .i64 m')).far (by omega : w.heap.size + 1 + 1 ≠ w.heap.size + 1) 3 (.int .i64 t')).set_at 0 (.int .i64 xa)).set_at 1 (.int .i64 xb)
    have hbz := (((((hbw.setCell (p := ⟨w.heap.size + 1, 0, none⟩) (Nat.le_succ _) (.slice A n c)).setCell (p := ⟨w.heap.size + 1, 1, none⟩) (Nat.le_succ _) (.int .i64 hn)).setCell (p := ⟨w.heap.size + 1, 2, none⟩) (Nat.le_succ _) (.int .i64 m')).setCell (p := ⟨w.heap.size + 1, 3, none⟩) (Nat.le_succ _) (.int .i64 t')).setCell (p := ⟨w.heap.size + 1 + 1, 0, none⟩) (Nat.le_succ_of_le (Nat.le_succ _)) (.int .i64 xa)).setCell (p := ⟨w.heap.size + 1 + 1, 1, none⟩) (Nat.le_succ_of_le (Nat.le_succ _)) (.int .i64 xb)
    have HJ := Lib.hid (And.intro (held_drew j2) (And.intro (held_drew j3) hbz.drew))
    clear j2 j3 hbz p0 p1 p2 p3 q0 q1 z0 z1 z2 z3 v0 v1 x0 x1 x2 x3 k1 k2 k3 y0 y1
    (repeat go_step)
    exact bodyPost_ret (results_cct rfl _ _ rfl rfl rfl (load_ring HJ.out.1 rfl) (load_ref HJ.out.2.1 rfl)) rfl ⟨by rw [HG0.out, ← HHN.out]; first | done | rfl, HJ.out.2.2⟩
end Go.Proofs.Ythmnaclmbglkdaa
