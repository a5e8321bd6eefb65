/- Layer 11: the document's Items. -/
import Derived.Test.YthmnaclmbglkdaaNc
namespace Go.Proofs.Ythmnaclmbglkdaa
set_option linter.unusedVariables false
set_option linter.unusedSimpArgs false
open Go.RowKit Go.ChangeShapes Go.WideShapes Go.ChangeAt Go.Sort

theorem tyGR : 24 ≠ 33 := by decide
/-- What a call leaves that tells a list. -/
def ListQ (w : World) (l : List P2) (e : Ending) (w' : World) : Prop := ∃ A c, e = .returned (.slice A l.length c) ∧ OwnR w' w.heap.size (.slice A l.length c) l ∧ Below w.heap.size w w'
set_option maxHeartbeats 2000000 in
set_option maxRecDepth 100000 in
theorem ritems_no {A : Option Addr} {r : Rng} (c : Nat) (w : World) (h : mayR r = false) : Calls Try.prog 24 #[rgv A r.buf.length c r.head r.many r.most] w (ListQ w (itemsR r)) := by
  have he : itemsR r = [] := by unfold itemsR; rw [h]; rfl
  rw [he]
  have CM := rmayr_any A r.buf.length c r.head r.many r.most
  rw [show mayN r.buf.length r.head r.many r.most = false from h] at CM
  clear h he
  obtain ⟨b, hd, m, t⟩ := r
  simp only at CM ⊢
  generalize b.length = n at *
  have hx := (Held.new w 24 #[.slice A n c, .int .i64 hd, .int .i64 m, .int .i64 t]).alloc (.cells #[] 33)
  have ho := Own2.made 33 (w.alloc (.cells #[.slice A n c, .int .i64 hd, .int .i64 m, .int .i64 t] 24))
  have hb0 := below2 w (.cells #[.slice A n c, .int .i64 hd, .int .i64 m, .int .i64 t] 24) (.cells #[] 33)
  have hs1 : (w.alloc (.cells #[.slice A n c, .int .i64 hd, .int .i64 m, .int .i64 t] 24)).heap.size = w.heap.size + 1 := by simp
  rw [hs1] at ho
  have HO := Lib.hid ho
  have HB0 := Lib.hid hb0
  clear ho hb0 hs1
  go_enter Try.func24, Try.ntmps24
  go_wp2_with fail
  generalize (w.alloc (.cells #[.slice A n c, .int .i64 hd, .int .i64 m, .int .i64 t] 24)).alloc (.cells #[] 33) = W0 at *
  go_loopw [4, 3] (fun iv sv wr => iv = .int .i64 0 ∧ sv = .slice (some ⟨w.heap.size + 1, 0, none⟩) 0 0 ∧ wr = W0) (fun _ _ _ => 0)
  case atStart => exact ⟨rfl, rfl, rfl⟩
  case round =>
    obtain ⟨rfl, rfl, rfl⟩ := hrel
    have x0 := hx.cell 0
    have x1 := hx.cell 1
    have x2 := hx.cell 2
    have x3 := hx.cell 3
    simp at x0 x1 x2 x3
    cases hm : decide ((0 : Int) < m)
    all_goals go_wp2_with (go_at_call 26; (with_reducible refine (CM.go _).mono ?_); rintro _ u ⟨rfl, hb⟩)
    · go_ret
      exact ⟨_, _, rfl, r_mono HO.out (Nat.le_succ _), HB0.out⟩
    · go_ret
      exact ⟨_, _, rfl, r_mono (r_later HO.out hb) (Nat.le_succ _), Below.step HB0.out hb⟩
set_option maxHeartbeats 4000000 in
set_option maxRecDepth 100000 in
theorem ritems_yes {A : Option Addr} {b : List P2} {hd m t B : Nat} (c : Nat) (w : World) (hp : PAt w B A b) (hB : B ≤ w.heap.size) (h : mayR ⟨b, hd, m, t⟩ = true) (ht : t ≤ 1024) (hbt : b.length ≤ t) (hhd : hd < b.length) (hm : m ≤ b.length) :
    Calls Try.prog 24 #[rgv A b.length c hd m t] w (ListQ w (itemsN b hd m)) := by
  have CM := rmayr_any A b.length c hd m t
  rw [show mayN b.length (hd : Int) (m : Int) (t : Int) = true from h] at CM
  obtain ⟨gb, ob, rfl, hgb, hcb⟩ := hp (by omega)
  have hx := (Held.new w 24 #[.slice (some ⟨gb, ob, none⟩) b.length c, .int .i64 hd, .int .i64 m, .int .i64 t]).alloc (.cells #[] 33)
  have ho := Own2.made 33 (w.alloc (.cells #[.slice (some ⟨gb, ob, none⟩) b.length c, .int .i64 hd, .int .i64 m, .int .i64 t] 24))
  have hb0 := below2 w (.cells #[.slice (some ⟨gb, ob, none⟩) b.length c, .int .i64 hd, .int .i64 m, .int .i64 t] 24) (.cells #[] 33)
  have hs1 : (w.alloc (.cells #[.slice (some ⟨gb, ob, none⟩) b.length c, .int .i64 hd, .int .i64 m, .int .i64 t] 24)).heap.size = w.heap.size + 1 := by simp
  rw [hs1] at ho
  have HX := Lib.hid hx
  have HO := Lib.hid (r_mono ho (Nat.le_succ _) : OwnR _ w.heap.size _ [])
  have HB0 := Lib.hid hb0
  have HCB := Lib.hid hcb
  have HGB := Lib.hid (Nat.lt_of_lt_of_le hgb hB)
  have HBD := Lib.hid (And.intro ht (And.intro hbt (And.intro hhd hm)))
  clear ho hb0 hs1 hcb hgb hB hp h hx ht hbt hhd hm
  go_enter Try.func24, Try.ntmps24
  go_wp2_with fail
  generalize (w.alloc (.cells #[.slice (some ⟨gb, ob, none⟩) b.length c, .int .i64 hd, .int .i64 m, .int .i64 t] 24)).alloc (.cells #[] 33) = W0 at *
  go_loopw [4, 3] (fun iv sv wr => ∃ (j : Nat) (A9 : Option Addr) (c9 : Nat), iv = .int .i64 j ∧ sv = .slice A9 j c9 ∧ j ≤ m ∧ OwnR wr w.heap.size (.slice A9 j c9) (itemsN b hd j) ∧ Held wr w.heap.size 24 #[.slice (some ⟨gb, ob, none⟩) b.length c, .int .i64 hd, .int .i64 m, .int .i64 t] ∧ Below w.heap.size w wr) (fun iv _ _ => m - (intOf iv).toNat)
  case atStart => exact ⟨0, _, _, rfl, rfl, Nat.zero_le _, HO.out, HX.out, HB0.out⟩
  case round =>
    obtain ⟨j, A9, c9, rfl, rfl, hj, hol, hx, hbw⟩ := hrel
    obtain ⟨ht, hbt, hhd, hm⟩ := HBD.out
    have x0 := hx.cell 0
    have x1 := hx.cell 1
    have x2 := hx.cell 2
    have x3 := hx.cell 3
    simp at x0 x1 x2 x3
    by_cases hlt : j < m
    · have hlt2 : (j : Int) < m := by omega
      have hj0 : (0 : Int) ≤ j := Int.natCast_nonneg j
      have hd0 : (0 : Int) ≤ hd := Int.natCast_nonneg hd
      have hj1 : (j : Int) ≤ 1024 := by omega
      have hd1 : (hd : Int) ≤ 1024 := by omega
      have hb1 : (b.length : Int) ≤ 1024 := by omega
      have hi : idxN hd b.length j < b.length := idxN_lt hhd (by omega)
      obtain ⟨y0, y1⟩ := HCB.out _ hi
      replace y0 := (hbw.cell (p := ⟨gb, _, none⟩) HGB.out).trans y0
      replace y1 := (hbw.cell (p := ⟨gb, _, none⟩) HGB.out).trans y1
      have hgd : b.getD (idxN hd b.length j) (0, 0) = b[idxN hd b.length j] := by rw [List.getD_eq_getElem?_getD, List.getElem?_eq_getElem hi]; rfl
      have HSC := Lib.hid (itemsN_succ b hd j)
      rw [hgd] at HSC
      generalize b[idxN hd b.length j] = x at *
      obtain ⟨xa, xb⟩ := x
      simp only at y0 y1
      have hix : ((decide ((b.length : Int) ≤ (hd : Int) + j) = true ∧ (idxN hd b.length j : Int) = (hd : Int) + j - b.length) ∨ (decide ((b.length : Int) ≤ (hd : Int) + j) = false ∧ (idxN hd b.length j : Int) = (hd : Int) + j)) := by
        unfold idxN
        by_cases hc : b.length ≤ hd + j
        · exact .inl ⟨decide_eq_true (by omega), by rw [if_pos hc]; omega⟩
        · exact .inr ⟨decide_eq_false (by omega), by rw [if_neg hc]; omega⟩
      have hiI : (idxN hd b.length j : Int) < b.length := by omega
      have hi0 : (0 : Int) ≤ (idxN hd b.length j : Int) := Int.natCast_nonneg _
      generalize hI : idxN hd b.length j = I at *
      generalize hL : itemsN b hd j = L at *
      have hLl : L.length = j := by rw [← hL, itemsN_len]
      have HLL := Lib.hid hLl
      have HX := Lib.hid hx
      have HOL := Lib.hid hol
      have HBW := Lib.hid hbw
      clear hgd hL hLl hI hi hx hol hbw hbt hhd hm
      rcases hix with ⟨hc1, hc2⟩ | ⟨hc1, hc2⟩
      all_goals
        rw [hc2] at hiI hi0
        go_upto_region 8 with (go_at_call 26; (with_reducible refine (CM.go _).mono ?_); rintro _ u ⟨rfl, hb⟩; have hxu := HX.out.below hb; have x0 := hxu.cell 0; have x1 := hxu.cell 1; simp at x0 x1; have y0 := (hb.cell (p := ⟨gb, _, none⟩) (block_lt_of_cell y0)).trans y0; have y1 := (hb.cell (p := ⟨gb, _, none⟩) (block_lt_of_cell y1)).trans y1)
        have hiI2 : (I : Int) < b.length := by omega
        have hI0 : (0 : Int) ≤ (I : Int) := Int.natCast_nonneg _
        rw [← hc2]
        have hbA : Below u.heap.size u (u.alloc (.cells #[.int .i64 xa, .int .i64 xb] 33)) := (Below.refl _ _).alloc (Nat.le_refl _) _
        have HOA := Lib.hid (r_later (r_later HOL.out hb) hbA : OwnR _ w.heap.size (.slice A9 j c9) L)
        have HVA := Lib.hid (one2_at (t := 33) (w := u) xa xb)
        have HBB := Lib.hid (Below.step (Below.step HBW.out hb) hbA)
        have HLE := Lib.hid (show L.length + 1 ≤ 1000000 by rw [HLL.out]; omega)
        have HXA := Lib.hid (hxu.below hbA)
        have HNE : Hid ((Value.slice A9 j c9).ownBlock ≠ some w.heap.size) := Lib.hid (fun e => r_apart HOA.out HXA.out tyGR _ e rfl)
        have HKL := Lib.hid (show (L ++ [(xa, xb)]).length = j + 1 by rw [List.length_append, HLL.out]; rfl)
        clear hiI hi0 hc1 hc2 hbA hb hxu HX HOL HBW hd0 hd1 hb1
        go_wp2_with (at_builtin; refine wpList_append_rs (k := [(xa, xb)]) (n := 1) rfl _ _ rfl w.heap.size _ L rfl HOA.out rfl rfl HVA.out (Nat.le_refl _) HLE.out HBB.out.size ?_; intro v' u6 k1 k2 k3; obtain ⟨A', c', rfl, _⟩ := k1.lies; have K1 := Lib.hid k1; have K2 := Lib.hid k2; clear k1 k2 k3)
        go_roundw
        case rel =>
          refine ⟨j + 1, A', c', by go_num, by rw [HLL.out], by omega, ?_, held_grown HXA.out K2.out HNE.out, HBB.out.grown K2.out HBB.out.size (fun q e => (HOA.out.lt q e).1)⟩
          have h9 := K1.out
          rw [HKL.out, ← HSC.out] at h9
          exact h9
        case measure => simp [intOf]; omega
    · obtain rfl : j = m := by omega
      have hlt2 : decide ((j : Int) < j) = false := by simp
      have hll : (itemsN b hd j).length = j := itemsN_len _ _ _
      have HOL := Lib.hid hol
      have HLL := Lib.hid hll
      clear hol hll hlt hj hbt hhd hm ht
      go_wp2_with fail
      go_ret
      refine ⟨A9, c9, ?_, ?_, hbw⟩
      · rw [HLL.out]; rfl
      · rw [HLL.out]; exact HOL.out
theorem ritems_any {A : Option Addr} {r : Rng} {B : Nat} (c : Nat) (w : World) (hp : PAt w B A r.buf) (hB : B ≤ w.heap.size) : Calls Try.prog 24 #[rgv A r.buf.length c r.head r.many r.most] w (ListQ w (itemsR r)) := by
  cases h : mayR r with
  | false => exact ritems_no c w h
  | true =>
    obtain ⟨b, hd, m, t, rfl, h1, h2, h3, h4, h5, h6⟩ := ring_nat h
    rw [items_nat h]
    exact ritems_yes c w hp hB h h2 h4 h5 h6
end Go.Proofs.Ythmnaclmbglkdaa
