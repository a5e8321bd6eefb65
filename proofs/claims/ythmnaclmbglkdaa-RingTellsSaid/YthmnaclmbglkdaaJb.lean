/- Layer 11: the code's Items. -/
import Derived.Test.YthmnaclmbglkdaaJa
import Derived.Test.YthmnaclmbglkdaaQt
import Derived.BigQuiet
namespace Go.Proofs.Ythmnaclmbglkdaa
set_option linter.unusedVariables false
set_option linter.unusedSimpArgs false
open Go.RowKit Go.ChangeShapes Go.WideShapes Go.ChangeAt Go.Sort

set_option maxHeartbeats 4000000 in
set_option maxRecDepth 100000 in
theorem items_r {A : Option Addr} {r : Rng} {B : Nat} (c : Nat) (w : World) (hp : PAt w B A r.buf) (hB : B ≤ w.heap.size) : Calls Try.prog 23 #[rgv A r.buf.length c r.head r.many r.most] w (ListQ w (itemsR r)) := by
  have hb0 : Below w.heap.size w (w.alloc (.cells (rgc A r.buf.length c r.head r.many r.most) 24)) := (Below.refl _ _).alloc (Nat.le_refl _) _
  have hx := Held.new w 24 (rgc A r.buf.length c r.head r.many r.most)
  have CH := has_r A c r
  by_cases h0 : 0 < (itemsR r).length
  · rw [decide_eq_true h0] at CH
    have hmy := ((has_iff r) ▸ h0 : mayR r = true ∧ 0 < r.many).1
    obtain ⟨b, hd, m, t, rfl, h1, h2, h3, h4, h5, h6⟩ := ring_nat hmy
    rw [items_nat hmy] at h0 ⊢
    rw [itemsN_len] at h0
    simp only at hp
    obtain ⟨gb, ob, rfl, hgb, hcb⟩ := hp (by omega)
    have HCB := Lib.hid hcb
    have HGB := Lib.hid (Nat.lt_of_lt_of_le hgb hB)
    have MK := fun W => make_rs (n := m) (by omega) W
    have HBD := Lib.hid (And.intro h2 (And.intro h4 (And.intro h5 h6)))
    have hm0 : (0 : Int) ≤ m := Int.natCast_nonneg m
    have hm1 : (m : Int) ≤ 1024 := by omega
    clear hmy hp hcb h1 h2 h3 h4 h5 h6 hgb hB
    simp only at *
    go_enter Try.func23, Try.ntmps23
    go_upto_region 1 with (fail)
    generalize w.alloc (.cells (rgc (some ⟨gb, ob, none⟩) b.length c hd m t) 24) = W0 at *
    go_upto_region 3 with (first
      | (guard_target = wpList _ _ _ (Oper.mk _ (Op.load 24 (.tmp 1)) _ _ _ none :: _) _ _; refine wpList_load_row rfl 24 _ rfl w.heap.size rfl _ _ _ _ hx Try.underlying24 rfl (by kernel_rfl) ?_)
      | (go_at_call 30; (with_reducible refine (CH.go _).mono ?_); rintro _ u ⟨rfl, hbu⟩))
    have hxu := hx.below hbu
    have hbw := Below.step hb0 hbu
    have x2 := hxu.cell 2
    simp at x2
    clear hx hbu hb0 CH
    go_upto_region 4 with (fail)
    have hbz : Below u.heap.size u (u.alloc (.cells (zeroR m) 33)) := (Below.refl _ _).alloc (Nat.le_refl _) _
    have hgu : w.heap.size + 1 ≤ u.heap.size := hxu.lt
    have hzo : OwnR (u.alloc (.cells (zeroR m) 33)) (w.heap.size + 1) (.slice (some ⟨u.heap.size, 0, none⟩) m m) ((itemsN b hd m).take 0 ++ List.replicate (m - 0) (0, 0)) := by
      have := zeroR_own (Held.new u 33 (zeroR m)) hgu (by omega)
      simpa using this
    have HZ := Lib.hid (And.intro hzo (And.intro (hxu.below hbz) (Below.step hbw hbz)))
    clear hzo hbz hxu hbw x2 MK
    generalize u.alloc (.cells (zeroR m) 33) = W1 at *
    generalize u.heap.size = g at *
    have HGU := Lib.hid hgu
    clear hgu
    go_wp2_with fail
    go_loopw [13] (fun iv wr => ∃ i : Nat, iv = .int .i64 i ∧ i ≤ m ∧ OwnR wr (w.heap.size + 1) (.slice (some ⟨g, 0, none⟩) m m) ((itemsN b hd m).take i ++ List.replicate (m - i) (0, 0)) ∧ Held wr w.heap.size 24 (rgc (some ⟨gb, ob, none⟩) b.length c hd m t) ∧ Below w.heap.size w wr) (fun iv _ => m - (intOf iv).toNat)
    case atStart => exact ⟨0, rfl, Nat.zero_le _, HZ.out.1, HZ.out.2.1, HZ.out.2.2⟩
    case round =>
      obtain ⟨i, rfl, hi, ho, hx, hb⟩ := hrel
      obtain ⟨h2, h4, h5, h6⟩ := HBD.out
      by_cases hlt : i < m
      · have CP := place_r (A := some ⟨gb, ob, none⟩) (n := b.length) (h := hd) (i := i) c m t h5 (by omega) (by omega)
        have hi2 : idxN hd b.length i < b.length := idxN_lt h5 (by omega)
        obtain ⟨y0, y1⟩ := HCB.out _ hi2
        replace y0 := (hb.cell (p := ⟨gb, _, none⟩) HGB.out).trans y0
        replace y1 := (hb.cell (p := ⟨gb, _, none⟩) HGB.out).trans y1
        have hiL : i < (itemsN b hd m).length := by rw [itemsN_len]; exact hlt
        have hfs := fill_set (itemsN b hd m) m i hiL (by rw [itemsN_len]; exact Nat.le_refl _)
        have hgi : (itemsN b hd m)[i] = b[idxN hd b.length i] := by
          have := itemsN_get (b := b) (h := hd) hlt
          rw [List.getElem?_eq_getElem hiL] at this
          rw [Option.some.inj this, List.getD_eq_getElem?_getD, List.getElem?_eq_getElem hi2]
          rfl
        rw [hgi] at hfs
        have hlen : ((itemsN b hd m).take i ++ List.replicate (m - i) ((0, 0) : P2)).length = m := by rw [List.length_append, List.length_take, List.length_replicate, itemsN_len]; omega
        have hlt2 : (i : Int) < m := by omega
        have hi0 : (0 : Int) ≤ i := Int.natCast_nonneg i
        have hiI : (idxN hd b.length i : Int) < b.length := by omega
        have hI0 : (0 : Int) ≤ (idxN hd b.length i : Int) := Int.natCast_nonneg _
        have HFS := Lib.hid hfs
        clear hgi hfs hiL
        generalize b[idxN hd b.length i] = x at *
        generalize idxN hd b.length i = I at *
        obtain ⟨xa, xb⟩ := x
        simp only at y0 y1
        have HO := Lib.hid ho
        have HLN := Lib.hid hlen
        have HLT := Lib.hid (show i < ((itemsN b hd m).take i ++ List.replicate (m - i) ((0, 0) : P2)).length by rw [hlen]; exact hlt)
        have HB := Lib.hid hb
        have x0 := hx.cell 0
        have x1 := hx.cell 1
        have x2 := hx.cell 2
        have x3 := hx.cell 3
        simp at x0 x1 x2 x3
        clear hb ho hlen h2 h4 h5 h6 hi2
        go_upto_region 7 with (fail)
        have g0 := fun d os => cell_regrown x0 d os
        have g1 := fun d os => cell_regrown x1 d os
        have g2 := fun d os => cell_regrown x2 d os
        have g3 := fun d os => cell_regrown x3 d os
        have g4 := fun d os => cell_regrown y0 d os
        have g5 := fun d os => cell_regrown y1 d os
        clear x0 x1 x2 x3 y0 y1
        refine wp_region_below_tail 10 (by kernel_rfl) (by kernel_rfl) ?_
        simp only [List.take_succ_cons, List.take_zero, List.drop_succ_cons, List.drop_zero]
        repeat (first
          | go_big_quiet_step ((go_at_call 33; (with_reducible exact Calls.regrown_of (CP.go _))))
          | quiet_step ((go_at_call 33; (with_reducible exact Calls.regrown_of (CP.go _)))))
        refine wpQuiet_nil ?_
        intro v hv
        have hbu := below_of_regrown hv
        clear hv g0 g1 g2 g3 g4 g5
        have ho' : OwnR v (w.heap.size + 1) _ _ := r_later HO.out hbu
        have hx' := hx.below hbu
        obtain ⟨z0, z1, w0, w1⟩ := own2_cells ho' (k := i) HLT.out
        have hset := ho'.set i (xa, xb) HLT.out
        rw [HFS.out] at hset
        have hb' := Below.step HB.out hbu
        have HGU2 := Lib.hid HGU.out
        generalize ((itemsN b hd m).take i ++ List.replicate (m - i) ((0, 0) : P2))[i] = v0 at *
        go_wp2_with fail
        go_roundw
        case rel => exact ⟨i + 1, by go_num, by omega, hset, (hx'.far (by have := HGU.out; omega) _ _).far (by have := HGU.out; omega) _ _, (hb'.setCell (p := ⟨g, _, none⟩) (by have := HGU.out; show w.heap.size ≤ g; omega) _).setCell (p := ⟨g, _, none⟩) (by have := HGU.out; show w.heap.size ≤ g; omega) _⟩
        case measure => simp [intOf]; omega
      · obtain rfl : i = m := by omega
        have hend : decide ((i : Int) < i) = false := by simp
        have hll : (itemsN b hd i).length = i := itemsN_len _ _ _
        have htk : (itemsN b hd i).take i ++ List.replicate (i - i) ((0, 0) : P2) = itemsN b hd i := by rw [List.take_of_length_le (by omega), Nat.sub_self]; simp
        rw [htk] at ho
        have HO := Lib.hid ho
        have HLL := Lib.hid hll
        clear ho hll htk hlt hi h2 h4 h5 h6
        go_wp2_with fail
        go_ret
        refine ⟨some ⟨g, 0, none⟩, i, ?_, ?_, hb⟩
        · rw [HLL.out]; rfl
        · rw [HLL.out]; exact r_mono HO.out (Nat.le_succ _)
  · rw [decide_eq_false h0] at CH
    have hnil : itemsR r = [] := List.eq_nil_of_length_eq_zero (by omega)
    rw [hnil]
    clear hnil h0 hp
    obtain ⟨b, hd, m, t⟩ := r
    simp only at *
    generalize b.length = n at *
    go_enter Try.func23, Try.ntmps23
    go_upto_region 1 with (fail)
    generalize w.alloc (.cells (rgc A n c hd m t) 24) = W0 at *
    go_wp2_with (first
      | (guard_target = wpList _ _ _ (Oper.mk _ (Op.load 24 (.tmp 1)) _ _ _ none :: _) _ _; refine wpList_load_row rfl 24 _ rfl w.heap.size rfl _ _ _ _ hx Try.underlying24 rfl (by kernel_rfl) ?_)
      | (go_at_call 30; (with_reducible refine (CH.go _).mono ?_); rintro _ u ⟨rfl, hbu⟩))
    go_ret
    exact ⟨none, 0, rfl, Own2.nil _ _ _, Below.step hb0 hbu⟩
end Go.Proofs.Ythmnaclmbglkdaa
