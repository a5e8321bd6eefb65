/- Layer 11: copy of pairs; the code's grow. -/
import Derived.Test.YthmnaclmbglkdaaJc
import Derived.Laws.CopyRow
namespace Go.Proofs.Ythmnaclmbglkdaa
set_option linter.unusedVariables false
set_option linter.unusedSimpArgs false
open Go.RowKit Go.ChangeShapes Go.WideShapes Go.ChangeAt Go.Sort

theorem flatP_drop : ∀ (l : List P2) (n : Nat), (flatP l).drop (n * 2) = flatP (l.drop n)
  | l, 0 => by simp
  | [], n + 1 => by simp [flatP]
  | x :: l, n + 1 => by
    have ih := flatP_drop l n
    rw [show (n + 1) * 2 = n * 2 + 1 + 1 by omega]
    show (flatP l).drop (n * 2) = _
    rw [ih]
    rfl
/-- copy of pairs into a block that is known whole. -/
theorem wpList_copy_rs {w : World} {ops : Array Oper} {rest : List Oper} {o : Oper} {a : Act} {Q : Exit → Act → World → Prop} (hgd : o.guard = none) (d s : Operand)
    (ho : o.op = .call { callee := .builtin .copy, args := #[d, s], argTypes := #[22, 22] }) {g dLen dCap sLen sCap C : Nat} {A : Option Addr} {Z L : List P2}
    (hd : a.eval d = .slice (some ⟨g, 0, none⟩) dLen dCap) (hs : a.eval s = .slice A sLen sCap) (hZ : Z.length = dLen) (hL : L.length = sLen) (h0 : 1 ≤ L.length) (hle : L.length ≤ Z.length)
    {t : TypeId} (hg : Held w g t (flatP Z).toArray) (hp : PAt w C A L)
    (h : wpList Try.prog ops Q rest (a.put o.dst (goInt L.length)) (w.setRow g (flatP (L ++ Z.drop L.length)).toArray)) : wpList Try.prog ops Q (o :: rest) a w := by
  subst hZ hL
  obtain ⟨b, off, rfl, _, hf⟩ := hp (by omega)
  refine wpList_plain hgd fun K hK => ?_
  obtain ⟨q, hi, hz0, hz1, hz2⟩ := info_parts infoR
  have hl := run_loadCells_list (P := Try.prog) w ⟨b, off, none⟩ (flatP L) (newsP (C := C) hf)
  have hst := run_storeCells_at Try.prog g 0 t (flatP L) 0 (flatP Z).toArray w hg (by simp [flatP_len]; omega) oneP
  have hrow : (((flatP Z).toArray.toList.take (0 + 0) ++ flatP L ++ (flatP Z).toArray.toList.drop (0 + 0 + (flatP L).length)).toArray) = (flatP (L ++ Z.drop L.length)).toArray := by
    simp only [Nat.zero_add, List.take_zero, List.nil_append, flatP_len, flatP_drop, flatP_append]
  rw [hrow] at hst
  rw [flatP_len] at hl
  have hmin : Nat.min L.length Z.length = L.length := Nat.min_eq_left hle
  have hrun : ∀ ty, (Builtin.copy_ #[22, 22] ty #[.slice (some ⟨g, 0, none⟩) Z.length dCap, .slice (some ⟨b, off, none⟩) L.length sCap]).run Try.prog w = .ok (goInt L.length) (w.setRow g (flatP (L ++ Z.drop L.length)).toArray) := fun ty => by
    simp [Builtin.copy_, run_underlying Try.underlying22, Builtin.lenOf, Builtin.firstCells, sizeOf, typeInfo, hi, hz1, hmin, hl, hst]
  unfold Oper.wp
  simp [execOp, ho, resolve, invoke, builtin, hd, hs, hrun, Result.andThen]
  exact hK _ _ h
set_option maxHeartbeats 2000000 in
set_option maxRecDepth 100000 in
/-- The places laid anew: of a ring that is full. -/
theorem grow_m {A : Option Addr} {r : Rng} {B g : Nat} (c : Nat) (w : World) (hp : PAt w B A r.buf) (hB : B ≤ w.heap.size) (ho : Off A g) (hx : Held w g 49 (rgc A r.buf.length c r.head r.many r.most)) (hmay : mayR r = true) (hfull : r.many = r.buf.length) (hlt : r.many < r.most) :
    Calls Try.prog 35 #[.pointer (some ⟨g, 0, none⟩)] w fun e w' => e = .returned (.tuple #[]) ∧ ∃ A' c', Held w' g 49 (rgc A' (roomR r).buf.length c' (roomR r).head (roomR r).many (roomR r).most) ∧ OwnR w' w.heap.size (.slice A' (roomR r).buf.length c') (roomR r).buf ∧ w.grownBy w' (some g) := by
  have hll := items_len hmay
  have hrm : roomR r = ⟨itemsR r ++ List.replicate ((min (2 * r.many) r.most).toNat - (itemsR r).length) (0, 0), 0, r.many, r.most⟩ := if_pos hfull
  rw [hrm]
  clear hrm
  have CI := fun W (hb : Below w.heap.size w W) => items_r (r := r) c W (hp.below hb hB) (Nat.le_trans hB hb.size)
  obtain ⟨b, hd, m, t, rfl, h1, h2, h3, h4, h5, h6⟩ := ring_nat hmay
  simp only at *
  generalize itemsR ⟨b, hd, m, t⟩ = L at *
  obtain rfl : L.length = m := by omega
  have hbl : b.length = L.length := by omega
  obtain ⟨N, hN⟩ : ∃ N : Nat, N = min (2 * L.length) t := ⟨_, rfl⟩
  have hNN : min (2 * (L.length : Int)) t = N := by omega
  rw [hNN, Int.toNat_natCast]
  have hbuf : (L ++ List.replicate (N - L.length) ((0, 0) : P2)).length = N := by rw [List.length_append, List.length_replicate]; omega
  rw [hbuf]
  have MK := fun W => make_rs (n := N) (by omega) W
  have hlt2 := hx.lt
  have x0 := hx.cell 0
  have x1 := hx.cell 1
  have x2 := hx.cell 2
  have x3 := hx.cell 3
  simp at x0 x1 x2 x3
  have g0 := fun d os => cell_regrown x0 d os
  have g3 := fun d os => cell_regrown x3 d os
  have hb0 : (0 : Int) ≤ (b.length : Int) := Int.natCast_nonneg _
  have hb1 : (b.length : Int) ≤ 1024 := by omega
  have HB := Lib.hid (And.intro hbl (And.intro h3 (And.intro (show L.length ≤ N by omega) (show N ≤ 1024 by omega))))
  have hmin : (if (t : Int) < 2 * (b.length : Int) then (t : Int) else 2 * (b.length : Int)) = (N : Int) := by split <;> omega
  clear x0 x1 x2 x3 hfull hlt hN hNN hbuf h1 h2 h3 h4 h5 h6 hp hB hmay hbl hll
  go_enter Try.func35, Try.ntmps35
  go_upto_region 0 with (fail)
  refine wp_region_below_tail 13 (by kernel_rfl) (by kernel_rfl) ?_
  simp only [List.take_succ_cons, List.take_zero, List.drop_succ_cons, List.drop_zero]
  repeat (first
    | go_big_quiet_step ((fail))
    | quiet_step ((fail)))
  refine wpQuiet_nil ?_
  intro v hv
  have hbu := below_of_regrown hv
  clear hv g0 g3
  go_upto_region 1 with (fail)
  have hbm : Below v.heap.size v (v.alloc (.cells (zeroR N) 33)) := (Below.refl _ _).alloc (Nat.le_refl _) _
  have hbw := Below.step hbu hbm
  have hx1 := hx.below hbw
  have hz1 := Held.new v 33 (zeroR N)
  have hgv : w.heap.size ≤ v.heap.size := hbu.size
  have CI1 := Lib.hid (CI _ hbw)
  have HGV := Lib.hid hgv
  have HBW := Lib.hid hbw
  clear hbm hbw hbu hx CI MK hgv hmin
  generalize v.alloc (.cells (zeroR N) 33) = W1 at *
  generalize v.heap.size = gz at *
  have x0 := hx1.cell 0
  have x1 := hx1.cell 1
  have x2 := hx1.cell 2
  have x3 := hx1.cell 3
  simp at x0 x1 x2 x3
  go_upto_region 2 with (first
    | (go_at_call 23; (with_reducible refine CI1.out.mono ?_); rintro _ u ⟨A5, c5, rfl, hol, hbu⟩; have hz2 := hz1.below hbu; have hx2 := hx1.below hbu; have HOL := Lib.hid (own2_at hol); have HBU := Lib.hid (And.intro hbu hol))
    | (guard_target = wpList _ _ _ (Oper.mk (some 23) _ _ _ _ _ :: _) _ _; (refine wpList_copy_rs rfl _ _ rfl (Z := List.replicate N (0, 0)) (L := L) rfl rfl (by simp) rfl (by have := HB.out; omega) (by rw [List.length_replicate]; exact HB.out.2.2.1) hz2 HOL.out ?_)))
  have hne : g ≠ gz := by have := HGV.out; omega
  have hx3 := held_row hx2 hne (flatP (L ++ List.drop L.length (List.replicate N (0, 0)))).toArray
  have hz3 := held_rowSelf hz2 (flatP (L ++ List.drop L.length (List.replicate N (0, 0)))).toArray
  have hg3 : w.grownBy (u.setRow gz (flatP (L ++ List.drop L.length (List.replicate N (0, 0)))).toArray) (some g) := grown_of_below (below_setRow (Below.step HBW.out hbu) HGV.out _) _
  rw [List.drop_replicate] at hx3 hz3 hg3 ⊢
  clear hx1 hx2 hz1 hz2 hol hbu x0 x1 x2 x3
  generalize u.setRow gz (flatP (L ++ List.replicate (N - L.length) (0, 0))).toArray = W2 at *
  have y0 := hx3.cell 0
  have y1 := hx3.cell 1
  have z0 := hx3.fz 0
  have z1 := hx3.fz 1
  simp at y0 y1
  have HZ3 := Lib.hid hz3
  clear hz3
  go_wp2_with fail
  have hx4 := (hx3.set_at 0 (.slice (some ⟨gz, 0, none⟩) N N)).set_at 1 (.int .i64 0)
  have hg4 := grown_at (grown_at hg3 0 (.slice (some ⟨gz, 0, none⟩) N N)) 1 (.int .i64 0)
  have hz4 := (HZ3.out.far (Ne.symm hne) 0 (.slice (some ⟨gz, 0, none⟩) N N)).far (Ne.symm hne) 1 (.int .i64 0)
  go_end0
  refine ⟨rfl, some ⟨gz, 0, none⟩, N, hx4, ?_, hg4⟩
  have hlen : (L ++ List.replicate (N - L.length) ((0, 0) : P2)).length = N := by rw [List.length_append, List.length_replicate]; have := HB.out; omega
  have := own2_held (B := w.heap.size) hz4 HGV.out (by rw [hlen]; have := HB.out; omega)
  rwa [hlen] at this
end Go.Proofs.Ythmnaclmbglkdaa
