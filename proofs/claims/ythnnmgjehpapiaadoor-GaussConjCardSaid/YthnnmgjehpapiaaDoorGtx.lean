/- Layer 4's code: texts of values, at every input, where the library's table of powers of ten is laid. -/
import Derived.Test.YthnnmgjehpapiaaDoorGcj
import Derived.Test.YthnnmgjehpapiaaDoorShelf
import Derived.Lib.AppendIntMem
namespace Go.Proofs.YthnnmgjehpapiaaDoor
set_option linter.unusedVariables false
set_option linter.unusedSimpArgs false
open Go.RowKit Go.ChangeShapes Go.WideShapes Go.ChangeAt Gm Fl Go.Sort

/-- The library's table of powers of ten is laid. -/
def Tab (W : World) : Prop := Lib.TabIs Tryd.prog W "internal/strconv.uint64pow10" .u64 Lib.pow10Tab
theorem Tab.below {w w' : World} (h : Tab w) (hb : Below w.heap.size w w') : Tab w' := Lib.tabBelow_of_tabIs h w' hb
theorem Tab.regrown {w : World} (h : Tab w) (d : Nat) (os : Array Obj) : Tab (grow (redrawn w d) os) := h.below (below_regrown w d os)

theorem ret_str {a b : ByteArray} (h : a = b) : Ending.returned (.string a) = .returned (.string b) := by rw [h]

theorem itoa_dig : ∀ n, n < 251 → Lib.itoa (n : Nat) = digN n := by
  intro n hn
  have h1 : Lib.itoa (n : Nat) = Lib.decDigits n := by unfold Lib.itoa; rw [if_neg (by omega), Int.toNat_natCast]
  rw [h1]
  unfold digN
  rw [Lib.decDigits]
  split
  · rfl
  · rw [Lib.decDigits]
    split
    · rw [if_pos (by omega)]; rfl
    · rw [Lib.decDigits, dif_pos (by omega), if_neg (by omega)]
      rw [show n / 10 / 10 = n / 100 by omega]; rfl
theorem digN_len (n : Nat) : (digN n).length ≤ 3 := by unfold digN; split <;> (try split) <;> simp

theorem itoa_in (n : Int) (h0 : 0 ≤ n) (h1 : n < 251) (W : World) (hT : Tab W) : Calls Tryd.prog 33 #[.int .i64 n] W fun e w' => e = .returned (.string ⟨(digN n.toNat).toArray⟩) ∧ Below W.heap.size W w' := by
  obtain ⟨m, rfl⟩ := Int.eq_ofNat_of_zero_le h0
  refine (Tryd.strconv_Itoa m (by omega) (by omega) W hT).mono fun e w' ⟨he, k, os, hw⟩ => ⟨?_, ?_⟩
  · rw [he, itoa_dig m (by omega), Int.toNat_natCast]
  · rw [hw]; exact below_regrown W (W.drawn + k) os

set_option maxHeartbeats 1000000 in
set_option maxRecDepth 100000 in
theorem text_any (a b : Int) (w : World) (hT : Tab w) : Calls Tryd.prog 23 #[.agg #[.int .i64 a, .int .i64 b]] w fun e w' => e = .returned (.string ⟨(gText (a, b)).toArray⟩) ∧ Below w.heap.size w w' := by
  have C := fun n m W => Lib.hid (gof_any n m W)
  have ra := rs_bd a
  have rb := rs_bd b
  have C1 := fun W h => Lib.hid (itoa_in (rs a) ra.1 ra.2 W h)
  have C2 := fun W h => Lib.hid (itoa_in (rs b) rb.1 rb.2 W h)
  have hg : gText (a, b) = digN (rs a).toNat ++ 43 :: (digN (rs b).toNat ++ [105]) := rfl
  have l1 := digN_len (rs a).toNat
  have l2 := digN_len (rs b).toNat
  generalize digN (rs a).toNat = s at *
  generalize digN (rs b).toNat = t at *
  have HG := Lib.hid hg
  clear hg ra rb
  go_enter Tryd.func23, Tryd.ntmps23
  go_wp2_with (go_at_call 27; (with_reducible refine (C _ _ _).out.mono ?_); rintro e v ⟨rfl, hb⟩; have hx := (Held.new w _ _).below hb; have hw := Below.step ((Below.refl _ _).alloc (Nat.le_refl _) _) hb; clear hb; obtain ⟨c0, c1, f0, f1⟩ := hx.two)
  replace hx := hx.set (.int .i64 (rs a)) (.int .i64 (rs b))
  replace hw := set2b (k := w.heap.size) (x := .int .i64 (rs a)) (y := .int .i64 (rs b)) (Nat.le_refl _) hw
  generalize (v.setCell _ _).setCell _ _ = W2 at hx hw ⊢
  replace hT := hT.below hw
  clear c0 c1 f0 f1
  obtain ⟨c0, c1, _, _⟩ := hx.two
  have g0 := fun d os => cell_regrown c0 d os
  have g1 := fun d os => cell_regrown c1 d os
  have HT := fun d os => hT.regrown d os
  clear c0 c1
  refine wp_region_quiet_below (by kernel_rfl) (by kernel_rfl) ?_
  repeat (first
    | go_big_quiet_step ((first
        | (go_at_call 33; (with_reducible exact Calls.regrown_of (C1 _ (HT _ _)).out))
        | (go_at_call 33; (with_reducible exact Calls.regrown_of (C2 _ (HT _ _)).out))))
    | quiet_step ((first
        | (go_at_call 33; (with_reducible exact Calls.regrown_of (C1 _ (HT _ _)).out))
        | (go_at_call 33; (with_reducible exact Calls.regrown_of (C2 _ (HT _ _)).out)))))
  refine wpQuiet_nil ?_
  intro v2 hv
  have hb := below_of_regrown hv
  clear hv g0 g1 HT
  go_wp2_with fail
  go_ret
  refine ⟨ret_str ?_, Below.step hw hb⟩
  rw [HG.out]
  apply ByteArray.ext
  simp
end Go.Proofs.YthnnmgjehpapiaaDoor
