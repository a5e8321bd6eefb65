/- Layer 10: SeqWraps: a program that spawns another one's first function with its arguments, and joins it, tells what that tells of the seed of its first child, some instructions on. For all programs, arguments, seeds. -/
import Derived.Test.YtagjddnpaahebaaGreatDoorzSh
import Derived.Test.YtagjddnpaahebaaGreatDoorzSo
import Derived.Test.YtagjddnpaahebaaGreatDoorzGv
import Derived.Test.YtagjddnpaahebaaGreatDoorzSr
import Derived.Test.YtagjddnpaahebaaGreatDoorzSb
import Derived.Deep.RegionHeld3
namespace Go.Proofs.YtagjddnpaahebaaGreatDoor.seqWraps
set_option linter.unusedVariables false
set_option linter.unusedSimpArgs false
open Gm Go.RowKit Go.ChangeShapes Go.WideShapes Go.ChangeAt Go.Sort

theorem num1 (k : Nat) : Value.int .i64 ((k : Int) + 1) = Value.int .i64 ((k + 1 : Nat) : Int) := rfl
theorem meas_lt {k n : Nat} (h : k < n) : n - (intOf (.int .i64 ((k : Int) + 1))).toNat < n - (intOf (.int .i64 k)).toNat := by simp [intOf]; omega
theorem lt_cast {i n m : Nat} (h : i < n) (e : n = m) : (i : Int) < (m : Int) := by omega
theorem le_tr {n m k M : Nat} (e : n = m) (h : m ≤ k) (hk : k ≤ M) : n ≤ M := by omega
theorem wrap_al3 {n : Nat} (h : n ≤ 8) : wrap64 ((n : Int) + 3) = (n : Int) + 3 := by unfold wrap64; omega
theorem wrap_al2 {n : Nat} (h : n ≤ 8) : wrap64 ((n : Int) + 3 - 1) = (n : Int) + 2 := by unfold wrap64; omega
theorem wrap_n3 {n : Int} {a : Nat} (h : 0 ≤ n) (h2 : n ≤ 2000) (h3 : a ≤ 8) : wrap64 (n + ((a : Int) + 3)) = n + ((a : Int) + 3) := by unfold wrap64; omega
theorem wrap_n2 {n : Int} {a : Nat} (h : 0 ≤ n) (h2 : n ≤ 2000) (h3 : a ≤ 8) : wrap64 (n + ((a : Int) + 2)) = n + ((a : Int) + 2) := by unfold wrap64; omega
theorem wrap_small {a : Int} (h : 0 ≤ a) (h2 : a ≤ 15) : wrap64 (a + 1) = a + 1 := by unfold wrap64; omega
theorem sized_mv {p : List Fun} {n : Nat} (h : SizedP p) (hn : n ≤ 8) (hp : p.length ≤ 15) : SizedP (mvP (mainW n) p) := by
  refine ⟨?_, fun f hf => ?_⟩
  · unfold mvP maxLen
    rw [List.length_cons, List.length_map]
    omega
  · rcases List.mem_cons.1 hf with rfl | hf
    · rw [mainW_code, List.length_append, mainW_len]
      unfold maxLen
      show n + 3 ≤ _
      omega
    · obtain ⟨q, hq, rfl⟩ := List.mem_map.1 hf
      have := h.2 q hq
      show (q.code.map mvI).length ≤ _
      rw [List.length_map]
      exact this
theorem wrap_succ {k n : Nat} (h : k < n) (hn : n ≤ maxLen) : wrap64 ((k : Int) + 1) = (k : Int) + 1 := by unfold wrap64; unfold maxLen at hn; omega
set_option maxHeartbeats 8000000 in
set_option maxRecDepth 100000 in
theorem good {A A2 : Option Addr} {p : List Fun} {args : List V} (c c2 : Nat) (s : Int) (w : World) (hT : TabB w w.heap.size) (h : ProgAt w w.heap.size A p) (hz : SizedP p) (ha : VAt w w.heap.size A2 args) {X : Bool} (hX : X = false → args.length ≤ 8 ∧ p.length ≤ 15 ∧ ∀ f ∈ p, 1 ≤ f.code.length ∧ f.code.length ≤ 200 ∧ ∀ x ∈ f.code, x.1 = 13 → 0 ≤ x.2.1 ∧ x.2.1 ≤ 15)
    {a0 a1 a2 n e b0 b1 b2 m g : Int} (hR : evalP p args (useZ s 1 0) 2000 = ((a0, (a1, a2)), n, e)) (hQ : evalP (mvP (mainW args.length) p) args s 2100 = ((b0, (b1, b2)), m, g))
    (hE : X = false → (e = 1 ∧ g = 1) ∨ (e = 100 ∧ (g = 100 ∨ (2000 < m ∧ g = 0))) ∨ (e = 0 ∧ g = 0 ∧ b0 = a0 ∧ b1 = a1 ∧ b2 = a2 ∧ 0 ≤ n ∧ n ≤ 2000 ∧ m = n + (args.length + (if a0 = 0 then 3 else 2))))
    (hC : ((smallP p 300 && decide (args.length ≤ 40)) = false ∧ X = true) ∨ ((smallP p 300 && decide (args.length ≤ 40)) = true ∧ smallP p 250 = false ∧ X = true) ∨ ((smallP p 300 && decide (args.length ≤ 40)) = true ∧ smallP p 250 = true ∧ decide (15 < (p.length : Int)) = true ∧ X = true) ∨ ((smallP p 300 && decide (args.length ≤ 40)) = true ∧ smallP p 250 = true ∧ decide (15 < (p.length : Int)) = false ∧ ((checkP p).2.2 == 0) = false ∧ X = true) ∨ ((smallP p 300 && decide (args.length ≤ 40)) = true ∧ smallP p 250 = true ∧ decide (15 < (p.length : Int)) = false ∧ ((checkP p).2.2 == 0) = true ∧ isZ s = false ∧ X = true) ∨ ((smallP p 300 && decide (args.length ≤ 40)) = true ∧ smallP p 250 = true ∧ decide (15 < (p.length : Int)) = false ∧ ((checkP p).2.2 == 0) = true ∧ isZ s = true ∧ decide (8 < (args.length : Int)) = true ∧ X = true) ∨ ((smallP p 300 && decide (args.length ≤ 40)) = true ∧ smallP p 250 = true ∧ decide (15 < (p.length : Int)) = false ∧ ((checkP p).2.2 == 0) = true ∧ isZ s = true ∧ decide (8 < (args.length : Int)) = false ∧ ∃ h : 0 < p.length, ((args.length : Int) != p[0].ar) = X)) :
    Calls Tryz.prog 7 #[.agg (inpA A p.length c A2 args.length c2 s)] w fun e w' => e = .returned (.bool true) ∧ Below w.heap.size w w' := by
  have hC2 : ((smallP p 300 && decide (args.length ≤ 40)) = false ∧ X = true) ∨ ((smallP p 300 && decide (args.length ≤ 40)) = true ∧ smallP p 250 = false ∧ X = true) ∨ ((smallP p 300 && decide (args.length ≤ 40)) = true ∧ smallP p 250 = true ∧ decide (15 < (p.length : Int)) = true ∧ X = true) ∨ ((smallP p 300 && decide (args.length ≤ 40)) = true ∧ smallP p 250 = true ∧ decide (15 < (p.length : Int)) = false ∧ ((checkP p).2.2 == 0) = false ∧ X = true) ∨ ((smallP p 300 && decide (args.length ≤ 40)) = true ∧ smallP p 250 = true ∧ decide (15 < (p.length : Int)) = false ∧ ((checkP p).2.2 == 0) = true ∧ isZ s = false ∧ X = true) ∨ ((smallP p 300 && decide (args.length ≤ 40)) = true ∧ smallP p 250 = true ∧ decide (15 < (p.length : Int)) = false ∧ ((checkP p).2.2 == 0) = true ∧ isZ s = true ∧ decide (8 < (args.length : Int)) = true ∧ X = true) ∨ ((smallP p 300 && decide (args.length ≤ 40)) = true ∧ smallP p 250 = true ∧ decide (15 < (p.length : Int)) = false ∧ ((checkP p).2.2 == 0) = true ∧ isZ s = true ∧ decide (8 < (args.length : Int)) = false ∧ 0 < p.length ∧ ∃ b off, A = some ⟨b, off, none⟩ ∧ b < w.heap.size ∧ ∃ a : Int, w.cell? ⟨b, off, none⟩ = some (.int .i64 a) ∧ ((args.length : Int) != a) = X) := by
    rcases hC with h1 | h1 | h1 | h1 | h1 | h1 | ⟨g1, g2, g3, g4, g5, g6, hlen, hv3⟩
    · exact .inl h1
    · exact .inr (.inl h1)
    · exact .inr (.inr (.inl h1))
    · exact .inr (.inr (.inr (.inl h1)))
    · exact .inr (.inr (.inr (.inr (.inl h1))))
    · exact .inr (.inr (.inr (.inr (.inr (.inl h1)))))
    · obtain ⟨b, off, rfl, hbl, hc⟩ := h hlen
      obtain ⟨k0, _⟩ := hc 0 hlen
      exact .inr (.inr (.inr (.inr (.inr (.inr ⟨g1, g2, g3, g4, g5, g6, hlen, b, off, rfl, hbl, _, by simpa using k0, hv3⟩)))))
  clear hC
  have HC2 := Lib.hid hC2
  clear hC2
  have hw0 : Below w.heap.size w (w.alloc (.cells (inpA A p.length c A2 args.length c2 s) 26)) := (Below.refl _ _).alloc (Nat.le_refl _) _
  have hI := Held.new w 26 (inpA A p.length c A2 args.length c2 s)
  have bg := fun d os => hw0.trans ((below_regrown (w.alloc (.cells (inpA A p.length c A2 args.length c2 s) 26)) d os).mono hw0.size)
  have F10 := fun d os => Lib.hid (fixed10 (grow (redrawn (w.alloc (.cells (inpA A p.length c A2 args.length c2 s) 26)) d) os) ((hT.below (bg d os) (Nat.le_refl _)).more (bg d os).size))
  have SM := fun d os => Lib.hid (small10 (A2 := A2) c args.length c2 s (grow (redrawn (w.alloc (.cells (inpA A p.length c A2 args.length c2 s) 26)) d) os) ((h.below (bg d os) (Nat.le_refl _)).more (bg d os).size))
  have S2 := fun d os => Lib.hid (psmall_any c 250 (grow (redrawn (w.alloc (.cells (inpA A p.length c A2 args.length c2 s) 26)) d) os) ((h.below (bg d os) (Nat.le_refl _)).more (bg d os).size))
  have GD := fun d os => Lib.hid (rgood_any c (grow (redrawn (w.alloc (.cells (inpA A p.length c A2 args.length c2 s) 26)) d) os) ((h.below (bg d os) (Nat.le_refl _)).more (bg d os).size) hz (Nat.le_refl _))
  have IS5 := fun W => Lib.hid (is_any s W)
  have FX := fun W (hw : Below w.heap.size w W) => Lib.hid (fixed10 W ((hT.below hw (Nat.le_refl _)).more hw.size))
  have HT := Lib.hid hT
  have HP := Lib.hid h
  have HZ := Lib.hid hz
  have HA := Lib.hid ha
  have HX := Lib.hid hX
  have HR := Lib.hid hR
  have HQ := Lib.hid hQ
  have HEE := Lib.hid hE
  clear hT h hz ha bg hX hR hQ hE
  generalize hpl : p.length = pl at *
  have HPLE := Lib.hid hpl
  generalize hal : args.length = al at *
  have HALE := Lib.hid hal
  clear hal hpl
  go_enter Tryz.func7, Tryz.ntmps7
  go_upto_region 1 with (guard_target = wpList _ _ _ (Oper.mk _ (Op.box 26 _) _ _ _ none :: _) _ _; refine wpList_box_arr rfl 26 (.tmp 0) rfl (inpA A pl c A2 al c2 s) rfl ?_)
  generalize w.alloc (.cells (inpA A pl c A2 al c2 s) 26) = W1 at *
  go_cut [64] from 17 to 64 (fun v64 wx => v64 = .bool X ∧ Below W1.heap.size W1 wx)
  case first =>
    have hC2 := HC2.out
    have i0 := hI.cell 0
    have i1 := hI.cell 1
    have i2 := hI.cell 2
    simp at i0 i1 i2
    have g0 := fun d os => cell_regrown i0 d os
    have g1 := fun d os => cell_regrown i1 d os
    have g2 := fun d os => cell_regrown i2 d os
    clear i0 i1 i2 hI FX HT HP HZ HA HC2
    generalize hck : ((checkP p).2.2 == 0) = ck at *
    generalize hs1 : (smallP p 300 && decide (al ≤ 40)) = b1 at *
    generalize hs2 : smallP p 250 = b2 at *
    generalize hiz : isZ s = iz at *
    refine wp_region_quiet_below (by kernel_rfl) (by kernel_rfl) ?_
    rcases hC2 with ⟨rfl, rfl⟩ | ⟨rfl, rfl, rfl⟩ | ⟨rfl, rfl, e3, rfl⟩ | ⟨rfl, rfl, e3, rfl, rfl⟩ | ⟨rfl, rfl, e3, rfl, rfl, rfl⟩ | ⟨rfl, rfl, e3, rfl, rfl, e6, rfl⟩ | ⟨rfl, rfl, e3, rfl, rfl, e6, hlen, b, off, rfl, hbl, a, k0, hne⟩
    · (repeat go_big_quiet_step ((first
            | (go_at_call 9; (with_reducible exact Calls.regrown_of (F10 _ _).out))
            | (go_at_call 8; (with_reducible exact Calls.regrown_of (SM _ _).out))
            | (go_at_call 18; (with_reducible exact Calls.regrown_same (S2 _ _).out))
            | (go_at_call 12; (with_reducible exact Calls.regrown_of (GD _ _).out))
            | (go_at_call 13; (with_reducible exact Calls.regrown_same (IS5 _).out)))))
      (repeat (first
          | go_big_quiet_step ((first
            | (go_at_call 9; (with_reducible exact Calls.regrown_of (F10 _ _).out))
            | (go_at_call 8; (with_reducible exact Calls.regrown_of (SM _ _).out))
            | (go_at_call 18; (with_reducible exact Calls.regrown_same (S2 _ _).out))
            | (go_at_call 12; (with_reducible exact Calls.regrown_of (GD _ _).out))
            | (go_at_call 13; (with_reducible exact Calls.regrown_same (IS5 _).out))))
          | quiet_step ((first
            | (go_at_call 9; (with_reducible exact Calls.regrown_of (F10 _ _).out))
            | (go_at_call 8; (with_reducible exact Calls.regrown_of (SM _ _).out))
            | (go_at_call 18; (with_reducible exact Calls.regrown_same (S2 _ _).out))
            | (go_at_call 12; (with_reducible exact Calls.regrown_of (GD _ _).out))
            | (go_at_call 13; (with_reducible exact Calls.regrown_same (IS5 _).out))))))
      refine wpQuiet_nil ?_
      intro U hv
      have hbU := below_of_regrown hv
      go_wp2_with fail
      go_meet
      exact ⟨rfl, hbU⟩
    · (repeat go_big_quiet_step ((first
            | (go_at_call 9; (with_reducible exact Calls.regrown_of (F10 _ _).out))
            | (go_at_call 8; (with_reducible exact Calls.regrown_of (SM _ _).out))
            | (go_at_call 18; (with_reducible exact Calls.regrown_same (S2 _ _).out))
            | (go_at_call 12; (with_reducible exact Calls.regrown_of (GD _ _).out))
            | (go_at_call 13; (with_reducible exact Calls.regrown_same (IS5 _).out)))))
      (repeat (first
          | go_big_quiet_step ((first
            | (go_at_call 9; (with_reducible exact Calls.regrown_of (F10 _ _).out))
            | (go_at_call 8; (with_reducible exact Calls.regrown_of (SM _ _).out))
            | (go_at_call 18; (with_reducible exact Calls.regrown_same (S2 _ _).out))
            | (go_at_call 12; (with_reducible exact Calls.regrown_of (GD _ _).out))
            | (go_at_call 13; (with_reducible exact Calls.regrown_same (IS5 _).out))))
          | quiet_step ((first
            | (go_at_call 9; (with_reducible exact Calls.regrown_of (F10 _ _).out))
            | (go_at_call 8; (with_reducible exact Calls.regrown_of (SM _ _).out))
            | (go_at_call 18; (with_reducible exact Calls.regrown_same (S2 _ _).out))
            | (go_at_call 12; (with_reducible exact Calls.regrown_of (GD _ _).out))
            | (go_at_call 13; (with_reducible exact Calls.regrown_same (IS5 _).out))))))
      refine wpQuiet_nil ?_
      intro U hv
      have hbU := below_of_regrown hv
      go_wp2_with fail
      go_meet
      exact ⟨rfl, hbU⟩
    · (repeat go_big_quiet_step ((first
            | (go_at_call 9; (with_reducible exact Calls.regrown_of (F10 _ _).out))
            | (go_at_call 8; (with_reducible exact Calls.regrown_of (SM _ _).out))
            | (go_at_call 18; (with_reducible exact Calls.regrown_same (S2 _ _).out))
            | (go_at_call 12; (with_reducible exact Calls.regrown_of (GD _ _).out))
            | (go_at_call 13; (with_reducible exact Calls.regrown_same (IS5 _).out)))))
      (try rw [e3])
      (repeat go_big_quiet_step ((first
            | (go_at_call 9; (with_reducible exact Calls.regrown_of (F10 _ _).out))
            | (go_at_call 8; (with_reducible exact Calls.regrown_of (SM _ _).out))
            | (go_at_call 18; (with_reducible exact Calls.regrown_same (S2 _ _).out))
            | (go_at_call 12; (with_reducible exact Calls.regrown_of (GD _ _).out))
            | (go_at_call 13; (with_reducible exact Calls.regrown_same (IS5 _).out)))))
      (repeat (first
          | go_big_quiet_step ((first
            | (go_at_call 9; (with_reducible exact Calls.regrown_of (F10 _ _).out))
            | (go_at_call 8; (with_reducible exact Calls.regrown_of (SM _ _).out))
            | (go_at_call 18; (with_reducible exact Calls.regrown_same (S2 _ _).out))
            | (go_at_call 12; (with_reducible exact Calls.regrown_of (GD _ _).out))
            | (go_at_call 13; (with_reducible exact Calls.regrown_same (IS5 _).out))))
          | quiet_step ((first
            | (go_at_call 9; (with_reducible exact Calls.regrown_of (F10 _ _).out))
            | (go_at_call 8; (with_reducible exact Calls.regrown_of (SM _ _).out))
            | (go_at_call 18; (with_reducible exact Calls.regrown_same (S2 _ _).out))
            | (go_at_call 12; (with_reducible exact Calls.regrown_of (GD _ _).out))
            | (go_at_call 13; (with_reducible exact Calls.regrown_same (IS5 _).out))))))
      refine wpQuiet_nil ?_
      intro U hv
      have hbU := below_of_regrown hv
      go_wp2_with fail
      go_meet
      exact ⟨rfl, hbU⟩
    · (repeat go_big_quiet_step ((first
            | (go_at_call 9; (with_reducible exact Calls.regrown_of (F10 _ _).out))
            | (go_at_call 8; (with_reducible exact Calls.regrown_of (SM _ _).out))
            | (go_at_call 18; (with_reducible exact Calls.regrown_same (S2 _ _).out))
            | (go_at_call 12; (with_reducible exact Calls.regrown_of (GD _ _).out))
            | (go_at_call 13; (with_reducible exact Calls.regrown_same (IS5 _).out)))))
      (try rw [e3])
      (repeat go_big_quiet_step ((first
            | (go_at_call 9; (with_reducible exact Calls.regrown_of (F10 _ _).out))
            | (go_at_call 8; (with_reducible exact Calls.regrown_of (SM _ _).out))
            | (go_at_call 18; (with_reducible exact Calls.regrown_same (S2 _ _).out))
            | (go_at_call 12; (with_reducible exact Calls.regrown_of (GD _ _).out))
            | (go_at_call 13; (with_reducible exact Calls.regrown_same (IS5 _).out)))))
      (repeat (first
          | go_big_quiet_step ((first
            | (go_at_call 9; (with_reducible exact Calls.regrown_of (F10 _ _).out))
            | (go_at_call 8; (with_reducible exact Calls.regrown_of (SM _ _).out))
            | (go_at_call 18; (with_reducible exact Calls.regrown_same (S2 _ _).out))
            | (go_at_call 12; (with_reducible exact Calls.regrown_of (GD _ _).out))
            | (go_at_call 13; (with_reducible exact Calls.regrown_same (IS5 _).out))))
          | quiet_step ((first
            | (go_at_call 9; (with_reducible exact Calls.regrown_of (F10 _ _).out))
            | (go_at_call 8; (with_reducible exact Calls.regrown_of (SM _ _).out))
            | (go_at_call 18; (with_reducible exact Calls.regrown_same (S2 _ _).out))
            | (go_at_call 12; (with_reducible exact Calls.regrown_of (GD _ _).out))
            | (go_at_call 13; (with_reducible exact Calls.regrown_same (IS5 _).out))))))
      refine wpQuiet_nil ?_
      intro U hv
      have hbU := below_of_regrown hv
      go_wp2_with fail
      go_meet
      exact ⟨rfl, hbU⟩
    · (repeat go_big_quiet_step ((first
            | (go_at_call 9; (with_reducible exact Calls.regrown_of (F10 _ _).out))
            | (go_at_call 8; (with_reducible exact Calls.regrown_of (SM _ _).out))
            | (go_at_call 18; (with_reducible exact Calls.regrown_same (S2 _ _).out))
            | (go_at_call 12; (with_reducible exact Calls.regrown_of (GD _ _).out))
            | (go_at_call 13; (with_reducible exact Calls.regrown_same (IS5 _).out)))))
      (try rw [e3])
      (repeat go_big_quiet_step ((first
            | (go_at_call 9; (with_reducible exact Calls.regrown_of (F10 _ _).out))
            | (go_at_call 8; (with_reducible exact Calls.regrown_of (SM _ _).out))
            | (go_at_call 18; (with_reducible exact Calls.regrown_same (S2 _ _).out))
            | (go_at_call 12; (with_reducible exact Calls.regrown_of (GD _ _).out))
            | (go_at_call 13; (with_reducible exact Calls.regrown_same (IS5 _).out)))))
      (repeat (first
          | go_big_quiet_step ((first
            | (go_at_call 9; (with_reducible exact Calls.regrown_of (F10 _ _).out))
            | (go_at_call 8; (with_reducible exact Calls.regrown_of (SM _ _).out))
            | (go_at_call 18; (with_reducible exact Calls.regrown_same (S2 _ _).out))
            | (go_at_call 12; (with_reducible exact Calls.regrown_of (GD _ _).out))
            | (go_at_call 13; (with_reducible exact Calls.regrown_same (IS5 _).out))))
          | quiet_step ((first
            | (go_at_call 9; (with_reducible exact Calls.regrown_of (F10 _ _).out))
            | (go_at_call 8; (with_reducible exact Calls.regrown_of (SM _ _).out))
            | (go_at_call 18; (with_reducible exact Calls.regrown_same (S2 _ _).out))
            | (go_at_call 12; (with_reducible exact Calls.regrown_of (GD _ _).out))
            | (go_at_call 13; (with_reducible exact Calls.regrown_same (IS5 _).out))))))
      refine wpQuiet_nil ?_
      intro U hv
      have hbU := below_of_regrown hv
      go_wp2_with fail
      go_meet
      exact ⟨rfl, hbU⟩
    · (repeat go_big_quiet_step ((first
            | (go_at_call 9; (with_reducible exact Calls.regrown_of (F10 _ _).out))
            | (go_at_call 8; (with_reducible exact Calls.regrown_of (SM _ _).out))
            | (go_at_call 18; (with_reducible exact Calls.regrown_same (S2 _ _).out))
            | (go_at_call 12; (with_reducible exact Calls.regrown_of (GD _ _).out))
            | (go_at_call 13; (with_reducible exact Calls.regrown_same (IS5 _).out)))))
      (try rw [e3])
      (repeat go_big_quiet_step ((first
            | (go_at_call 9; (with_reducible exact Calls.regrown_of (F10 _ _).out))
            | (go_at_call 8; (with_reducible exact Calls.regrown_of (SM _ _).out))
            | (go_at_call 18; (with_reducible exact Calls.regrown_same (S2 _ _).out))
            | (go_at_call 12; (with_reducible exact Calls.regrown_of (GD _ _).out))
            | (go_at_call 13; (with_reducible exact Calls.regrown_same (IS5 _).out)))))
      (try rw [e6])
      (repeat go_big_quiet_step ((first
            | (go_at_call 9; (with_reducible exact Calls.regrown_of (F10 _ _).out))
            | (go_at_call 8; (with_reducible exact Calls.regrown_of (SM _ _).out))
            | (go_at_call 18; (with_reducible exact Calls.regrown_same (S2 _ _).out))
            | (go_at_call 12; (with_reducible exact Calls.regrown_of (GD _ _).out))
            | (go_at_call 13; (with_reducible exact Calls.regrown_same (IS5 _).out)))))
      (repeat (first
          | go_big_quiet_step ((first
            | (go_at_call 9; (with_reducible exact Calls.regrown_of (F10 _ _).out))
            | (go_at_call 8; (with_reducible exact Calls.regrown_of (SM _ _).out))
            | (go_at_call 18; (with_reducible exact Calls.regrown_same (S2 _ _).out))
            | (go_at_call 12; (with_reducible exact Calls.regrown_of (GD _ _).out))
            | (go_at_call 13; (with_reducible exact Calls.regrown_same (IS5 _).out))))
          | quiet_step ((first
            | (go_at_call 9; (with_reducible exact Calls.regrown_of (F10 _ _).out))
            | (go_at_call 8; (with_reducible exact Calls.regrown_of (SM _ _).out))
            | (go_at_call 18; (with_reducible exact Calls.regrown_same (S2 _ _).out))
            | (go_at_call 12; (with_reducible exact Calls.regrown_of (GD _ _).out))
            | (go_at_call 13; (with_reducible exact Calls.regrown_same (IS5 _).out))))))
      refine wpQuiet_nil ?_
      intro U hv
      have hbU := below_of_regrown hv
      go_wp2_with fail
      go_meet
      exact ⟨rfl, hbU⟩
    · have k0' := (hw0.cell (p := ⟨b, off, none⟩) hbl).trans k0
      have k0g := fun d os => cell_regrown k0' d os
      clear k0 k0' hbl
      (repeat go_big_quiet_step ((first
            | (go_at_call 9; (with_reducible exact Calls.regrown_of (F10 _ _).out))
            | (go_at_call 8; (with_reducible exact Calls.regrown_of (SM _ _).out))
            | (go_at_call 18; (with_reducible exact Calls.regrown_same (S2 _ _).out))
            | (go_at_call 12; (with_reducible exact Calls.regrown_of (GD _ _).out))
            | (go_at_call 13; (with_reducible exact Calls.regrown_same (IS5 _).out)))))
      (try rw [e3])
      (repeat go_big_quiet_step ((first
            | (go_at_call 9; (with_reducible exact Calls.regrown_of (F10 _ _).out))
            | (go_at_call 8; (with_reducible exact Calls.regrown_of (SM _ _).out))
            | (go_at_call 18; (with_reducible exact Calls.regrown_same (S2 _ _).out))
            | (go_at_call 12; (with_reducible exact Calls.regrown_of (GD _ _).out))
            | (go_at_call 13; (with_reducible exact Calls.regrown_same (IS5 _).out)))))
      (try rw [e6])
      (repeat go_big_quiet_step ((first
            | (go_at_call 9; (with_reducible exact Calls.regrown_of (F10 _ _).out))
            | (go_at_call 8; (with_reducible exact Calls.regrown_of (SM _ _).out))
            | (go_at_call 18; (with_reducible exact Calls.regrown_same (S2 _ _).out))
            | (go_at_call 12; (with_reducible exact Calls.regrown_of (GD _ _).out))
            | (go_at_call 13; (with_reducible exact Calls.regrown_same (IS5 _).out)))))
      (repeat (first
          | go_big_quiet_step ((first
            | (go_at_call 9; (with_reducible exact Calls.regrown_of (F10 _ _).out))
            | (go_at_call 8; (with_reducible exact Calls.regrown_of (SM _ _).out))
            | (go_at_call 18; (with_reducible exact Calls.regrown_same (S2 _ _).out))
            | (go_at_call 12; (with_reducible exact Calls.regrown_of (GD _ _).out))
            | (go_at_call 13; (with_reducible exact Calls.regrown_same (IS5 _).out))))
          | quiet_step ((first
            | (go_at_call 9; (with_reducible exact Calls.regrown_of (F10 _ _).out))
            | (go_at_call 8; (with_reducible exact Calls.regrown_of (SM _ _).out))
            | (go_at_call 18; (with_reducible exact Calls.regrown_same (S2 _ _).out))
            | (go_at_call 12; (with_reducible exact Calls.regrown_of (GD _ _).out))
            | (go_at_call 13; (with_reducible exact Calls.regrown_same (IS5 _).out))))))
      refine wpQuiet_nil ?_
      intro U hv
      have hbU := below_of_regrown hv
      go_wp2_with fail
      go_meet
      exact ⟨by first | rfl | (rw [hne]; done), hbU⟩
  case rest =>
  obtain ⟨rfl, hbU⟩ := hcut
  generalize wc = U at *
  replace hw0 := Below.step hw0 hbU
  replace hI := hI.below hbU
  clear hbU F10 SM S2 GD IS5
  cases X
  · have hx8 := (HX.out rfl).1
    have HX8 := Lib.hid hx8
    have HX15 := Lib.hid (HX.out rfl).2.1
    have HXF := Lib.hid (HX.out rfl).2.2
    clear hx8 HX FX
    have i0 := hI.cell 0
    have i1 := hI.cell 1
    have i2 := hI.cell 2
    simp at i0 i1 i2
    have hMw := hI.lt
    have hz4 := Held.new U 41 #[.int .i64 0, .int .i64 0, .int .i64 0, .slice none 0 0]
    go_upto_region 5 with (first
      | (guard_target = wpList _ _ _ (Oper.mk _ (Op.alloc 41) _ _ _ none :: _) _ _; refine wpList_alloc_arr rfl 41 rfl #[.int .i64 0, .int .i64 0, .int .i64 0, .slice none 0 0] (by kernel_rfl) ?_)
      | (guard_target = wpList _ _ _ (Oper.mk _ (Op.store 41 (.tmp 4) (.tmp 71)) _ _ _ none :: _) _ _; refine wpList_store_row rfl 41 _ _ rfl U.heap.size #[.int .i64 al, .int .i64 al, .int .i64 1, .slice none 0 0] rfl rfl _ _ hz4 (by kernel_rfl) rfl (by simp [Value.oneCell']) ?_))
    have hM : Held ((U.alloc (.cells #[.int .i64 0, .int .i64 0, .int .i64 0, .slice none 0 0] 41)).setRow U.heap.size #[.int .i64 al, .int .i64 al, .int .i64 1, .slice none 0 0]) U.heap.size 41 #[.int .i64 al, .int .i64 al, .int .i64 1, .slice none 0 0] := (Held.new U 41 #[.int .i64 0, .int .i64 0, .int .i64 0, .slice none 0 0]).rowSelf _
    have hb3 : Below U.heap.size U ((U.alloc (.cells #[.int .i64 0, .int .i64 0, .int .i64 0, .slice none 0 0] 41)).setRow U.heap.size #[.int .i64 al, .int .i64 al, .int .i64 1, .slice none 0 0]) := below_row ((Below.refl _ _).alloc (Nat.le_refl _) _) (Nat.le_refl _) _
    replace hw0 := Below.step hw0 hb3
    replace hI := hI.below hb3
    have hMU : U.heap.size ≤ ((U.alloc (.cells #[.int .i64 0, .int .i64 0, .int .i64 0, .slice none 0 0] 41)).setRow U.heap.size #[.int .i64 al, .int .i64 al, .int .i64 1, .slice none 0 0]).heap.size := hb3.size
    generalize ((U.alloc (.cells #[.int .i64 0, .int .i64 0, .int .i64 0, .slice none 0 0] 41)).setRow U.heap.size #[.int .i64 al, .int .i64 al, .int .i64 1, .slice none 0 0]) = W3 at *
    clear hb3 hz4 i0 i1 i2
    generalize U.heap.size = M at *
    have HI3 := Lib.hid hI
    have HW3 := Lib.hid hw0
    have HM3 := Lib.hid hM
    have HMW := Lib.hid hMw
    have HMU := Lib.hid hMU
    clear hI hw0 hM hMw hMU
    go_upto_region 6 with fail
    go_loopw [5] (fun iv W => ∃ (i : Nat) (v : Value), iv = .int .i64 i ∧ i ≤ al ∧ Held W M 41 #[.int .i64 al, .int .i64 al, .int .i64 1, v] ∧ OwnC W (M + 1) v (loadsW i) ∧ Below M W3 W) (fun iv _ => al - (intOf iv).toNat)
    case atStart => exact ⟨0, _, rfl, Nat.zero_le _, HM3.out, OwnC.nil _ _, Below.refl _ _⟩
    case round =>
      obtain ⟨i, v, rfl, hi, hM, hO, hb⟩ := hrel
      obtain ⟨z0, z1, z2, z3, y3, zl⟩ := bx4 hM
      have hB : M + 1 ≤ wr.heap.size := zl
      by_cases hlt : i < al
      · have hlt2 : (i : Int) < (al : Int) := lt_cast hlt rfl
        have hwi : wrap64 ((i : Int) + 1) = (i : Int) + 1 := wrap_succ hlt (le_tr rfl HX8.out (show 8 ≤ maxLen by decide))
        have HLT := Lib.hid hlt
        have HLE := Lib.hid (show i + 1 ≤ al from hlt)
        have hll : (loadsW i).length ≤ 1000000 := by rw [mainW_len]; exact Nat.le_trans (Nat.le_of_lt hlt) (Nat.le_trans HX8.out (by decide))
        have HO := Lib.hid hO
        have HM := Lib.hid hM
        have HB := Lib.hid hb
        have HLL := Lib.hid hll
        have HBB := Lib.hid hB
        clear hO hM hb hll hB
        go_wp2_with (at_builtin; refine wpList_append_ins rfl _ _ rfl (M + 1) wr v (loadsW i) (1, (i : Int), 0) rfl rfl HO.out rfl HLL.out HBB.out ?_; intro v' w' ho hg hob; have hM' : Held w' M 41 #[.int .i64 al, .int .i64 al, .int .i64 1, v] := (hg.block M zl (fun e => by have h1 := (HO.out.lt M e.symm).1; exact absurd h1 (Nat.not_succ_le_self M))).trans HM.out; obtain ⟨x0, x1, x2, x3, x4, xl⟩ := bx4 hM'; obtain ⟨A1, c1, hv1, _⟩ := ho.code; generalize hnl : (loadsW i ++ [(1, (i : Int), 0)]).length = nl at hv1; subst hv1; clear hnl)
        go_roundw
        case rel =>
          have hnM : ∀ b, (Value.slice A1 nl c1).ownBlock = some b → (some M : Option Nat) ≠ some b := fun b hb he => by
            cases he
            exact absurd (ho.lt M hb).1 (Nat.not_succ_le_self M)
          refine ⟨i + 1, .slice A1 nl c1, (by first | with_reducible exact num1 _ | (rw [hwi]; with_reducible exact num1 _)), HLE.out, hM'.set_at 3 _, ?_, ?_⟩
          · rw [loads_succ]
            exact ho.grown (grow_set w' M 3 _) hnM
          · exact (HB.out.grown hg (Nat.le_of_succ_le HBB.out) (fun k hk => Nat.le_of_succ_le (HO.out.lt k hk).1)).setCell (p := ⟨M, 3, none⟩) (Nat.le_refl _) _
        case measure => first | with_reducible exact meas_lt HLT.out | (rw [hwi]; with_reducible exact meas_lt HLT.out)
      · have hia : al = i := (Nat.le_antisymm hi (Nat.le_of_not_lt hlt)).symm
        subst hia
        have hO3 : OwnC (wr.alloc (.cells (flatI endW).toArray 44)) (M + 1) v (loadsW al) := hO.below ((Below.refl _ _).alloc (Nat.le_refl _) _)
        have hM3 : Held (wr.alloc (.cells (flatI endW).toArray 44)) M 41 #[.int .i64 al, .int .i64 al, .int .i64 1, v] := hM.below ((Below.refl _ _).alloc (Nat.le_refl _) _)
        have hb3 : Below M W3 (wr.alloc (.cells (flatI endW).toArray 44)) := hb.alloc (Nat.le_of_succ_le hB) _
        have hll : (loadsW al).length + endW.length ≤ 1000000 := by rw [mainW_len]; exact Nat.le_trans (Nat.add_le_add_right HX8.out _) (by decide)
        have hB3 : M + 1 ≤ (wr.alloc (.cells (flatI endW).toArray 44)).heap.size := Nat.le_trans hB (by simp)
        have hend := end_at wr
        have HO := Lib.hid hO3
        have HB := Lib.hid hb3
        have HLL := Lib.hid hll
        have HBB := Lib.hid hB3
        have HM := Lib.hid hM3
        have HE := Lib.hid hend
        clear hO hM hb hll hB hO3 hM3 hb3 hB3 hend
        go_upto_region 10 with (at_builtin; refine wpList_append_code rfl _ _ rfl (M + 1) v (loadsW al) rfl HO.out (A := some ⟨wr.heap.size, 0, none⟩) (k := endW) (c := 3) rfl HE.out (by decide) HLL.out HBB.out ?_; intro gg cap w' ho hb2 hgB hgl; have hM' : Held w' M 41 #[.int .i64 al, .int .i64 al, .int .i64 1, v] := (hb2.block M (Nat.lt_succ_self M)).trans HM.out; obtain ⟨x0, x1, x2, x3, x4, xl⟩ := bx4 hM')
        generalize hnl : (loadsW al).length + endW.length = nl at *
        have hnM : ∀ b, (Value.slice (some ⟨gg, 0, none⟩) nl cap).ownBlock = some b → (some M : Option Nat) ≠ some b := fun b hb he => by
          cases he
          exact absurd (ho.lt M hb).1 (Nat.not_succ_le_self M)
        have hM4 : Held (w'.setCell ⟨M, 3, none⟩ (.slice (some ⟨gg, 0, none⟩) nl cap)) M 41 #[.int .i64 al, .int .i64 al, .int .i64 1, .slice (some ⟨gg, 0, none⟩) nl cap] := hM'.set_at 3 _
        have hO4 : OwnC (w'.setCell ⟨M, 3, none⟩ (.slice (some ⟨gg, 0, none⟩) nl cap)) (M + 1) (.slice (some ⟨gg, 0, none⟩) nl cap) (mainW al).code := ho.grown (grow_set w' M 3 _) hnM
        have hb4 : Below M W3 (w'.setCell ⟨M, 3, none⟩ (.slice (some ⟨gg, 0, none⟩) nl cap)) := (HB.out.trans (hb2.mono (Nat.le_succ M))).setCell (p := ⟨M, 3, none⟩) (Nat.le_refl _) _
        have hB4 : M + 1 ≤ (w'.setCell ⟨M, 3, none⟩ (.slice (some ⟨gg, 0, none⟩) nl cap)).heap.size := hM4.lt
        generalize w'.setCell ⟨M, 3, none⟩ (.slice (some ⟨gg, 0, none⟩) nl cap) = W4 at *
        clear hnM hnl HO HB HLL HBB HM HE z0 z1 z2 z3 y3 zl hlt ho hb2 hgB hgl hM' x0 x1 x2 x3 x4 xl hi
        have hL5 := own_func1 (f := mainW al) hO4 hB4
        have hb5 : Below M W3 (W4.alloc (.cells #[.int .i64 al, .int .i64 al, .int .i64 1, .slice (some ⟨gg, 0, none⟩) nl cap] 41)) := hb4.alloc (Nat.le_of_succ_le hB4) _
        have HL5 := Lib.hid hL5
        have HB5 := Lib.hid hb5
        have HM4 := Lib.hid hM4
        clear hL5 hb5 hO4 hb4 hB4 hM4
        go_upto_region 11 with (guard_target = wpList _ _ _ (Oper.mk _ (Op.load 41 (.tmp 4)) _ _ _ none :: _) _ _; refine wpList_load_row rfl 41 (.tmp 4) rfl M rfl 41 #[.int .i64 al, .int .i64 al, .int .i64 1, .slice (some ⟨gg, 0, none⟩) nl cap] (0, 0) _ HM4.out Tryz.underlying41 rfl (by kernel_rfl) ?_)
        clear HM4
        go_upto_region 12 with fail
        go_loopw [6, 7, 8, 9] (fun v iv _ _ W => ∃ (i : Nat) (L : List (Fun × Value)), iv = .int .i64 i ∧ i ≤ p.length ∧ OwnL W (M + 1) v L ∧ L.map (·.1) = mvP (mainW al) (p.take i) ∧ Below M W3 W) (fun _ iv _ _ _ => p.length - (intOf iv).toNat)
        case atStart => exact ⟨0, [(mainW al, .slice (some ⟨gg, 0, none⟩) nl cap)], rfl, Nat.zero_le _, HL5.out, rfl, HB5.out⟩
        case round =>
          obtain ⟨i, L, rfl, hi, hL, hmap, hb⟩ := hrel
          generalize wr = Wr at *
          have hwr := HW3.out.trans (hb.mono (Nat.le_of_lt HMW.out))
          have hI : Held Wr w.heap.size 26 (inpA A pl c A2 al c2 s) := (hb.block w.heap.size HMW.out).trans HI3.out
          have i0 := hI.cell 0
          simp at i0
          have hIl := hI.lt
          have HMAP := Lib.hid hmap
          have HB := Lib.hid hb
          have HL := Lib.hid hL
          have HWR := Lib.hid hwr
          have HI := Lib.hid hI
          have hplE := HPLE.out
          clear hmap hb hL hI
          by_cases hlt : i < p.length
          · as_aux_lemma =>
            obtain ⟨b4, off4, rfl, hbl4, hc⟩ := ((HP.out.below hwr (Nat.le_refl _)).more hwr.size) (Nat.zero_lt_of_lt hlt)
            obtain ⟨f0, f1, f2, Ac, cc, f3, hcode⟩ := hc i hlt
            have hgF := HXF.out p[i] (List.getElem_mem hlt)
            have hmt := mvP_take (h := mainW al) hlt
            obtain ⟨g, hg⟩ : ∃ g, p[i] = g := ⟨_, rfl⟩
            rw [hg] at f0 f1 f2 f3 hcode hgF hmt
            have hr4 := range4 f0 f1 f2 f3
            have hlt2 : (i : Int) < (pl : Int) := lt_cast hlt hplE
            have hwi : wrap64 ((i : Int) + 1) = (i : Int) + 1 := wrap_succ hlt (le_tr hplE HX15.out (show 15 ≤ maxLen by decide))
            have HLT := Lib.hid hlt
            have HLE := Lib.hid (show i + 1 ≤ p.length from hlt)
            have HMT := Lib.hid hmt
            have HGF := Lib.hid hgF
            have HG1 := Lib.hid hgF.1
            have HG2 := Lib.hid (Nat.le_trans hgF.2.1 (show 200 ≤ 1000000 by decide))
            have HCD := Lib.hid hcode
            have HR4 := Lib.hid hr4
            clear hc hg hgF hmt hcode hr4 f0 f1 f2 f3 hwr
            have hz8 := Held.new Wr 41 #[.int .i64 0, .int .i64 0, .int .i64 0, .slice none 0 0]
            go_upto_region 15 with (first
              | (guard_target = wpList _ _ _ (Oper.mk _ (Op.load 41 (.tmp 104)) _ _ _ none :: _) _ _; refine wpList_load_mid rfl 41 _ rfl b4 (off4 + i * 4) rfl [.int .i64 g.ar, .int .i64 g.lo, .int .i64 g.sl, .slice Ac g.code.length cc] _ HR4.out Tryz.underlying41 rfl (by kernel_rfl) ?_)
              | (guard_target = wpList _ _ _ (Oper.mk _ (Op.alloc 41) _ _ _ none :: _) _ _; refine wpList_alloc_arr rfl 41 rfl #[.int .i64 0, .int .i64 0, .int .i64 0, .slice none 0 0] (by kernel_rfl) ?_)
              | (guard_target = wpList _ _ _ (Oper.mk _ (Op.store 41 (.tmp 8) (.tmp 105)) _ _ _ none :: _) _ _; refine wpList_store_row rfl 41 _ _ rfl Wr.heap.size (fnA g Ac cc) rfl rfl _ _ hz8 (by kernel_rfl) rfl (by simp [Value.oneCell']) ?_))
            have hK : Held ((Wr.alloc (.cells #[.int .i64 0, .int .i64 0, .int .i64 0, .slice none 0 0] 41)).setRow Wr.heap.size (fnA g Ac cc)) Wr.heap.size 41 (fnA g Ac cc) := (Held.new Wr 41 #[.int .i64 0, .int .i64 0, .int .i64 0, .slice none 0 0]).rowSelf _
            have hb6 : Below Wr.heap.size Wr ((Wr.alloc (.cells #[.int .i64 0, .int .i64 0, .int .i64 0, .slice none 0 0] 41)).setRow Wr.heap.size (fnA g Ac cc)) := below_row ((Below.refl _ _).alloc (Nat.le_refl _) _) (Nat.le_refl _) _
            generalize (Wr.alloc (.cells #[.int .i64 0, .int .i64 0, .int .i64 0, .slice none 0 0] 41)).setRow Wr.heap.size (fnA g Ac cc) = W6 at *
            obtain ⟨z0, z1, z2, z3, y3, zl⟩ := bx4 hK
            have hc6 := HCD.out.below hb6 (Nat.le_refl _)
            have HC6 := Lib.hid (hc6.below ((Below.refl Wr.heap.size W6).alloc hb6.size (.cells #[] 44)) (Nat.le_refl _))
            have HK6 := Lib.hid (hK.below ((Below.refl _ _).alloc (Nat.le_refl _) (.cells #[] 44)))
            have HB6 := Lib.hid hb6
            have HZL := Lib.hid (show Wr.heap.size + 1 ≤ W6.heap.size from zl)
            clear hK hb6 hc6 hz8 HCD HR4
            go_upto_region 16 with (at_builtin; refine wpList_append_code1 rfl _ _ rfl (Wr.heap.size + 1) W6 rfl rfl rfl rfl HC6.out HG1.out HG2.out HZL.out ?_; intro hh cap3 w7 ho7 hb7 hhB hhl; have hK7 : Held w7 Wr.heap.size 41 (fnA g Ac cc) := (hb7.block Wr.heap.size (Nat.lt_succ_self _)).trans HK6.out; obtain ⟨x0, x1, x2, x3, x4, xl⟩ := bx4 hK7)
            have hnK : ∀ b, (Value.slice (some ⟨hh, 0, none⟩) g.code.length cap3).ownBlock = some b → (some Wr.heap.size : Option Nat) ≠ some b := fun b hb he => by
              cases he
              exact absurd (ho7.lt _ hb).1 (Nat.not_succ_le_self _)
            have hK8 : Held (w7.setCell ⟨Wr.heap.size, 3, none⟩ (.slice (some ⟨hh, 0, none⟩) g.code.length cap3)) Wr.heap.size 41 #[.int .i64 g.ar, .int .i64 g.lo, .int .i64 g.sl, .slice (some ⟨hh, 0, none⟩) g.code.length cap3] := hK7.set_at 3 _
            have hO8 : OwnC (w7.setCell ⟨Wr.heap.size, 3, none⟩ (.slice (some ⟨hh, 0, none⟩) g.code.length cap3)) (Wr.heap.size + 1) (.slice (some ⟨hh, 0, none⟩) g.code.length cap3) (lstW g.code 0) := ho7.grown (grow_set w7 _ 3 _) hnK
            have hb8 : Below Wr.heap.size Wr (w7.setCell ⟨Wr.heap.size, 3, none⟩ (.slice (some ⟨hh, 0, none⟩) g.code.length cap3)) := (HB6.out.trans (((Below.refl Wr.heap.size W6).alloc HB6.out.size _).trans (hb7.mono (Nat.le_succ _)))).setCell (p := ⟨Wr.heap.size, 3, none⟩) (Nat.le_refl _) _
            have hs8 : Wr.heap.size + 1 ≤ (w7.setCell ⟨Wr.heap.size, 3, none⟩ (.slice (some ⟨hh, 0, none⟩) g.code.length cap3)).heap.size := hK8.lt
            generalize w7.setCell ⟨Wr.heap.size, 3, none⟩ (.slice (some ⟨hh, 0, none⟩) g.code.length cap3) = W8 at *
            have HK8 := Lib.hid hK8
            have HO8 := Lib.hid hO8
            have HB8 := Lib.hid hb8
            have HS8 := Lib.hid hs8
            clear hnK hK8 hO8 hb8 hs8 HC6 HK6 HB6 HZL z0 z1 z2 z3 y3 zl ho7 hb7 hhl hK7 x0 x1 x2 x3 x4 xl
            go_upto_region 17 with fail
            go_loopw [9] (fun kv W => ∃ k : Nat, kv = .int .i64 k ∧ k ≤ g.code.length ∧ OwnC W (Wr.heap.size + 1) (.slice (some ⟨hh, 0, none⟩) g.code.length cap3) (lstW g.code k) ∧ Below (Wr.heap.size + 1) W8 W) (fun kv _ => g.code.length - (intOf kv).toNat)
            case atStart => exact ⟨0, rfl, Nat.zero_le _, HO8.out, Below.refl _ _⟩
            case round =>
              obtain ⟨k, rfl, hk, hO, hbk⟩ := hrel
              generalize wr = Wk at *
              have hK : Held Wk Wr.heap.size 41 #[.int .i64 g.ar, .int .i64 g.lo, .int .i64 g.sl, .slice (some ⟨hh, 0, none⟩) g.code.length cap3] := (hbk.block _ (Nat.lt_succ_self _)).trans HK8.out
              obtain ⟨z0, z1, z2, z3, y3, zl⟩ := bx4 hK
              have HO := Lib.hid hO
              have HBK := Lib.hid hbk
              have HK := Lib.hid hK
              have HS9 := Lib.hid (show Wr.heap.size + 1 ≤ Wk.heap.size from zl)
              clear hK
              by_cases hk2 : k < g.code.length
              · as_aux_lemma =>
                have hx := lstW_at g.code hk2
                have hln := lstW_len g.code hk
                have hsu := lstW_succ g.code hk2
                have hsm := lstW_same g.code hk2
                have hsp := HGF.out.2.2 g.code[k] (List.getElem_mem hk2)
                obtain ⟨⟨xo, xa, xb⟩, hxx⟩ : ∃ x : Int × Int × Int, g.code[k] = x := ⟨_, rfl⟩
                rw [hxx] at hsu hsm hsp
                obtain ⟨o0, o1, o2, y0, y1, y2, ohl⟩ := cellsW (x := (xo, xa, xb)) hO hln hk2 (hx.trans (congrArg some hxx))
                simp only at o0 o1 o2 hsp hsm
                have hk3 : (k : Int) < (g.code.length : Int) := lt_cast hk2 rfl
                have hwk : wrap64 ((k : Int) + 1) = (k : Int) + 1 := wrap_succ hk2 (Nat.le_trans HGF.out.2.1 (show 200 ≤ maxLen by decide))
                have HK2 := Lib.hid hk2
                have HKE := Lib.hid (show k + 1 ≤ g.code.length from hk2)
                have HLN := Lib.hid hln
                have HSU := Lib.hid hsu
                have HSM := Lib.hid hsm
                have HX := Lib.hid (hx.trans (congrArg some hxx))
                clear hx hln hsu hsm hxx hO hbk
                by_cases h13 : xo = 13
                · have hxa := hsp h13
                  have hwa : wrap64 (xa + 1) = xa + 1 := wrap_small hxa.1 hxa.2
                  clear hsp hxa
                  subst h13
                  have HSE : lstW g.code (k + 1) = (lstW g.code k).set k (13, xa + 1, xb) := HSU.out
                  have HSE := Lib.hid HSE
                  clear HSU HSM
                  go_upto_region 20 with fail
                  have q0 := fun d os => cell_regrown z3 d os
                  have q1 := fun d os => cell_regrown o1 d os
                  have q2 := fun d os => cell_regrown o2 d os
                  clear z0 z1 z2 z3 y3 zl o0 o1 o2 y0 y1 y2 ohl
                  refine wp_region_below_tail 18 (by kernel_rfl) (by kernel_rfl) ?_
                  simp only [List.take_succ_cons, List.take_zero, List.drop_succ_cons, List.drop_zero]
                  (repeat (first | go_big_quiet_step (fail) | quiet_step (fail)))
                  refine wpQuiet_nil ?_
                  intro v9 hv
                  have hb9 := below_of_regrown hv
                  clear hv q0 q1 q2
                  have hO9 := HO.out.below hb9
                  obtain ⟨o0, o1, o2, y0, y1, y2, ohl⟩ := cellsW hO9 HLN.out HK2.out HX.out
                  have HO9 := Lib.hid hO9
                  have HB9 := Lib.hid hb9
                  clear hO9 hb9
                  go_wp2_with fail
                  go_roundw
                  case rel =>
                    refine ⟨k + 1, (by first | with_reducible exact num1 _ | (rw [hwk]; with_reducible exact num1 _)), HKE.out, ?_, ?_⟩
                    · rw [HSE.out]
                      exact HO9.out.set HLN.out k (13, xa + 1, xb) (Nat.lt_of_lt_of_eq HK2.out HLN.out.symm)
                    · exact (((HBK.out.trans (HB9.out.mono HS9.out)).setCell (p := ⟨hh, k * 3, none⟩) hhB _).setCell (p := ⟨hh, k * 3 + 1, none⟩) hhB _).setCell (p := ⟨hh, k * 3 + 2, none⟩) hhB _
                  case measure => first | with_reducible exact meas_lt HK2.out | (rw [hwk]; with_reducible exact meas_lt HK2.out)
                · have h13b : (xo == 13) = false := by simpa using h13
                  have HSM2 := Lib.hid (HSM.out h13)
                  clear h13 hsp
                  go_wp2_with fail
                  go_roundw
                  case rel => exact ⟨k + 1, (by first | with_reducible exact num1 _ | (rw [hwk]; with_reducible exact num1 _)), HKE.out, by rw [HSM2.out]; exact HO.out, HBK.out⟩
                  case measure => first | with_reducible exact meas_lt HK2.out | (rw [hwk]; with_reducible exact meas_lt HK2.out)
              · have hke : k = g.code.length := Nat.le_antisymm hk (Nat.le_of_not_lt hk2)
                subst hke
                have hOm : OwnC Wk (M + 1) (.slice (some ⟨hh, 0, none⟩) g.code.length cap3) (mvF g).code := by
                  have h1 := HO.out
                  rw [lstW_all] at h1
                  exact h1.mono (Nat.succ_le_succ (Nat.le_trans HMU.out HB.out.size))
                have hLk : OwnL Wk (M + 1) u6 L := HL.out.below (HB8.out.trans (HBK.out.mono (Nat.le_succ _)))
                have hdis : ∀ x ∈ L, ∀ b, x.2.ownBlock = some b → (Value.slice (some ⟨hh, 0, none⟩) g.code.length cap3).ownBlock ≠ some b := fun x hx b hb he => by
                  cases he
                  have h1 := ((HL.out.2.1 x hx).lt _ hb).2
                  exact absurd (Nat.lt_of_lt_of_le h1 (Nat.le_of_succ_le hhB)) (Nat.lt_irrefl _)
                have hLl : L.length ≤ 1000000 := by
                  have h1 := congrArg List.length HMAP.out
                  rw [List.length_map] at h1
                  rw [h1]
                  unfold mvP
                  rw [List.length_cons, List.length_map, List.length_take]
                  exact Nat.le_trans (Nat.succ_le_succ (Nat.le_trans (Nat.min_le_right _ _) (le_tr HPLE.out HX15.out (Nat.le_refl 15)))) (by decide)
                have hMk : M + 1 ≤ Wk.heap.size := Nat.le_trans (Nat.succ_le_succ (Nat.le_trans HMU.out HB.out.size)) zl
                have HOM := Lib.hid hOm
                have HLK := Lib.hid hLk
                have HDI := Lib.hid hdis
                have HLL := Lib.hid hLl
                have HMK := Lib.hid hMk
                have HBW := Lib.hid (HB8.out.trans (HBK.out.mono (Nat.le_succ _)))
                clear hOm hLk hdis hLl hMk hO hbk HO HBK
                go_wp2_with (first
                  | (guard_target = wpList _ _ _ (Oper.mk _ (Op.load 41 (.tmp 8)) _ _ _ none :: _) _ _; refine wpList_load_row rfl 41 (.tmp 8) rfl Wr.heap.size rfl 41 #[.int .i64 g.ar, .int .i64 g.lo, .int .i64 g.sl, .slice (some ⟨hh, 0, none⟩) g.code.length cap3] (0, 0) _ HK.out Tryz.underlying41 rfl (by kernel_rfl) ?_)
                  | (at_builtin; refine wpList_append_fun 23 Tryz.underlying23 rfl _ _ rfl (M + 1) Wk u6 L (mvF g) (.slice (some ⟨hh, 0, none⟩) g.code.length cap3) rfl rfl HLK.out HOM.out HDI.out rfl HLL.out HMK.out ?_; intro v8 w8 hL8 hb88))
                go_roundw
                case rel =>
                  refine ⟨i + 1, L ++ [(mvF g, .slice (some ⟨hh, 0, none⟩) g.code.length cap3)], (by first | with_reducible exact num1 _ | (rw [hwi]; with_reducible exact num1 _)), HLE.out, hL8, ?_, ?_⟩
                  · rw [List.map_append, HMAP.out, HMT.out]
                    rfl
                  · exact (HB.out.trans (HBW.out.mono (Nat.le_trans HMU.out HB.out.size))).trans (hb88.mono (Nat.le_succ M))
                case measure => first | with_reducible exact meas_lt HLT.out | (rw [hwi]; with_reducible exact meas_lt HLT.out)
          · as_aux_lemma =>
            have hie : i = p.length := Nat.le_antisymm hi (Nat.le_of_not_lt hlt)
            subst hie
            have hmap := HMAP.out
            rw [List.take_length] at hmap
            obtain ⟨A7, c7, hv7, hq⟩ := HL.out.prog
            rw [hmap] at hq
            have hln : L.length = (mvP (mainW al) p).length := by rw [← hmap, List.length_map]
            rw [hln] at hv7
            have hzq : SizedP (mvP (mainW al) p) := sized_mv HZ.out HX8.out (le_tr HPLE.out HX15.out (Nat.le_refl 15))
            have hTr : TabB Wr Wr.heap.size := (HT.out.below hwr (Nat.le_refl _)).more hwr.size
            have EQ := Lib.hid (show Ev (mvP (mainW al) p) A7 (mvP (mainW al) p).length c7 Wr from ev_of (c := c7) hTr hq hzq)
            have EP := Lib.hid (show Ev p A p.length c w from ev_of (c := c) HT.out HP.out HZ.out)
            generalize (mvP (mainW al) p).length = nq at *
            subst hv7
            have EPW : ∀ W, Below Wr.heap.size Wr W → Hid (Calls Tryz.prog 10 #[.slice A pl c, .slice A2 al c2, .int .i64 (useZ s 1 0), .int .i64 2000] W fun r w' => r = .returned (.tuple #[.agg #[.int .i64 a0, .int .i64 a1, .int .i64 a2], .int .i64 n, .int .i64 e]) ∧ Below W.heap.size W w') := fun W hb => by
              have h1 := HWR.out.trans (hb.mono HWR.out.size)
              have h2 := EP.out.ev W args al (useZ s 1 0) 2000 _ A2 c2 h1 ((HA.out.below h1 (Nat.le_refl _)).more h1.size) HALE.out (Nat.le_trans HX8.out (by decide)) HR.out
              rw [hplE] at h2
              exact Lib.hid h2
            have EQW : ∀ W, Below Wr.heap.size Wr W → Hid (Calls Tryz.prog 10 #[.slice A7 nq c7, .slice A2 al c2, .int .i64 s, .int .i64 2100] W fun r w' => r = .returned (tellV ((b0, (b1, b2)), m, g)) ∧ Below W.heap.size W w') := fun W hb => by
              have h1 := HWR.out.trans (hb.mono HWR.out.size)
              exact Lib.hid (EQ.out.ev W args al s 2100 _ A2 c2 hb ((HA.out.below h1 (Nat.le_refl _)).more h1.size) HALE.out (Nat.le_trans HX8.out (by decide)) HQ.out)
            have CH := rchild_any s 0
            generalize useZ s 1 0 = z at *
            clear hmap hq hln hzq hTr EP EQ HP HZ HA HT HL HMAP HMW HMU HM3 HL5 HB5 HI3 HXF
            rw [hplE]
            clear hplE hlt
            go_upto_region 22 with fail
            have HIR := Lib.hid (show Held Wr w.heap.size 26 #[.slice A pl c, .slice A2 al c2, .int .i64 s] from HI.out)
            go_cut [10, 11, 12] from 148 to 158 (fun v10 v11 v12 wx => ∃ gX, v10 = .pointer (some ⟨gX, 0, none⟩) ∧ Held wx gX 32 #[.int .i64 a0, .int .i64 a1, .int .i64 a2] ∧ Below Wr.heap.size Wr wx ∧ v11 = .int .i64 n ∧ v12 = .int .i64 e)
            case first =>
              have hq0 := keepW HIR.out (Below.refl Wr.heap.size Wr)
              go_region_held3 (fun W => Below Wr.heap.size Wr W ∧ W.cell? ⟨w.heap.size, 0, none⟩ = some (.slice A pl c) ∧ W.cell? ⟨w.heap.size, 1, none⟩ = some (.slice A2 al c2) ∧ W.cell? ⟨w.heap.size, 2, none⟩ = some (.int .i64 s))
                (first
                  | with_reducible assumption
                  | with_reducible exact keepW HIR.out (Below.refl _ _).drew
                  | with_reducible exact keepW HIR.out ((Below.refl _ _).alloc (Nat.le_refl _) _).drew
                  | with_reducible exact keepW HIR.out ((Below.refl _ _).alloc (Nat.le_refl _) _)
                  | with_reducible exact keepW HIR.out (Below.step (And.left (by assumption)) (by assumption))
                  | with_reducible exact keepW HIR.out (Below.drew (And.left (by assumption)))
                  | with_reducible exact keepW HIR.out (Below.alloc (And.left (by assumption)) (Below.size (And.left (by assumption))) _)
                  | with_reducible exact keepW HIR.out (below_set3 hbq (Nat.le_refl Wr.heap.size))
                  | go_keep)
                (first
                  | (go_at_call 19; (with_reducible refine (CH.go _).mono ?_); rintro _ u0 ⟨rfl, rfl⟩)
                  | (go_at_call 10; ((with_reducible refine (EPW _ ?_).out.mono ?_); (focus (first | exact And.left (by assumption) | go_grown))); rintro _ u3 ⟨rfl, hb3⟩; (first | have hbq := Below.step (And.left (by assumption)) hb3 | have hbq := Below.step (show Below Wr.heap.size Wr _ by go_grown) hb3); have hq := keepW HIR.out hbq; have hqs := keepW HIR.out (below_set3 (x := .int .i64 a0) (y := .int .i64 a1) (z := .int .i64 a2) hbq (Nat.le_refl Wr.heap.size)); (try (first | have hz := (Held.new Wr 32 oz0).below hb3 | have hz := (held_drew (Held.new Wr 32 oz0)).below hb3 | have hz := (Held.new Wr.drew 32 oz0).below hb3); (have y0 := hz.cell 0; have z0 := hz.fz 0; have y1 := hz.cell 1; have z1 := hz.fz 1; have y2 := hz.cell 2; have z2 := hz.fz 2; simp at y0 y1 y2))))
              all_goals go_wp2_with fail
              all_goals go_meet
              all_goals case rel => first | exact ⟨_, rfl, Held.new _ _ _, Below.alloc hbq hbq.size _, rfl, rfl⟩ | exact ⟨_, rfl, ((hz.set_at 0 _).set_at 1 _).set_at 2 _, below_set3 hbq (Nat.le_refl _), rfl, rfl⟩
            case rest =>
              obtain ⟨gX, rfl, hX, hbX, rfl, rfl⟩ := hcut
              generalize wc = W9 at *
              have hI9 := HIR.out.below hbX
              have i1 := hI9.cell 1
              have i2 := hI9.cell 2
              simp at i1 i2
              have HBX := Lib.hid hbX
              have HXX := Lib.hid hX
              clear hbX hX CH EPW HI HIR hI9 i0
              go_upto_region 24 with (first
                | (go_at_call 10; (with_reducible refine (EQW _ HBX.out).out.mono ?_); rintro _ u5 ⟨rfl, hb5⟩; have hz5 := Held.new u5 32 oz0)
                | (guard_target = wpList _ _ _ (Oper.mk _ (Op.alloc 32) _ _ _ none :: _) _ _; refine wpList_alloc_arr rfl 32 rfl oz0 (by kernel_rfl) ?_)
                | (guard_target = wpList _ _ _ (Oper.mk _ (Op.store 32 (.tmp 13) (.tmp 166)) _ _ _ none :: _) _ _; refine wpList_store_row rfl 32 _ _ rfl u5.heap.size #[.int .i64 b0, .int .i64 b1, .int .i64 b2] rfl rfl _ _ hz5 (by kernel_rfl) rfl (by simp [Value.oneCell']) ?_))
              obtain ⟨hO5, _, hn5⟩ := out_kept (cs := #[.int .i64 b0, .int .i64 b1, .int .i64 b2]) hb5
              have hs5 := Below.step hb5 hn5
              have hX5 := HXX.out.below hs5
              have HF := Lib.hid (Below.step (HWR.out.trans (HBX.out.mono HWR.out.size)) hs5)
              generalize (u5.alloc (.cells oz0 32)).setRow u5.heap.size #[.int .i64 b0, .int .i64 b1, .int .i64 b2] = W10 at *
              have x0 := hX5.cell 0
              have x1 := hX5.cell 1
              have x2 := hX5.cell 2
              have y0 := hO5.cell 0
              have y1 := hO5.cell 1
              have y2 := hO5.cell 2
              simp at x0 x1 x2 y0 y1 y2
              have hEE := HEE.out (by trivial)
              have h8 := HX8.out
              have w3 : wrap64 ((al : Int) + 3) = (al : Int) + 3 := wrap_al3 h8
              have w2 : wrap64 ((al : Int) + 3 - 1) = (al : Int) + 2 := wrap_al2 h8
              clear hn5 hs5 hb5 hz5 hX5 hO5 EQW HBX HXX HWR i1 i2 HEE hwr hIl HB HR HQ h8
              have h8 := HX8.out
              rcases hEE with ⟨rfl, rfl⟩ | ⟨rfl, rfl | ⟨hm, rfl⟩⟩ | ⟨rfl, rfl, rfl, rfl, rfl, hn0, hn1, hm⟩
              · clear h8 w2 w3
                go_wp2_with fail
                go_ret
                exact ⟨rfl, HF.out⟩
              · clear h8 w2 w3
                go_wp2_with fail
                go_ret
                exact ⟨rfl, HF.out⟩
              · have hd : decide (2000 < m) = true := decide_eq_true hm
                clear h8 w2 w3 hm
                go_wp2_with fail
                go_ret
                exact ⟨rfl, HF.out⟩
              · by_cases h0 : b0 = 0
                · rw [if_pos h0] at hm
                  have w4 : wrap64 (n + ((al : Int) + 3)) = n + ((al : Int) + 3) := wrap_n3 hn0 hn1 h8
                  subst h0
                  subst hm
                  clear h8 w2 hn0 hn1
                  go_wp2_with fail
                  go_ret
                  exact ⟨rfl, HF.out⟩
                · rw [if_neg h0] at hm
                  have w4 : wrap64 (n + ((al : Int) + 2)) = n + ((al : Int) + 2) := wrap_n2 hn0 hn1 h8
                  have hb0 : (b0 != 0) = true := by simpa using h0
                  subst hm
                  clear h8 hn0 hn1 h0
                  go_wp2_with fail
                  go_ret
                  exact ⟨rfl, HF.out⟩
  · go_wp2_with (go_at_call 9; (with_reducible refine (FX _ hw0).out.mono ?_); rintro _ u ⟨rfl, hb⟩; replace hw0 := Below.step hw0 hb)
    go_ret
    exact ⟨rfl, hw0⟩
end Go.Proofs.YtagjddnpaahebaaGreatDoor.seqWraps

