/- Layer 10: SeqTraps: a task whose child traps ends with that trap, if it joins it, and if it does not trap itself; of several the one in the least slot. For all codes from 16 to 255. -/
import Derived.Test.YtagjddnpaahebaaDoorzSh
import Derived.Test.YtagjddnpaahebaaDoorzSy
namespace Go.Proofs.YtagjddnpaahebaaDoor.seqTraps
set_option linter.unusedVariables false
set_option linter.unusedSimpArgs false
open Gm Go.RowKit Go.ChangeShapes Go.WideShapes Go.ChangeAt Go.Sort

set_option maxHeartbeats 8000000 in
set_option maxRecDepth 100000 in
theorem out (a b how : Int) (w : World) (hT : TabB w w.heap.size)
    (hs : (decide (a < 16) = true) ∨ (decide (a < 16) = false ∧ decide (255 < a) = true) ∨ (decide (a < 16) = false ∧ decide (255 < a) = false ∧ decide (b < 16) = true) ∨ (decide (a < 16) = false ∧ decide (255 < a) = false ∧ decide (b < 16) = false ∧ decide (255 < b) = true) ∨ (decide (a < 16) = false ∧ decide (255 < a) = false ∧ decide (b < 16) = false ∧ decide (255 < b) = false ∧ decide (how < 0) = true) ∨ (decide (a < 16) = false ∧ decide (255 < a) = false ∧ decide (b < 16) = false ∧ decide (255 < b) = false ∧ decide (how < 0) = false ∧ decide (3 < how) = true)) :
    Calls Tryd.prog 4 #[.int .i64 a, .int .i64 b, .int .i64 how] w fun e w' => e = .returned (.bool true) ∧ Below w.heap.size w w' := by
  have F10 := fun W (hw : Below w.heap.size w W) => Lib.hid (fixed10 W ((hT.below hw (Nat.le_refl _)).more hw.size))
  clear hT
  generalize hb0 : decide (a < 16) = b0 at *
  generalize hb1 : decide (255 < a) = b1 at *
  generalize hb2 : decide (b < 16) = b2 at *
  generalize hb3 : decide (255 < b) = b3 at *
  generalize hb4 : decide (how < 0) = b4 at *
  generalize hb5 : decide (3 < how) = b5 at *
  have hw0 : Below w.heap.size w w := Below.refl _ _
  rcases hs with rfl | ⟨rfl, rfl⟩ | ⟨rfl, rfl, rfl⟩ | ⟨rfl, rfl, rfl, rfl⟩ | ⟨rfl, rfl, rfl, rfl, rfl⟩ | ⟨rfl, rfl, rfl, rfl, rfl, rfl⟩
  all_goals go_enter Tryd.func4, Tryd.ntmps4
  all_goals go_wp2_with (go_at_call 5; (with_reducible refine (F10 _ hw0).out.mono ?_); rintro _ u ⟨rfl, hb⟩; replace hw0 := Below.step hw0 hb)
  all_goals go_ret
  all_goals exact ⟨rfl, hw0⟩
theorem text_len (k : Nat) (a b : Int) (h : a ≤ 255) (h2 : b ≤ 255) : (txT k a b).length ≤ 1000000 := by
  have h1 := dgd_len a.toNat
  have h3 := dgd_len b.toNat
  have he : (endX k).length ≤ 100 := by
    unfold endX
    split <;> decide
  unfold txT hdT m1T m2T dgI
  simp only [List.length_append, List.length_cons, List.length_nil]
  omega
set_option maxHeartbeats 8000000 in
set_option maxRecDepth 100000 in
theorem good0 (a b : Nat) (w : World) (hT : TabB w w.heap.size) (h1 : 16 ≤ a) (h2 : a ≤ 255) (h3 : 16 ≤ b) (h4 : b ≤ 255) :
    Calls Tryd.prog 4 #[.int .i64 a, .int .i64 b, .int .i64 0] w fun e w' => e = .returned (.bool true) ∧ Below w.heap.size w w' := by
  have F10 := fun W (hw : Below w.heap.size w W) => Lib.hid (fixed10 W ((hT.below hw (Nat.le_refl _)).more hw.size))
  have DA := fun W d os => Lib.hid (rdgt_any a (grow (redrawn W d) os) (by omega))
  have DB := fun W d os => Lib.hid (rdgt_any b (grow (redrawn W d) os) (by omega))
  have E0 : evalP (prT 0 a b) [] 5 100 = (((b : Int), (0, 0)), 5, 0) := eval_traps (k := 0) (by decide) (a := a) (b := b) (by omega) (by omega) (by omega) (by omega)
  have E0 := Lib.hid E0
  have OR := fun W => Lib.hid (of10_any (txT 0 a b) W (text_len 0 a b (by omega) (by omega)))
  have hpt := text_T (k := 0) (by decide) (a := a) (b := b) (by omega) (by omega) (by omega) (by omega)
  rw [hpt] at OR
  have OR1 : ∀ W, Hid (Calls Tryd.prog 9 #[.string ⟨(txT 0 a b).toArray⟩] W fun e w' => ∃ A c, e = .returned (.slice A 3 c) ∧ ProgAt w' w'.heap.size A (prT 0 a b) ∧ Below W.heap.size W w') := OR
  have hzr : SizedP (prT 0 a b) := by rw [← hpt]; exact parse_sized _
  have HZR := Lib.hid hzr
  have HT := Lib.hid hT
  have c0 : decide ((a : Int) < 16) = false := decide_eq_false (by omega)
  have c1 : decide (255 < (a : Int)) = false := decide_eq_false (by omega)
  have c2 : decide ((b : Int) < 16) = false := decide_eq_false (by omega)
  have c3 : decide (255 < (b : Int)) = false := decide_eq_false (by omega)
  have htx : txT 0 a b = hdT ++ endX 0 ++ m1T ++ Lib.decDigits a ++ m2T ++ Lib.decDigits b ++ [10] := rfl
  have HTX := Lib.hid htx
  have dla := dgd_len a
  have dlb := dgd_len b
  clear htx OR hpt hT h1 h3 hzr
  have hw0 : Below w.heap.size w w := Below.refl _ _
  generalize txT 0 a b = tx at *
  have hla : (Lib.decDigits a).length ≤ 1000 := by omega
  have hlb : (Lib.decDigits b).length ≤ 1000 := by omega
  clear dla dlb h2 h4
  generalize hda : Lib.decDigits a = da at *
  generalize hdb : Lib.decDigits b = db at *
  clear hda hdb
  have n1 : 58 + da.length ≤ 9223372036854775807 := by omega
  have n2 : 58 + da.length + 17 ≤ 9223372036854775807 := by omega
  have n3 : 58 + da.length + 17 + db.length ≤ 9223372036854775807 := by omega
  have n4 : 58 + da.length + 17 + db.length + 1 ≤ 9223372036854775807 := by omega
  clear hla hlb
  generalize hA : (a : Int) = a' at *
  generalize hB : (b : Int) = b' at *
  clear hA hB
  go_enter Tryd.func4, Tryd.ntmps4
  go_upto_region 4 with (go_at_call 5; (with_reducible refine (F10 _ hw0).out.mono ?_); rintro _ u ⟨rfl, hb⟩; replace hw0 := Below.step hw0 hb)
  have hS := Held.new u 9 #[.string ⟨#[106, 111, 105, 110, 32, 49, 10, 114, 101, 116, 10]⟩, .string ⟨#[112, 117, 115, 104, 32, 49, 32, 48, 10, 114, 101, 116, 10]⟩, .string ⟨#[116, 114, 97, 112, 32, 57, 57, 10]⟩, .string ⟨#[106, 111, 105, 110, 32, 48, 10, 114, 101, 116, 10]⟩]
  have hw1 : Below w.heap.size w (u.alloc (.cells #[.string ⟨#[106, 111, 105, 110, 32, 49, 10, 114, 101, 116, 10]⟩, .string ⟨#[112, 117, 115, 104, 32, 49, 32, 48, 10, 114, 101, 116, 10]⟩, .string ⟨#[116, 114, 97, 112, 32, 57, 57, 10]⟩, .string ⟨#[106, 111, 105, 110, 32, 48, 10, 114, 101, 116, 10]⟩] 9)) := hw0.alloc hw0.size _
  have s0 := hS.cell 0
  have sg := fun d os => cell_regrown s0 d os
  have DA4 := fun d os => DA (u.alloc (.cells #[.string ⟨#[106, 111, 105, 110, 32, 49, 10, 114, 101, 116, 10]⟩, .string ⟨#[112, 117, 115, 104, 32, 49, 32, 48, 10, 114, 101, 116, 10]⟩, .string ⟨#[116, 114, 97, 112, 32, 57, 57, 10]⟩, .string ⟨#[106, 111, 105, 110, 32, 48, 10, 114, 101, 116, 10]⟩] 9)) d os
  have DB4 := fun d os => DB (u.alloc (.cells #[.string ⟨#[106, 111, 105, 110, 32, 49, 10, 114, 101, 116, 10]⟩, .string ⟨#[112, 117, 115, 104, 32, 49, 32, 48, 10, 114, 101, 116, 10]⟩, .string ⟨#[116, 114, 97, 112, 32, 57, 57, 10]⟩, .string ⟨#[106, 111, 105, 110, 32, 48, 10, 114, 101, 116, 10]⟩] 9)) d os
  clear s0 hS DA DB
  generalize (u.alloc (.cells #[.string ⟨#[106, 111, 105, 110, 32, 49, 10, 114, 101, 116, 10]⟩, .string ⟨#[112, 117, 115, 104, 32, 49, 32, 48, 10, 114, 101, 116, 10]⟩, .string ⟨#[116, 114, 97, 112, 32, 57, 57, 10]⟩, .string ⟨#[106, 111, 105, 110, 32, 48, 10, 114, 101, 116, 10]⟩] 9)) = W1 at *
  refine wp_region_quiet_below (by kernel_rfl) (by kernel_rfl) ?_
  (repeat (first
    | go_big_quiet_step ((go_at_call 8; (first | (with_reducible exact Calls.regrown_of (DA4 _ _).out) | (with_reducible exact Calls.regrown_of (DB4 _ _).out))))
    | quiet_step ((go_at_call 8; (first | (with_reducible exact Calls.regrown_of (DA4 _ _).out) | (with_reducible exact Calls.regrown_of (DB4 _ _).out))))))
  refine wpQuiet_nil ?_
  intro U hv
  have hbU := below_of_regrown hv
  replace hw1 := Below.step hw1 hbU
  clear hv hbU sg DA4 DB4 hw0
  have hstr : (⟨#[102, 117, 110, 99, 32, 48, 32, 48, 32, 50, 10, 115, 112, 97, 119, 110, 32, 50, 32, 49, 10, 115, 112, 97, 119, 110, 32, 49, 32, 48, 10]⟩ : ByteArray) ++ ⟨#[106, 111, 105, 110, 32, 49, 10, 114, 101, 116, 10]⟩ ++ ⟨#[102, 117, 110, 99, 32, 48, 32, 48, 32, 48, 10, 116, 114, 97, 112, 32]⟩ ++ ⟨da.toArray⟩ ++ ⟨#[10, 102, 117, 110, 99, 32, 48, 32, 48, 32, 48, 10, 116, 114, 97, 112, 32]⟩ ++ ⟨db.toArray⟩ ++ ⟨#[10]⟩ = ⟨tx.toArray⟩ := by
    rw [HTX.out]
    apply ByteArray.ext
    simp [hdT, endX, m1T, m2T]
  rw [← hstr] at OR1
  clear hstr HTX n1 n2 n3 n4
  have o0 : True := trivial
  go_upto_region 6 with (first
    | (go_at_call 9; (with_reducible refine (OR1 _).out.mono ?_); rintro _ U2 ⟨A3, cq, rfl, hpB, hbB⟩; replace hw1 := Below.step hw1 hbB; have EB := Lib.hid (show Ev (prT 0 a' b') A3 3 cq U2 from ev_of (c := cq) ((HT.out.below hw1 (Nat.le_refl _)).more hw1.size) hpB HZR.out))
    | (go_at_call 7; (with_reducible refine (EB.out.ev _ _ 0 _ _ _ _ _ (Below.refl U2.heap.size U2) ev_none rfl (by decide) E0.out).mono ?_); rintro _ u3 ⟨rfl, hb3⟩; have hz3 := Held.new u3 32 oz0)
    | (guard_target = wpList _ _ _ (Oper.mk _ (Op.alloc 32) _ _ _ none :: _) _ _; refine wpList_alloc_arr rfl 32 rfl oz0 (by kernel_rfl) ?_)
    | (guard_target = wpList _ _ _ (Oper.mk _ (Op.store 32 (.tmp 9) (.tmp 60)) _ _ _ none :: _) _ _; refine wpList_store_row rfl 32 _ _ rfl u3.heap.size #[.int .i64 b', .int .i64 0, .int .i64 0] rfl rfl _ _ hz3 (by kernel_rfl) rfl (by simp [Value.oneCell']) ?_))
  obtain ⟨hO3, _, hn3⟩ := out_kept (cs := #[.int .i64 b', .int .i64 0, .int .i64 0]) hb3
  have hs3 := Below.step hb3 hn3
  replace hw1 := Below.step hw1 hs3
  generalize (u3.alloc (.cells oz0 32)).setRow u3.heap.size #[.int .i64 b', .int .i64 0, .int .i64 0] = W3 at *
  clear hn3 hs3 hb3 hz3 EB hpB hbB OR1 E0 HT HZR F10 o0 c0 c1 c2 c3
  go_upto_region 8 with fail
  have hB : Held ((W3.alloc (.cells #[.int .i64 b', .int .i64 a', .int .i64 99, .int .i64 a'] 3)).alloc (.cells #[.int .i64 5, .int .i64 6, .int .i64 5, .int .i64 5] 3)) (W3.heap.size + 1) 3 #[.int .i64 5, .int .i64 6, .int .i64 5, .int .i64 5] := by
    have := Held.new (W3.alloc (.cells #[.int .i64 b', .int .i64 a', .int .i64 99, .int .i64 a'] 3)) 3 #[.int .i64 5, .int .i64 6, .int .i64 5, .int .i64 5]
    simpa using this
  have hA := Held.new W3 3 #[.int .i64 b', .int .i64 a', .int .i64 99, .int .i64 a']
  have hbA : Below W3.heap.size W3 (W3.alloc (.cells #[.int .i64 b', .int .i64 a', .int .i64 99, .int .i64 a'] 3)) := (Below.refl _ _).alloc (Nat.le_refl _) _
  replace hO3 := hO3.below hbA
  replace hw1 := Below.step hw1 hbA
  generalize W3.alloc (.cells #[.int .i64 b', .int .i64 a', .int .i64 99, .int .i64 a'] 3) = WA at *
  have hbB : Below WA.heap.size WA (WA.alloc (.cells #[.int .i64 5, .int .i64 6, .int .i64 5, .int .i64 5] 3)) := (Below.refl _ _).alloc (Nat.le_refl _) _
  replace hO3 := hO3.below hbB
  replace hA := hA.below hbB
  replace hw1 := Below.step hw1 hbB
  generalize WA.alloc (.cells #[.int .i64 5, .int .i64 6, .int .i64 5, .int .i64 5] 3) = WB at *
  have x0 := hO3.cell 0
  have x1 := hO3.cell 1
  have x2 := hO3.cell 2
  have ya := hA.cell 0
  have yb := hB.cell 0
  simp at x0 x1 x2 ya yb
  have q0 := fun d os => cell_regrown x0 d os
  have q1 := fun d os => cell_regrown x1 d os
  have q2 := fun d os => cell_regrown x2 d os
  have qa := fun d os => cell_regrown ya d os
  have qb := fun d os => cell_regrown yb d os
  clear hbA hbB hA hB hO3 x0 x1 x2 ya yb
  refine wp_region_quiet_below (by kernel_rfl) (by kernel_rfl) ?_
  (repeat (first | go_big_quiet_step (fail) | quiet_step (fail)))
  refine wpQuiet_nil ?_
  intro U9 hv
  have hbU := below_of_regrown hv
  replace hw1 := Below.step hw1 hbU
  clear hv hbU q0 q1 q2 qa qb
  go_wp2_with fail
  go_ret
  exact ⟨rfl, hw1⟩
set_option maxHeartbeats 8000000 in
set_option maxRecDepth 100000 in
theorem good1 (a b : Nat) (w : World) (hT : TabB w w.heap.size) (h1 : 16 ≤ a) (h2 : a ≤ 255) (h3 : 16 ≤ b) (h4 : b ≤ 255) :
    Calls Tryd.prog 4 #[.int .i64 a, .int .i64 b, .int .i64 1] w fun e w' => e = .returned (.bool true) ∧ Below w.heap.size w w' := by
  have F10 := fun W (hw : Below w.heap.size w W) => Lib.hid (fixed10 W ((hT.below hw (Nat.le_refl _)).more hw.size))
  have DA := fun W d os => Lib.hid (rdgt_any a (grow (redrawn W d) os) (by omega))
  have DB := fun W d os => Lib.hid (rdgt_any b (grow (redrawn W d) os) (by omega))
  have E0 : evalP (prT 1 a b) [] 5 100 = (((a : Int), (0, 0)), 6, 0) := eval_traps (k := 1) (by decide) (a := a) (b := b) (by omega) (by omega) (by omega) (by omega)
  have E0 := Lib.hid E0
  have OR := fun W => Lib.hid (of10_any (txT 1 a b) W (text_len 1 a b (by omega) (by omega)))
  have hpt := text_T (k := 1) (by decide) (a := a) (b := b) (by omega) (by omega) (by omega) (by omega)
  rw [hpt] at OR
  have OR1 : ∀ W, Hid (Calls Tryd.prog 9 #[.string ⟨(txT 1 a b).toArray⟩] W fun e w' => ∃ A c, e = .returned (.slice A 3 c) ∧ ProgAt w' w'.heap.size A (prT 1 a b) ∧ Below W.heap.size W w') := OR
  have hzr : SizedP (prT 1 a b) := by rw [← hpt]; exact parse_sized _
  have HZR := Lib.hid hzr
  have HT := Lib.hid hT
  have c0 : decide ((a : Int) < 16) = false := decide_eq_false (by omega)
  have c1 : decide (255 < (a : Int)) = false := decide_eq_false (by omega)
  have c2 : decide ((b : Int) < 16) = false := decide_eq_false (by omega)
  have c3 : decide (255 < (b : Int)) = false := decide_eq_false (by omega)
  have htx : txT 1 a b = hdT ++ endX 1 ++ m1T ++ Lib.decDigits a ++ m2T ++ Lib.decDigits b ++ [10] := rfl
  have HTX := Lib.hid htx
  have dla := dgd_len a
  have dlb := dgd_len b
  clear htx OR hpt hT h1 h3 hzr
  have hw0 : Below w.heap.size w w := Below.refl _ _
  generalize txT 1 a b = tx at *
  have hla : (Lib.decDigits a).length ≤ 1000 := by omega
  have hlb : (Lib.decDigits b).length ≤ 1000 := by omega
  clear dla dlb h2 h4
  generalize hda : Lib.decDigits a = da at *
  generalize hdb : Lib.decDigits b = db at *
  clear hda hdb
  have n1 : 60 + da.length ≤ 9223372036854775807 := by omega
  have n2 : 60 + da.length + 17 ≤ 9223372036854775807 := by omega
  have n3 : 60 + da.length + 17 + db.length ≤ 9223372036854775807 := by omega
  have n4 : 60 + da.length + 17 + db.length + 1 ≤ 9223372036854775807 := by omega
  clear hla hlb
  generalize hA : (a : Int) = a' at *
  generalize hB : (b : Int) = b' at *
  clear hA hB
  go_enter Tryd.func4, Tryd.ntmps4
  go_upto_region 4 with (go_at_call 5; (with_reducible refine (F10 _ hw0).out.mono ?_); rintro _ u ⟨rfl, hb⟩; replace hw0 := Below.step hw0 hb)
  have hS := Held.new u 9 #[.string ⟨#[106, 111, 105, 110, 32, 49, 10, 114, 101, 116, 10]⟩, .string ⟨#[112, 117, 115, 104, 32, 49, 32, 48, 10, 114, 101, 116, 10]⟩, .string ⟨#[116, 114, 97, 112, 32, 57, 57, 10]⟩, .string ⟨#[106, 111, 105, 110, 32, 48, 10, 114, 101, 116, 10]⟩]
  have hw1 : Below w.heap.size w (u.alloc (.cells #[.string ⟨#[106, 111, 105, 110, 32, 49, 10, 114, 101, 116, 10]⟩, .string ⟨#[112, 117, 115, 104, 32, 49, 32, 48, 10, 114, 101, 116, 10]⟩, .string ⟨#[116, 114, 97, 112, 32, 57, 57, 10]⟩, .string ⟨#[106, 111, 105, 110, 32, 48, 10, 114, 101, 116, 10]⟩] 9)) := hw0.alloc hw0.size _
  have s0 := hS.cell 1
  have sg := fun d os => cell_regrown s0 d os
  have DA4 := fun d os => DA (u.alloc (.cells #[.string ⟨#[106, 111, 105, 110, 32, 49, 10, 114, 101, 116, 10]⟩, .string ⟨#[112, 117, 115, 104, 32, 49, 32, 48, 10, 114, 101, 116, 10]⟩, .string ⟨#[116, 114, 97, 112, 32, 57, 57, 10]⟩, .string ⟨#[106, 111, 105, 110, 32, 48, 10, 114, 101, 116, 10]⟩] 9)) d os
  have DB4 := fun d os => DB (u.alloc (.cells #[.string ⟨#[106, 111, 105, 110, 32, 49, 10, 114, 101, 116, 10]⟩, .string ⟨#[112, 117, 115, 104, 32, 49, 32, 48, 10, 114, 101, 116, 10]⟩, .string ⟨#[116, 114, 97, 112, 32, 57, 57, 10]⟩, .string ⟨#[106, 111, 105, 110, 32, 48, 10, 114, 101, 116, 10]⟩] 9)) d os
  clear s0 hS DA DB
  generalize (u.alloc (.cells #[.string ⟨#[106, 111, 105, 110, 32, 49, 10, 114, 101, 116, 10]⟩, .string ⟨#[112, 117, 115, 104, 32, 49, 32, 48, 10, 114, 101, 116, 10]⟩, .string ⟨#[116, 114, 97, 112, 32, 57, 57, 10]⟩, .string ⟨#[106, 111, 105, 110, 32, 48, 10, 114, 101, 116, 10]⟩] 9)) = W1 at *
  refine wp_region_quiet_below (by kernel_rfl) (by kernel_rfl) ?_
  (repeat (first
    | go_big_quiet_step ((go_at_call 8; (first | (with_reducible exact Calls.regrown_of (DA4 _ _).out) | (with_reducible exact Calls.regrown_of (DB4 _ _).out))))
    | quiet_step ((go_at_call 8; (first | (with_reducible exact Calls.regrown_of (DA4 _ _).out) | (with_reducible exact Calls.regrown_of (DB4 _ _).out))))))
  refine wpQuiet_nil ?_
  intro U hv
  have hbU := below_of_regrown hv
  replace hw1 := Below.step hw1 hbU
  clear hv hbU sg DA4 DB4 hw0
  have hstr : (⟨#[102, 117, 110, 99, 32, 48, 32, 48, 32, 50, 10, 115, 112, 97, 119, 110, 32, 50, 32, 49, 10, 115, 112, 97, 119, 110, 32, 49, 32, 48, 10]⟩ : ByteArray) ++ ⟨#[112, 117, 115, 104, 32, 49, 32, 48, 10, 114, 101, 116, 10]⟩ ++ ⟨#[102, 117, 110, 99, 32, 48, 32, 48, 32, 48, 10, 116, 114, 97, 112, 32]⟩ ++ ⟨da.toArray⟩ ++ ⟨#[10, 102, 117, 110, 99, 32, 48, 32, 48, 32, 48, 10, 116, 114, 97, 112, 32]⟩ ++ ⟨db.toArray⟩ ++ ⟨#[10]⟩ = ⟨tx.toArray⟩ := by
    rw [HTX.out]
    apply ByteArray.ext
    simp [hdT, endX, m1T, m2T]
  rw [← hstr] at OR1
  clear hstr HTX n1 n2 n3 n4
  have o0 : True := trivial
  go_upto_region 6 with (first
    | (go_at_call 9; (with_reducible refine (OR1 _).out.mono ?_); rintro _ U2 ⟨A3, cq, rfl, hpB, hbB⟩; replace hw1 := Below.step hw1 hbB; have EB := Lib.hid (show Ev (prT 1 a' b') A3 3 cq U2 from ev_of (c := cq) ((HT.out.below hw1 (Nat.le_refl _)).more hw1.size) hpB HZR.out))
    | (go_at_call 7; (with_reducible refine (EB.out.ev _ _ 0 _ _ _ _ _ (Below.refl U2.heap.size U2) ev_none rfl (by decide) E0.out).mono ?_); rintro _ u3 ⟨rfl, hb3⟩; have hz3 := Held.new u3 32 oz0)
    | (guard_target = wpList _ _ _ (Oper.mk _ (Op.alloc 32) _ _ _ none :: _) _ _; refine wpList_alloc_arr rfl 32 rfl oz0 (by kernel_rfl) ?_)
    | (guard_target = wpList _ _ _ (Oper.mk _ (Op.store 32 (.tmp 9) (.tmp 60)) _ _ _ none :: _) _ _; refine wpList_store_row rfl 32 _ _ rfl u3.heap.size #[.int .i64 a', .int .i64 0, .int .i64 0] rfl rfl _ _ hz3 (by kernel_rfl) rfl (by simp [Value.oneCell']) ?_))
  obtain ⟨hO3, _, hn3⟩ := out_kept (cs := #[.int .i64 a', .int .i64 0, .int .i64 0]) hb3
  have hs3 := Below.step hb3 hn3
  replace hw1 := Below.step hw1 hs3
  generalize (u3.alloc (.cells oz0 32)).setRow u3.heap.size #[.int .i64 a', .int .i64 0, .int .i64 0] = W3 at *
  clear hn3 hs3 hb3 hz3 EB hpB hbB OR1 E0 HT HZR F10 o0 c0 c1 c2 c3
  go_upto_region 8 with fail
  have hB : Held ((W3.alloc (.cells #[.int .i64 b', .int .i64 a', .int .i64 99, .int .i64 a'] 3)).alloc (.cells #[.int .i64 5, .int .i64 6, .int .i64 5, .int .i64 5] 3)) (W3.heap.size + 1) 3 #[.int .i64 5, .int .i64 6, .int .i64 5, .int .i64 5] := by
    have := Held.new (W3.alloc (.cells #[.int .i64 b', .int .i64 a', .int .i64 99, .int .i64 a'] 3)) 3 #[.int .i64 5, .int .i64 6, .int .i64 5, .int .i64 5]
    simpa using this
  have hA := Held.new W3 3 #[.int .i64 b', .int .i64 a', .int .i64 99, .int .i64 a']
  have hbA : Below W3.heap.size W3 (W3.alloc (.cells #[.int .i64 b', .int .i64 a', .int .i64 99, .int .i64 a'] 3)) := (Below.refl _ _).alloc (Nat.le_refl _) _
  replace hO3 := hO3.below hbA
  replace hw1 := Below.step hw1 hbA
  generalize W3.alloc (.cells #[.int .i64 b', .int .i64 a', .int .i64 99, .int .i64 a'] 3) = WA at *
  have hbB : Below WA.heap.size WA (WA.alloc (.cells #[.int .i64 5, .int .i64 6, .int .i64 5, .int .i64 5] 3)) := (Below.refl _ _).alloc (Nat.le_refl _) _
  replace hO3 := hO3.below hbB
  replace hA := hA.below hbB
  replace hw1 := Below.step hw1 hbB
  generalize WA.alloc (.cells #[.int .i64 5, .int .i64 6, .int .i64 5, .int .i64 5] 3) = WB at *
  have x0 := hO3.cell 0
  have x1 := hO3.cell 1
  have x2 := hO3.cell 2
  have ya := hA.cell 1
  have yb := hB.cell 1
  simp at x0 x1 x2 ya yb
  have q0 := fun d os => cell_regrown x0 d os
  have q1 := fun d os => cell_regrown x1 d os
  have q2 := fun d os => cell_regrown x2 d os
  have qa := fun d os => cell_regrown ya d os
  have qb := fun d os => cell_regrown yb d os
  clear hbA hbB hA hB hO3 x0 x1 x2 ya yb
  refine wp_region_quiet_below (by kernel_rfl) (by kernel_rfl) ?_
  (repeat (first | go_big_quiet_step (fail) | quiet_step (fail)))
  refine wpQuiet_nil ?_
  intro U9 hv
  have hbU := below_of_regrown hv
  replace hw1 := Below.step hw1 hbU
  clear hv hbU q0 q1 q2 qa qb
  go_wp2_with fail
  go_ret
  exact ⟨rfl, hw1⟩
set_option maxHeartbeats 8000000 in
set_option maxRecDepth 100000 in
theorem good2 (a b : Nat) (w : World) (hT : TabB w w.heap.size) (h1 : 16 ≤ a) (h2 : a ≤ 255) (h3 : 16 ≤ b) (h4 : b ≤ 255) :
    Calls Tryd.prog 4 #[.int .i64 a, .int .i64 b, .int .i64 2] w fun e w' => e = .returned (.bool true) ∧ Below w.heap.size w w' := by
  have F10 := fun W (hw : Below w.heap.size w W) => Lib.hid (fixed10 W ((hT.below hw (Nat.le_refl _)).more hw.size))
  have DA := fun W d os => Lib.hid (rdgt_any a (grow (redrawn W d) os) (by omega))
  have DB := fun W d os => Lib.hid (rdgt_any b (grow (redrawn W d) os) (by omega))
  have E0 : evalP (prT 2 a b) [] 5 100 = ((99, (0, 0)), 5, 0) := eval_traps (k := 2) (by decide) (a := a) (b := b) (by omega) (by omega) (by omega) (by omega)
  have E0 := Lib.hid E0
  have OR := fun W => Lib.hid (of10_any (txT 2 a b) W (text_len 2 a b (by omega) (by omega)))
  have hpt := text_T (k := 2) (by decide) (a := a) (b := b) (by omega) (by omega) (by omega) (by omega)
  rw [hpt] at OR
  have OR1 : ∀ W, Hid (Calls Tryd.prog 9 #[.string ⟨(txT 2 a b).toArray⟩] W fun e w' => ∃ A c, e = .returned (.slice A 3 c) ∧ ProgAt w' w'.heap.size A (prT 2 a b) ∧ Below W.heap.size W w') := OR
  have hzr : SizedP (prT 2 a b) := by rw [← hpt]; exact parse_sized _
  have HZR := Lib.hid hzr
  have HT := Lib.hid hT
  have c0 : decide ((a : Int) < 16) = false := decide_eq_false (by omega)
  have c1 : decide (255 < (a : Int)) = false := decide_eq_false (by omega)
  have c2 : decide ((b : Int) < 16) = false := decide_eq_false (by omega)
  have c3 : decide (255 < (b : Int)) = false := decide_eq_false (by omega)
  have htx : txT 2 a b = hdT ++ endX 2 ++ m1T ++ Lib.decDigits a ++ m2T ++ Lib.decDigits b ++ [10] := rfl
  have HTX := Lib.hid htx
  have dla := dgd_len a
  have dlb := dgd_len b
  clear htx OR hpt hT h1 h3 hzr
  have hw0 : Below w.heap.size w w := Below.refl _ _
  generalize txT 2 a b = tx at *
  have hla : (Lib.decDigits a).length ≤ 1000 := by omega
  have hlb : (Lib.decDigits b).length ≤ 1000 := by omega
  clear dla dlb h2 h4
  generalize hda : Lib.decDigits a = da at *
  generalize hdb : Lib.decDigits b = db at *
  clear hda hdb
  have n1 : 55 + da.length ≤ 9223372036854775807 := by omega
  have n2 : 55 + da.length + 17 ≤ 9223372036854775807 := by omega
  have n3 : 55 + da.length + 17 + db.length ≤ 9223372036854775807 := by omega
  have n4 : 55 + da.length + 17 + db.length + 1 ≤ 9223372036854775807 := by omega
  clear hla hlb
  generalize hA : (a : Int) = a' at *
  generalize hB : (b : Int) = b' at *
  clear hA hB
  go_enter Tryd.func4, Tryd.ntmps4
  go_upto_region 4 with (go_at_call 5; (with_reducible refine (F10 _ hw0).out.mono ?_); rintro _ u ⟨rfl, hb⟩; replace hw0 := Below.step hw0 hb)
  have hS := Held.new u 9 #[.string ⟨#[106, 111, 105, 110, 32, 49, 10, 114, 101, 116, 10]⟩, .string ⟨#[112, 117, 115, 104, 32, 49, 32, 48, 10, 114, 101, 116, 10]⟩, .string ⟨#[116, 114, 97, 112, 32, 57, 57, 10]⟩, .string ⟨#[106, 111, 105, 110, 32, 48, 10, 114, 101, 116, 10]⟩]
  have hw1 : Below w.heap.size w (u.alloc (.cells #[.string ⟨#[106, 111, 105, 110, 32, 49, 10, 114, 101, 116, 10]⟩, .string ⟨#[112, 117, 115, 104, 32, 49, 32, 48, 10, 114, 101, 116, 10]⟩, .string ⟨#[116, 114, 97, 112, 32, 57, 57, 10]⟩, .string ⟨#[106, 111, 105, 110, 32, 48, 10, 114, 101, 116, 10]⟩] 9)) := hw0.alloc hw0.size _
  have s0 := hS.cell 2
  have sg := fun d os => cell_regrown s0 d os
  have DA4 := fun d os => DA (u.alloc (.cells #[.string ⟨#[106, 111, 105, 110, 32, 49, 10, 114, 101, 116, 10]⟩, .string ⟨#[112, 117, 115, 104, 32, 49, 32, 48, 10, 114, 101, 116, 10]⟩, .string ⟨#[116, 114, 97, 112, 32, 57, 57, 10]⟩, .string ⟨#[106, 111, 105, 110, 32, 48, 10, 114, 101, 116, 10]⟩] 9)) d os
  have DB4 := fun d os => DB (u.alloc (.cells #[.string ⟨#[106, 111, 105, 110, 32, 49, 10, 114, 101, 116, 10]⟩, .string ⟨#[112, 117, 115, 104, 32, 49, 32, 48, 10, 114, 101, 116, 10]⟩, .string ⟨#[116, 114, 97, 112, 32, 57, 57, 10]⟩, .string ⟨#[106, 111, 105, 110, 32, 48, 10, 114, 101, 116, 10]⟩] 9)) d os
  clear s0 hS DA DB
  generalize (u.alloc (.cells #[.string ⟨#[106, 111, 105, 110, 32, 49, 10, 114, 101, 116, 10]⟩, .string ⟨#[112, 117, 115, 104, 32, 49, 32, 48, 10, 114, 101, 116, 10]⟩, .string ⟨#[116, 114, 97, 112, 32, 57, 57, 10]⟩, .string ⟨#[106, 111, 105, 110, 32, 48, 10, 114, 101, 116, 10]⟩] 9)) = W1 at *
  refine wp_region_quiet_below (by kernel_rfl) (by kernel_rfl) ?_
  (repeat (first
    | go_big_quiet_step ((go_at_call 8; (first | (with_reducible exact Calls.regrown_of (DA4 _ _).out) | (with_reducible exact Calls.regrown_of (DB4 _ _).out))))
    | quiet_step ((go_at_call 8; (first | (with_reducible exact Calls.regrown_of (DA4 _ _).out) | (with_reducible exact Calls.regrown_of (DB4 _ _).out))))))
  refine wpQuiet_nil ?_
  intro U hv
  have hbU := below_of_regrown hv
  replace hw1 := Below.step hw1 hbU
  clear hv hbU sg DA4 DB4 hw0
  have hstr : (⟨#[102, 117, 110, 99, 32, 48, 32, 48, 32, 50, 10, 115, 112, 97, 119, 110, 32, 50, 32, 49, 10, 115, 112, 97, 119, 110, 32, 49, 32, 48, 10]⟩ : ByteArray) ++ ⟨#[116, 114, 97, 112, 32, 57, 57, 10]⟩ ++ ⟨#[102, 117, 110, 99, 32, 48, 32, 48, 32, 48, 10, 116, 114, 97, 112, 32]⟩ ++ ⟨da.toArray⟩ ++ ⟨#[10, 102, 117, 110, 99, 32, 48, 32, 48, 32, 48, 10, 116, 114, 97, 112, 32]⟩ ++ ⟨db.toArray⟩ ++ ⟨#[10]⟩ = ⟨tx.toArray⟩ := by
    rw [HTX.out]
    apply ByteArray.ext
    simp [hdT, endX, m1T, m2T]
  rw [← hstr] at OR1
  clear hstr HTX n1 n2 n3 n4
  have o0 : True := trivial
  go_upto_region 6 with (first
    | (go_at_call 9; (with_reducible refine (OR1 _).out.mono ?_); rintro _ U2 ⟨A3, cq, rfl, hpB, hbB⟩; replace hw1 := Below.step hw1 hbB; have EB := Lib.hid (show Ev (prT 2 a' b') A3 3 cq U2 from ev_of (c := cq) ((HT.out.below hw1 (Nat.le_refl _)).more hw1.size) hpB HZR.out))
    | (go_at_call 7; (with_reducible refine (EB.out.ev _ _ 0 _ _ _ _ _ (Below.refl U2.heap.size U2) ev_none rfl (by decide) E0.out).mono ?_); rintro _ u3 ⟨rfl, hb3⟩; have hz3 := Held.new u3 32 oz0)
    | (guard_target = wpList _ _ _ (Oper.mk _ (Op.alloc 32) _ _ _ none :: _) _ _; refine wpList_alloc_arr rfl 32 rfl oz0 (by kernel_rfl) ?_)
    | (guard_target = wpList _ _ _ (Oper.mk _ (Op.store 32 (.tmp 9) (.tmp 60)) _ _ _ none :: _) _ _; refine wpList_store_row rfl 32 _ _ rfl u3.heap.size #[.int .i64 99, .int .i64 0, .int .i64 0] rfl rfl _ _ hz3 (by kernel_rfl) rfl (by simp [Value.oneCell']) ?_))
  obtain ⟨hO3, _, hn3⟩ := out_kept (cs := #[.int .i64 99, .int .i64 0, .int .i64 0]) hb3
  have hs3 := Below.step hb3 hn3
  replace hw1 := Below.step hw1 hs3
  generalize (u3.alloc (.cells oz0 32)).setRow u3.heap.size #[.int .i64 99, .int .i64 0, .int .i64 0] = W3 at *
  clear hn3 hs3 hb3 hz3 EB hpB hbB OR1 E0 HT HZR F10 o0 c0 c1 c2 c3
  go_upto_region 8 with fail
  have hB : Held ((W3.alloc (.cells #[.int .i64 b', .int .i64 a', .int .i64 99, .int .i64 a'] 3)).alloc (.cells #[.int .i64 5, .int .i64 6, .int .i64 5, .int .i64 5] 3)) (W3.heap.size + 1) 3 #[.int .i64 5, .int .i64 6, .int .i64 5, .int .i64 5] := by
    have := Held.new (W3.alloc (.cells #[.int .i64 b', .int .i64 a', .int .i64 99, .int .i64 a'] 3)) 3 #[.int .i64 5, .int .i64 6, .int .i64 5, .int .i64 5]
    simpa using this
  have hA := Held.new W3 3 #[.int .i64 b', .int .i64 a', .int .i64 99, .int .i64 a']
  have hbA : Below W3.heap.size W3 (W3.alloc (.cells #[.int .i64 b', .int .i64 a', .int .i64 99, .int .i64 a'] 3)) := (Below.refl _ _).alloc (Nat.le_refl _) _
  replace hO3 := hO3.below hbA
  replace hw1 := Below.step hw1 hbA
  generalize W3.alloc (.cells #[.int .i64 b', .int .i64 a', .int .i64 99, .int .i64 a'] 3) = WA at *
  have hbB : Below WA.heap.size WA (WA.alloc (.cells #[.int .i64 5, .int .i64 6, .int .i64 5, .int .i64 5] 3)) := (Below.refl _ _).alloc (Nat.le_refl _) _
  replace hO3 := hO3.below hbB
  replace hA := hA.below hbB
  replace hw1 := Below.step hw1 hbB
  generalize WA.alloc (.cells #[.int .i64 5, .int .i64 6, .int .i64 5, .int .i64 5] 3) = WB at *
  have x0 := hO3.cell 0
  have x1 := hO3.cell 1
  have x2 := hO3.cell 2
  have ya := hA.cell 2
  have yb := hB.cell 2
  simp at x0 x1 x2 ya yb
  have q0 := fun d os => cell_regrown x0 d os
  have q1 := fun d os => cell_regrown x1 d os
  have q2 := fun d os => cell_regrown x2 d os
  have qa := fun d os => cell_regrown ya d os
  have qb := fun d os => cell_regrown yb d os
  clear hbA hbB hA hB hO3 x0 x1 x2 ya yb
  refine wp_region_quiet_below (by kernel_rfl) (by kernel_rfl) ?_
  (repeat (first | go_big_quiet_step (fail) | quiet_step (fail)))
  refine wpQuiet_nil ?_
  intro U9 hv
  have hbU := below_of_regrown hv
  replace hw1 := Below.step hw1 hbU
  clear hv hbU q0 q1 q2 qa qb
  go_wp2_with fail
  go_ret
  exact ⟨rfl, hw1⟩
set_option maxHeartbeats 8000000 in
set_option maxRecDepth 100000 in
theorem good3 (a b : Nat) (w : World) (hT : TabB w w.heap.size) (h1 : 16 ≤ a) (h2 : a ≤ 255) (h3 : 16 ≤ b) (h4 : b ≤ 255) :
    Calls Tryd.prog 4 #[.int .i64 a, .int .i64 b, .int .i64 3] w fun e w' => e = .returned (.bool true) ∧ Below w.heap.size w w' := by
  have F10 := fun W (hw : Below w.heap.size w W) => Lib.hid (fixed10 W ((hT.below hw (Nat.le_refl _)).more hw.size))
  have DA := fun W d os => Lib.hid (rdgt_any a (grow (redrawn W d) os) (by omega))
  have DB := fun W d os => Lib.hid (rdgt_any b (grow (redrawn W d) os) (by omega))
  have E0 : evalP (prT 3 a b) [] 5 100 = (((a : Int), (0, 0)), 5, 0) := eval_traps (k := 3) (by decide) (a := a) (b := b) (by omega) (by omega) (by omega) (by omega)
  have E0 := Lib.hid E0
  have OR := fun W => Lib.hid (of10_any (txT 3 a b) W (text_len 3 a b (by omega) (by omega)))
  have hpt := text_T (k := 3) (by decide) (a := a) (b := b) (by omega) (by omega) (by omega) (by omega)
  rw [hpt] at OR
  have OR1 : ∀ W, Hid (Calls Tryd.prog 9 #[.string ⟨(txT 3 a b).toArray⟩] W fun e w' => ∃ A c, e = .returned (.slice A 3 c) ∧ ProgAt w' w'.heap.size A (prT 3 a b) ∧ Below W.heap.size W w') := OR
  have hzr : SizedP (prT 3 a b) := by rw [← hpt]; exact parse_sized _
  have HZR := Lib.hid hzr
  have HT := Lib.hid hT
  have c0 : decide ((a : Int) < 16) = false := decide_eq_false (by omega)
  have c1 : decide (255 < (a : Int)) = false := decide_eq_false (by omega)
  have c2 : decide ((b : Int) < 16) = false := decide_eq_false (by omega)
  have c3 : decide (255 < (b : Int)) = false := decide_eq_false (by omega)
  have htx : txT 3 a b = hdT ++ endX 3 ++ m1T ++ Lib.decDigits a ++ m2T ++ Lib.decDigits b ++ [10] := rfl
  have HTX := Lib.hid htx
  have dla := dgd_len a
  have dlb := dgd_len b
  clear htx OR hpt hT h1 h3 hzr
  have hw0 : Below w.heap.size w w := Below.refl _ _
  generalize txT 3 a b = tx at *
  have hla : (Lib.decDigits a).length ≤ 1000 := by omega
  have hlb : (Lib.decDigits b).length ≤ 1000 := by omega
  clear dla dlb h2 h4
  generalize hda : Lib.decDigits a = da at *
  generalize hdb : Lib.decDigits b = db at *
  clear hda hdb
  have n1 : 58 + da.length ≤ 9223372036854775807 := by omega
  have n2 : 58 + da.length + 17 ≤ 9223372036854775807 := by omega
  have n3 : 58 + da.length + 17 + db.length ≤ 9223372036854775807 := by omega
  have n4 : 58 + da.length + 17 + db.length + 1 ≤ 9223372036854775807 := by omega
  clear hla hlb
  generalize hA : (a : Int) = a' at *
  generalize hB : (b : Int) = b' at *
  clear hA hB
  go_enter Tryd.func4, Tryd.ntmps4
  go_upto_region 4 with (go_at_call 5; (with_reducible refine (F10 _ hw0).out.mono ?_); rintro _ u ⟨rfl, hb⟩; replace hw0 := Below.step hw0 hb)
  have hS := Held.new u 9 #[.string ⟨#[106, 111, 105, 110, 32, 49, 10, 114, 101, 116, 10]⟩, .string ⟨#[112, 117, 115, 104, 32, 49, 32, 48, 10, 114, 101, 116, 10]⟩, .string ⟨#[116, 114, 97, 112, 32, 57, 57, 10]⟩, .string ⟨#[106, 111, 105, 110, 32, 48, 10, 114, 101, 116, 10]⟩]
  have hw1 : Below w.heap.size w (u.alloc (.cells #[.string ⟨#[106, 111, 105, 110, 32, 49, 10, 114, 101, 116, 10]⟩, .string ⟨#[112, 117, 115, 104, 32, 49, 32, 48, 10, 114, 101, 116, 10]⟩, .string ⟨#[116, 114, 97, 112, 32, 57, 57, 10]⟩, .string ⟨#[106, 111, 105, 110, 32, 48, 10, 114, 101, 116, 10]⟩] 9)) := hw0.alloc hw0.size _
  have s0 := hS.cell 3
  have sg := fun d os => cell_regrown s0 d os
  have DA4 := fun d os => DA (u.alloc (.cells #[.string ⟨#[106, 111, 105, 110, 32, 49, 10, 114, 101, 116, 10]⟩, .string ⟨#[112, 117, 115, 104, 32, 49, 32, 48, 10, 114, 101, 116, 10]⟩, .string ⟨#[116, 114, 97, 112, 32, 57, 57, 10]⟩, .string ⟨#[106, 111, 105, 110, 32, 48, 10, 114, 101, 116, 10]⟩] 9)) d os
  have DB4 := fun d os => DB (u.alloc (.cells #[.string ⟨#[106, 111, 105, 110, 32, 49, 10, 114, 101, 116, 10]⟩, .string ⟨#[112, 117, 115, 104, 32, 49, 32, 48, 10, 114, 101, 116, 10]⟩, .string ⟨#[116, 114, 97, 112, 32, 57, 57, 10]⟩, .string ⟨#[106, 111, 105, 110, 32, 48, 10, 114, 101, 116, 10]⟩] 9)) d os
  clear s0 hS DA DB
  generalize (u.alloc (.cells #[.string ⟨#[106, 111, 105, 110, 32, 49, 10, 114, 101, 116, 10]⟩, .string ⟨#[112, 117, 115, 104, 32, 49, 32, 48, 10, 114, 101, 116, 10]⟩, .string ⟨#[116, 114, 97, 112, 32, 57, 57, 10]⟩, .string ⟨#[106, 111, 105, 110, 32, 48, 10, 114, 101, 116, 10]⟩] 9)) = W1 at *
  refine wp_region_quiet_below (by kernel_rfl) (by kernel_rfl) ?_
  (repeat (first
    | go_big_quiet_step ((go_at_call 8; (first | (with_reducible exact Calls.regrown_of (DA4 _ _).out) | (with_reducible exact Calls.regrown_of (DB4 _ _).out))))
    | quiet_step ((go_at_call 8; (first | (with_reducible exact Calls.regrown_of (DA4 _ _).out) | (with_reducible exact Calls.regrown_of (DB4 _ _).out))))))
  refine wpQuiet_nil ?_
  intro U hv
  have hbU := below_of_regrown hv
  replace hw1 := Below.step hw1 hbU
  clear hv hbU sg DA4 DB4 hw0
  have hstr : (⟨#[102, 117, 110, 99, 32, 48, 32, 48, 32, 50, 10, 115, 112, 97, 119, 110, 32, 50, 32, 49, 10, 115, 112, 97, 119, 110, 32, 49, 32, 48, 10]⟩ : ByteArray) ++ ⟨#[106, 111, 105, 110, 32, 48, 10, 114, 101, 116, 10]⟩ ++ ⟨#[102, 117, 110, 99, 32, 48, 32, 48, 32, 48, 10, 116, 114, 97, 112, 32]⟩ ++ ⟨da.toArray⟩ ++ ⟨#[10, 102, 117, 110, 99, 32, 48, 32, 48, 32, 48, 10, 116, 114, 97, 112, 32]⟩ ++ ⟨db.toArray⟩ ++ ⟨#[10]⟩ = ⟨tx.toArray⟩ := by
    rw [HTX.out]
    apply ByteArray.ext
    simp [hdT, endX, m1T, m2T]
  rw [← hstr] at OR1
  clear hstr HTX n1 n2 n3 n4
  have o0 : True := trivial
  go_upto_region 6 with (first
    | (go_at_call 9; (with_reducible refine (OR1 _).out.mono ?_); rintro _ U2 ⟨A3, cq, rfl, hpB, hbB⟩; replace hw1 := Below.step hw1 hbB; have EB := Lib.hid (show Ev (prT 3 a' b') A3 3 cq U2 from ev_of (c := cq) ((HT.out.below hw1 (Nat.le_refl _)).more hw1.size) hpB HZR.out))
    | (go_at_call 7; (with_reducible refine (EB.out.ev _ _ 0 _ _ _ _ _ (Below.refl U2.heap.size U2) ev_none rfl (by decide) E0.out).mono ?_); rintro _ u3 ⟨rfl, hb3⟩; have hz3 := Held.new u3 32 oz0)
    | (guard_target = wpList _ _ _ (Oper.mk _ (Op.alloc 32) _ _ _ none :: _) _ _; refine wpList_alloc_arr rfl 32 rfl oz0 (by kernel_rfl) ?_)
    | (guard_target = wpList _ _ _ (Oper.mk _ (Op.store 32 (.tmp 9) (.tmp 60)) _ _ _ none :: _) _ _; refine wpList_store_row rfl 32 _ _ rfl u3.heap.size #[.int .i64 a', .int .i64 0, .int .i64 0] rfl rfl _ _ hz3 (by kernel_rfl) rfl (by simp [Value.oneCell']) ?_))
  obtain ⟨hO3, _, hn3⟩ := out_kept (cs := #[.int .i64 a', .int .i64 0, .int .i64 0]) hb3
  have hs3 := Below.step hb3 hn3
  replace hw1 := Below.step hw1 hs3
  generalize (u3.alloc (.cells oz0 32)).setRow u3.heap.size #[.int .i64 a', .int .i64 0, .int .i64 0] = W3 at *
  clear hn3 hs3 hb3 hz3 EB hpB hbB OR1 E0 HT HZR F10 o0 c0 c1 c2 c3
  go_upto_region 8 with fail
  have hB : Held ((W3.alloc (.cells #[.int .i64 b', .int .i64 a', .int .i64 99, .int .i64 a'] 3)).alloc (.cells #[.int .i64 5, .int .i64 6, .int .i64 5, .int .i64 5] 3)) (W3.heap.size + 1) 3 #[.int .i64 5, .int .i64 6, .int .i64 5, .int .i64 5] := by
    have := Held.new (W3.alloc (.cells #[.int .i64 b', .int .i64 a', .int .i64 99, .int .i64 a'] 3)) 3 #[.int .i64 5, .int .i64 6, .int .i64 5, .int .i64 5]
    simpa using this
  have hA := Held.new W3 3 #[.int .i64 b', .int .i64 a', .int .i64 99, .int .i64 a']
  have hbA : Below W3.heap.size W3 (W3.alloc (.cells #[.int .i64 b', .int .i64 a', .int .i64 99, .int .i64 a'] 3)) := (Below.refl _ _).alloc (Nat.le_refl _) _
  replace hO3 := hO3.below hbA
  replace hw1 := Below.step hw1 hbA
  generalize W3.alloc (.cells #[.int .i64 b', .int .i64 a', .int .i64 99, .int .i64 a'] 3) = WA at *
  have hbB : Below WA.heap.size WA (WA.alloc (.cells #[.int .i64 5, .int .i64 6, .int .i64 5, .int .i64 5] 3)) := (Below.refl _ _).alloc (Nat.le_refl _) _
  replace hO3 := hO3.below hbB
  replace hA := hA.below hbB
  replace hw1 := Below.step hw1 hbB
  generalize WA.alloc (.cells #[.int .i64 5, .int .i64 6, .int .i64 5, .int .i64 5] 3) = WB at *
  have x0 := hO3.cell 0
  have x1 := hO3.cell 1
  have x2 := hO3.cell 2
  have ya := hA.cell 3
  have yb := hB.cell 3
  simp at x0 x1 x2 ya yb
  have q0 := fun d os => cell_regrown x0 d os
  have q1 := fun d os => cell_regrown x1 d os
  have q2 := fun d os => cell_regrown x2 d os
  have qa := fun d os => cell_regrown ya d os
  have qb := fun d os => cell_regrown yb d os
  clear hbA hbB hA hB hO3 x0 x1 x2 ya yb
  refine wp_region_quiet_below (by kernel_rfl) (by kernel_rfl) ?_
  (repeat (first | go_big_quiet_step (fail) | quiet_step (fail)))
  refine wpQuiet_nil ?_
  intro U9 hv
  have hbU := below_of_regrown hv
  replace hw1 := Below.step hw1 hbU
  clear hv hbU q0 q1 q2 qa qb
  go_wp2_with fail
  go_ret
  exact ⟨rfl, hw1⟩
set_option maxRecDepth 100000 in
theorem walk (a b how : Int) (w : World) (hT : TabB w w.heap.size) : Calls Tryd.prog 4 #[.int .i64 a, .int .i64 b, .int .i64 how] w fun e w' => e = .returned (.bool true) ∧ Below w.heap.size w w' := by
  by_cases h1 : a < 16
  · exact out a b how w hT (.inl (decide_eq_true h1))
  by_cases h2 : 255 < a
  · exact out a b how w hT (.inr (.inl ⟨decide_eq_false h1, decide_eq_true h2⟩))
  by_cases h3 : b < 16
  · exact out a b how w hT (.inr (.inr (.inl ⟨decide_eq_false h1, decide_eq_false h2, decide_eq_true h3⟩)))
  by_cases h4 : 255 < b
  · exact out a b how w hT (.inr (.inr (.inr (.inl ⟨decide_eq_false h1, decide_eq_false h2, decide_eq_false h3, decide_eq_true h4⟩))))
  by_cases h5 : how < 0
  · exact out a b how w hT (.inr (.inr (.inr (.inr (.inl ⟨decide_eq_false h1, decide_eq_false h2, decide_eq_false h3, decide_eq_false h4, decide_eq_true h5⟩)))))
  by_cases h6 : 3 < how
  · exact out a b how w hT (.inr (.inr (.inr (.inr (.inr ⟨decide_eq_false h1, decide_eq_false h2, decide_eq_false h3, decide_eq_false h4, decide_eq_false h5, decide_eq_true h6⟩)))))
  obtain ⟨na, rfl⟩ := Int.eq_ofNat_of_zero_le (show 0 ≤ a by omega)
  obtain ⟨nb, rfl⟩ := Int.eq_ofNat_of_zero_le (show 0 ≤ b by omega)
  rcases (by omega : how = 0 ∨ how = 1 ∨ how = 2 ∨ how = 3) with rfl | rfl | rfl | rfl
  · exact good0 na nb w hT (by omega) (by omega) (by omega) (by omega)
  · exact good1 na nb w hT (by omega) (by omega) (by omega) (by omega)
  · exact good2 na nb w hT (by omega) (by omega) (by omega) (by omega)
  · exact good3 na nb w hT (by omega) (by omega) (by omega) (by omega)
set_option maxRecDepth 100000 in
theorem entry {H : Type} {enc : TypeId × Value → H} (W : World) (base : Nat) (v0 v1 v2 : Value) (d0 d1 d2 : DataW H) (p0 p1 p2 : List MemPlace)
    (k0 : Value.okWide Tryd.prog W .any base 3 v0)
    (k1 : Value.okWide Tryd.prog W .any base 3 v1)
    (k2 : Value.okWide Tryd.prog W .any base 3 v2)
    (h0 : DataW.Trod enc Tryd.prog W 0 (fun _ => true) true 3 v0 d0 p0)
    (h1 : DataW.Trod enc Tryd.prog W 0 (fun _ => true) true 3 v1 d1 p1)
    (h2 : DataW.Trod enc Tryd.prog W 0 (fun _ => true) true 3 v2 d2 p2)
    (hT : TabB W W.heap.size) : Calls Tryd.prog 4 #[v0, v1, v2] W fun e w' => e = .returned (.bool true) ∧ Below W.heap.size W w' := by
  obtain ⟨a, rfl, _, _, _⟩ := open_int Tryd.underlying3 k0 h0
  obtain ⟨b, rfl, _, _, _⟩ := open_int Tryd.underlying3 k1 h1
  obtain ⟨how, rfl, _, _, _⟩ := open_int Tryd.underlying3 k2 h2
  exact walk a b how W hT
end Go.Proofs.YtagjddnpaahebaaDoor.seqTraps

