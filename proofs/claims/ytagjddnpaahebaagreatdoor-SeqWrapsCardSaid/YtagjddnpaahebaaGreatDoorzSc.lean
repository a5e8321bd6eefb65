/- Layer 10's code: the deferred closure. -/
import Derived.Test.YtagjddnpaahebaaGreatDoorzSf
import Derived.Tactics
import Derived.Tactics2
import Derived.Defers
import Derived.Recover
import Derived.Laws.Pointers
namespace Go.Proofs.YtagjddnpaahebaaGreatDoor
set_option linter.unusedVariables false
set_option linter.unusedSimpArgs false
open Gm Go.RowKit Go.ChangeShapes Go.WideShapes Go.ChangeAt Go.Sort

abbrev fuelE : PanicEntry := { v := .iface 33 (.int .i64 100), recovered := false }
set_option maxHeartbeats 2000000 in
set_option maxRecDepth 100000 in
theorem catch_idle (b4 b5 b6 : Nat) (w : World) :
    CallsD Tryz.prog 37 #[.pointer (some ⟨b4, 0, none⟩), .pointer (some ⟨b5, 0, none⟩), .pointer (some ⟨b6, 0, none⟩)] .returning w fun e u' w' => e = .returned (.tuple #[]) ∧ u' = .returning ∧ w' = w := by
  refine callsD_of_wpS Tryz.func37 rfl fun c₀ cs hu => ?_
  apply wpS_seq
  apply wpS_region
  simp [wpOpsS, go_sem, recoverD, hu, Tryz.ntmps37, Exit.thenS]
  refine wpS_of_wp ?_
  show Code.wp _ _ _ { tmps := #[.pointer (some ⟨b4, 0, none⟩), .pointer (some ⟨b5, 0, none⟩), .pointer (some ⟨b6, 0, none⟩), .nilIface, undef, undef, .nilIface, undef, undef, undef, undef, undef, undef, undef, undef, undef, undef, undef, undef], defers := [] } _
  go_wp2
  cases c₀
  simp_all [bodyPostS, results, Tryz.results37]
set_option maxHeartbeats 2000000 in
set_option maxRecDepth 100000 in
theorem catch_pan (b4 b5 b6 : Nat) (older : List PanicEntry) (w : World) {o0 o1 o2 x5 x6 : Value} (h4 : Held w b4 32 #[o0, o1, o2]) (h5 : Held w b5 3 #[x5]) (h6 : Held w b6 33 #[x6]) (n45 : b4 ≠ b5) (n46 : b4 ≠ b6) (n56 : b5 ≠ b6) :
    CallsD Tryz.prog 37 #[.pointer (some ⟨b4, 0, none⟩), .pointer (some ⟨b5, 0, none⟩), .pointer (some ⟨b6, 0, none⟩)] (.panicking (fuelE :: older)) w fun e u' w' => e = .returned (.tuple #[]) ∧ u' = .panicking ({ fuelE with recovered := true } :: older) ∧
      w' = ((((w.setCell ⟨b4, 0, none⟩ (.int .i64 0)).setCell ⟨b4, 1, none⟩ (.int .i64 0)).setCell ⟨b4, 2, none⟩ (.int .i64 0)).setCell ⟨b5, 0, none⟩ (.int .i64 0)).setCell ⟨b6, 0, none⟩ (.int .i64 100) := by
  have c0 := h4.cell 0
  have c1 := h4.cell 1
  have c2 := h4.cell 2
  have c5 := h5.cell 0
  have c6 := h6.cell 0
  have z0 := h4.fz 0
  have z1 := h4.fz 1
  have z2 := h4.fz 2
  have z5 := h5.fz 0
  have z6 := h6.fz 0
  simp at c0 c1 c2 c5 c6
  refine callsD_of_wpS Tryz.func37 rfl fun c₀ cs hu => ?_
  apply wpS_seq
  apply wpS_region
  simp [wpOpsS, go_sem, recoverD, hu, Tryz.ntmps37, Exit.thenS]
  refine wpS_of_wp ?_
  show Code.wp _ _ _ { tmps := #[.pointer (some ⟨b4, 0, none⟩), .pointer (some ⟨b5, 0, none⟩), .pointer (some ⟨b6, 0, none⟩), (.iface 33 (.int .i64 100)), undef, undef, (.iface 33 (.int .i64 100)), undef, undef, undef, undef, undef, undef, undef, undef, undef, undef, undef, undef], defers := [] } _
  have hta : ∀ W, (Instr.typeAssert (.iface 33 (.int .i64 100)) 20 33 true).run Tryz.prog W = .ok (.tuple #[.int .i64 100, .bool true]) W := fun W => by
    simp [Instr.typeAssert, run_underlying Tryz.underlying33]
  go_wp2
  exact ⟨rfl, _, rfl, .tuple #[], by simp [results, Tryz.results37], rfl, rfl, rfl⟩
end Go.Proofs.YtagjddnpaahebaaGreatDoor

/- Layer 10's code: the result, fuel that is used up included. -/
namespace Go.Proofs.YtagjddnpaahebaaGreatDoor
set_option linter.unusedVariables false
set_option linter.unusedSimpArgs false
open Gm Go.RowKit Go.ChangeShapes Go.WideShapes Go.ChangeAt Go.Sort

theorem tyIr : 3 ≠ 63 := by decide
theorem tyIt : 3 ≠ 126 := by decide
theorem tyEr : 33 ≠ 63 := by decide
theorem tyEt : 33 ≠ 126 := by decide
/-- What is told of how the machine ends. -/
def tellT (fuel : Int) (x : Option (OutP × Nat)) : OutP × Int × Int := match x with
  | none => (zeroO, 0, 100)
  | some (o, m) => (o, fuel - m, 0)
abbrev tellV (R : OutP × Int × Int) : Value := .tuple #[outv R.1.1 R.1.2.1 R.1.2.2, .int .i64 R.2.1, .int .i64 R.2.2]
set_option maxHeartbeats 4000000 in
set_option maxRecDepth 100000 in
theorem sresult_any {B r np c : Nat} {A : Option Addr} {p : List Fun} {U : World} {v : Value} {fuel : Int} {cs : Array Value} {f : Frm} (w : World) (CX : Cx p A np c U) (hU : Below U.heap.size U w) (hUB : U.heap.size ≤ B) (h : RunS w B r (.slice A np c) fuel 0 v []) (hx : TskOk w ⟨cs, f, 0⟩) (hB : B ≤ w.heap.size) (hf0 : 1 ≤ fuel) (hf : fuel ≤ 100000) :
    Calls Tryz.prog 22 #[.pointer (some ⟨r, 0, none⟩), .agg cs] w fun e w' => e = .returned (tellV (tellT fuel (runT p fuel.toNat [(f, 0)]))) ∧ Below B w w' := by
  have hmf : ∀ (fn : Fn) (first cap : Array Value) (w : World), (Instr.makeFunc fn first cap).run Tryz.prog w = .ok (.func fn first cap) w := fun _ _ _ _ => rfl
  have hbw : Below w.heap.size w ((((w.alloc (.cells cs 58)).alloc (.cells oz0 32)).alloc (.cells #[.int .i64 0] 3)).alloc (.cells #[.int .i64 0] 33)) := ((((Below.refl _ _).alloc (Nat.le_refl _) _).alloc (by simp) _).alloc (by simp; omega) _).alloc (by simp; omega) _
  have EX := fun W (hb : Below w.heap.size w W) => Lib.hid (sexec_any W CX (hU.trans (hb.mono (Nat.le_trans hUB hB))) hUB (h.below hb) (hx.kt (KT.of_below hb)) (Nat.le_trans hB hb.size) hf0 hf)
  have hfc := hx.fc
  have hrl := h.rlt
  have HB := Lib.hid hB
  clear CX hU h hx hB hf0 hf
  go_enter_defers Tryz.func22, Tryz.ntmps22
  go_upto_region 2 with (first
    | (refine wpList_box_arr rfl _ _ rfl _ rfl ?_)
    | (guard_target = wpList _ _ _ (Oper.mk _ (Op.alloc 32) _ _ _ none :: _) _ _; refine wpList_alloc_arr rfl 32 rfl oz0 (by kernel_rfl) ?_))
  have h3 : Held ((((w.alloc (.cells cs 58)).alloc (.cells oz0 32)).alloc (.cells #[.int .i64 0] 3)).alloc (.cells #[.int .i64 0] 33)) w.heap.size 58 cs := (((Held.new w _ cs).alloc _).alloc _).alloc _
  have h4 : Held ((((w.alloc (.cells cs 58)).alloc (.cells oz0 32)).alloc (.cells #[.int .i64 0] 3)).alloc (.cells #[.int .i64 0] 33)) (w.heap.size + 1) 32 oz0 := ((Held.new1 w _ _ oz0).alloc _).alloc _
  have h5 : Held ((((w.alloc (.cells cs 58)).alloc (.cells oz0 32)).alloc (.cells #[.int .i64 0] 3)).alloc (.cells #[.int .i64 0] 33)) (w.heap.size + 1 + 1) 3 #[.int .i64 0] := by have := (Held.new1 (w.alloc (.cells cs 58)) (.cells oz0 32) 3 #[.int .i64 0]).alloc (.cells #[.int .i64 0] 33); rwa [size_alloc1] at this
  have h6 : Held ((((w.alloc (.cells cs 58)).alloc (.cells oz0 32)).alloc (.cells #[.int .i64 0] 3)).alloc (.cells #[.int .i64 0] 33)) (w.heap.size + 1 + 1 + 1) 33 #[.int .i64 0] := by have := Held.new1 ((w.alloc (.cells cs 58)).alloc (.cells oz0 32)) (.cells #[.int .i64 0] 3) 33 #[.int .i64 0]; rwa [size_alloc1, size_alloc1] at this
  have EX := EX _ hbw
  generalize ((((w.alloc (.cells cs 58)).alloc (.cells oz0 32)).alloc (.cells #[.int .i64 0] 3)).alloc (.cells #[.int .i64 0] 33)) = W1 at *
  have hBl := HB.out
  cases hRT : runT p fuel.toNat [(f, 0)] with
  | none =>
    rw [hRT] at EX
    simp only at EX
    go_wp2_with (first
      | (guard_target = wpList _ _ _ (Oper.mk _ (Op.load 58 (.tmp 3)) _ _ _ none :: _) _ _; refine wpList_load_row rfl 58 _ rfl w.heap.size rfl 58 cs (0, 0) _ h3 Tryz.underlying58 rfl (fb_info hfc) ?_)
      | (go_at_call 38; (with_reducible refine EX.out.mono ?_); rintro _ u ⟨hk, rfl⟩))
    refine leaves_cons (f := 37) (args := #[.pointer (some ⟨w.heap.size + 1, 0, none⟩), .pointer (some ⟨w.heap.size + 1 + 1, 0, none⟩), .pointer (some ⟨w.heap.size + 1 + 1 + 1, 0, none⟩)]) (by simp) (by simp [go_sem]) ?_
    have g4 := h4.kt hk.kt tyOr tyOt
    have g5 := h5.kt hk.kt tyIr tyIt
    have g6 := h6.kt hk.kt tyEr tyEt
    refine (catch_pan _ _ _ [] u g4 g5 g6 (by omega) (by omega) (by omega)).mono ?_
    rintro e u' w'' ⟨rfl, rfl, rfl⟩
    have c0 := g4.cell 0
    have c1 := g4.cell 1
    have c2 := g4.cell 2
    have c5 := g5.cell 0
    have c6 := g6.cell 0
    simp at c0 c1 c2 c5 c6
    have hbf := ((((((hbw.mono hBl).trans hk.below).setCell (p := ⟨w.heap.size + 1, 0, none⟩) (Nat.le_succ_of_le hBl) (.int .i64 0)).setCell (p := ⟨w.heap.size + 1, 1, none⟩) (Nat.le_succ_of_le hBl) (.int .i64 0)).setCell (p := ⟨w.heap.size + 1, 2, none⟩) (Nat.le_succ_of_le hBl) (.int .i64 0)).setCell (p := ⟨w.heap.size + 1 + 1, 0, none⟩) (Nat.le_succ_of_le (Nat.le_succ_of_le hBl)) (.int .i64 0)).setCell (p := ⟨w.heap.size + 1 + 1 + 1, 0, none⟩) (Nat.le_succ_of_le (Nat.le_succ_of_le (Nat.le_succ_of_le hBl))) (.int .i64 100)
    have hbf := Lib.hid hbf
    clear hbw hBl hk g4 g5 g6 h3 h4 h5 h6 EX
    simp [Leaves, settle, results, Tryz.results22, go_sem, c0, c1, c2, c5, c6, hRT, tellT, zeroO]
    exact hbf.out
  | some x =>
    obtain ⟨⟨ot, oa, ob⟩, m⟩ := x
    rw [hRT] at EX
    simp only at EX
    go_upto_region 3 with (first
      | (guard_target = wpList _ _ _ (Oper.mk _ (Op.load 58 (.tmp 3)) _ _ _ none :: _) _ _; refine wpList_load_row rfl 58 _ rfl w.heap.size rfl 58 cs (0, 0) _ h3 Tryz.underlying58 rfl (fb_info hfc) ?_)
      | (go_at_call 38; (with_reducible refine EX.out.mono ?_); rintro _ u ⟨hk, rfl, v', hR⟩; have g4 := h4.kt hk.kt tyOr tyOt)
      | (guard_target = wpList _ _ _ (Oper.mk _ (Op.store 32 (.tmp 4) (.tmp 10)) _ _ _ none :: _) _ _; refine wpList_store_row rfl 32 _ _ rfl (w.heap.size + 1) #[.int .i64 ot, .int .i64 oa, .int .i64 ob] rfl rfl _ _ g4 (by kernel_rfl) rfl (by simp [Value.oneCell']) ?_))
    have g5 := (h5.kt hk.kt tyIr tyIt).row (k := w.heap.size + 1) (by omega) #[.int .i64 ot, .int .i64 oa, .int .i64 ob]
    have g6 := (h6.kt hk.kt tyEr tyEt).row (k := w.heap.size + 1) (by omega) #[.int .i64 ot, .int .i64 oa, .int .i64 ob]
    have hR2 := hR.rowFar g4 tyOr tyOt tyOV tyOS #[.int .i64 ot, .int .i64 oa, .int .i64 ob]
    have g4b := g4.rowSelf #[.int .i64 ot, .int .i64 oa, .int .i64 ob]
    have hb5 := below_row ((hbw.mono hBl).trans hk.below) (Nat.le_succ_of_le hBl) #[.int .i64 ot, .int .i64 oa, .int .i64 ob]
    generalize u.setRow (w.heap.size + 1) #[.int .i64 ot, .int .i64 oa, .int .i64 ob] = W5 at *
    have c0 := g4b.cell 0
    have c1 := g4b.cell 1
    have c2 := g4b.cell 2
    have c5 := g5.cell 0
    have c6 := g6.cell 0
    have z0 := g4b.fz 0
    have z1 := g4b.fz 1
    have z2 := g4b.fz 2
    have z5 := g5.fz 0
    have z6 := g6.fz 0
    have r2 := hR2.blk.cell 2
    simp at c0 c1 c2 c5 c6 r2
    have hbf := Lib.hid ((((((hb5.setCell (p := ⟨w.heap.size + 1, 0, none⟩) (Nat.le_succ_of_le hBl) (.int .i64 ot)).setCell (p := ⟨w.heap.size + 1, 1, none⟩) (Nat.le_succ_of_le hBl) (.int .i64 oa)).setCell (p := ⟨w.heap.size + 1, 2, none⟩) (Nat.le_succ_of_le hBl) (.int .i64 ob)).setCell (p := ⟨w.heap.size + 1 + 1, 0, none⟩) (Nat.le_succ_of_le (Nat.le_succ_of_le hBl)) (.int .i64 (fuel - m))).setCell (p := ⟨w.heap.size + 1 + 1 + 1, 0, none⟩) (Nat.le_succ_of_le (Nat.le_succ_of_le (Nat.le_succ_of_le hBl))) (.int .i64 0)).drew)
    clear hbw hBl hk g4 g5 g6 g4b h3 h4 h5 h6 EX hb5 hR hR2
    have n1 : r ≠ w.heap.size + 1 := by omega
    have n2 : r ≠ w.heap.size + 1 + 1 := by omega
    have n3 : r ≠ w.heap.size + 1 + 1 + 1 := by omega
    have m1 := Ne.symm n1
    have m2 := Ne.symm n2
    have m3 := Ne.symm n3
    refine wp_region_noPanic ?_
    go_region
    all_goals refine NoPanic.normal ?_
    all_goals go_wp2_with fail
    all_goals refine leaves_cons (f := 37) (args := #[.pointer (some ⟨w.heap.size + 1, 0, none⟩), .pointer (some ⟨w.heap.size + 1 + 1, 0, none⟩), .pointer (some ⟨w.heap.size + 1 + 1 + 1, 0, none⟩)]) (by simp) (by simp [go_sem]) ?_
    all_goals refine (catch_idle _ _ _ _).mono ?_
    all_goals rintro e u' w'' ⟨rfl, rfl, rfl⟩
    all_goals simp [Leaves, settle, results, Tryz.results22, go_sem, c0, c1, c2, c5, c6, hRT, tellT]
    all_goals exact hbf.out
end Go.Proofs.YtagjddnpaahebaaGreatDoor

