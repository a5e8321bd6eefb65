/- Layer 2's code: the array of the 256 remainders. -/
import Derived.Test.YteikmkbaokfgeaaCrem
import Derived.Test.YteikmkbaokfgeaaKit
import Derived.LoopTactic
import Derived.Laws.CopyOwn
namespace Go.Proofs.Yteikmkbaokfgeaa
set_option linter.unusedVariables false
set_option linter.unusedSimpArgs false
open Go.RowKit Go.ChangeShapes Go.WideShapes Go.ChangeAt Cm

def tabV (k i : Nat) : Value := .int .u32 (if i < k then (rem8 i : Int) else 0)
/-- The array, filled up to k. -/
def tab (k : Nat) : Array Value := (Array.range 256).map (tabV k)
theorem tab_size (k : Nat) : (tab k).size = 256 := by simp [tab]
theorem tab_at (k i : Nat) (h : i < 256) : (tab k)[i]? = some (tabV k i) := by
  simp [tab, Array.getElem?_map, Array.getElem?_range, h]
theorem tab_set (k : Nat) (h : k < 256) : (tab k).setIfInBounds k (.int .u32 (rem8 k : Nat)) = tab (k + 1) := by
  apply Array.ext_getElem?
  intro i
  rw [Array.getElem?_setIfInBounds, tab_size]
  by_cases hi : i < 256
  · rw [tab_at _ _ hi, tab_at _ _ hi]
    by_cases e : k = i
    · subst e; simp [h, tabV]
    · rw [if_neg e, tabV, tabV]
      congr 2
      by_cases h1 : i < k
      · rw [if_pos h1, if_pos (by omega)]
      · rw [if_neg h1, if_neg (by omega)]
  · rw [if_neg (by omega), Array.getElem?_eq_none (by rw [tab_size]; omega), Array.getElem?_eq_none (by rw [tab_size]; omega)]
theorem tab_one (k : Nat) : (tab k).all (·.oneCell') = true := by
  rw [Array.all_eq_true_iff_forall_mem]
  intro v hv
  obtain ⟨j, _, rfl⟩ := Array.mem_map.1 hv
  rfl
theorem tab_zero : tab 0 = Array.replicate 256 (.int .u32 0) := by
  apply Array.ext_getElem?
  intro i
  by_cases hi : i < 256
  · rw [tab_at _ _ hi]; simp [Array.getElem?_replicate, hi, tabV]
  · rw [Array.getElem?_eq_none (by rw [tab_size]; omega), Array.getElem?_eq_none (by simp; omega)]
theorem infoArr : (Try.prog.info? 72).map (fun i => (i.zero, i.size)) = some (some (.agg (tab 0)), 256) := by rw [tab_zero]; kernel_rfl
theorem zeroArr : (Try.prog.info? 72).map (·.zero) = some (some (.agg (tab 0))) := by
  have := infoArr
  cases h : Try.prog.info? 72 with
  | none => simp [h] at this
  | some i => simp [h] at this; simp [this.1]
theorem sizeArr : (Try.prog.info? 72).map (·.size) = some 256 := by
  have := infoArr
  cases h : Try.prog.info? 72 with
  | none => simp [h] at this
  | some i => simp [h] at this; simp [this.2]

def RemJ (w : World) (b k : Nat) (W : World) : Prop :=
  W.heap[b]? = some (.cells (tab 0) 72 (0, 0)) ∧ W.heap[b + 1]? = some (.cells (tab k) 72 (0, 0)) ∧ Below b w W

set_option maxHeartbeats 400000 in
set_option maxRecDepth 100000 in
theorem remainders_any (w : World) : Calls Try.prog 47 #[] w fun e w' => e = .returned (.agg (tab 256)) ∧ Below w.heap.size w w' := by
  go_enter Try.func47, Try.ntmps47
  go_wp2_with (refine wpList_alloc_arr rfl 72 rfl (tab 0) zeroArr ?_)
  have h0 : RemJ w w.heap.size 0 ((w.alloc (.cells (tab 0) 72)).alloc (.cells (tab 0) 72)) :=
    ⟨heap_alloc2_old w _ _, heap_alloc2_new w _ _, ((Below.refl _ _).alloc (Nat.le_refl _) _).alloc (by simp) _⟩
  have H0 := Lib.hid h0; clear h0
  generalize (w.alloc (.cells (tab 0) 72)).alloc (.cells (tab 0) 72) = W0 at *
  go_loopw [3] (fun i W => ∃ k : Nat, k ≤ 256 ∧ i = .int .i64 k ∧ RemJ w w.heap.size k W) (fun i _ => 256 - (intOf i).toNat)
  case atStart => exact ⟨0, by omega, rfl, H0.out⟩
  case round =>
    obtain ⟨k, hk, rfl, j1, j2, j3⟩ := hrel
    by_cases hlt : k < 256
    · have c0 : wr.cell? ⟨w.heap.size + 1, k, none⟩ = some (.int .u32 0) := by
        rw [cell_of_row _ _ k _ _ _ j2, tab_at _ _ hlt, tabV, if_neg (by omega)]
      have f0 : wr.frozen? ⟨w.heap.size + 1, k, none⟩ = false := frozen_of_row _ _ _ _ _ j2
      have J1 := Lib.hid j1; have J2 := Lib.hid j2; clear j1 j2
      have hk' : (k : Int) < 256 := by omega
      go_wp2_with (go_at_call 52; refine (remainder_any _ _ (by omega)).mono ?_; rintro e w' ⟨rfl, rfl⟩)
      go_roundw
      case rel =>
        refine ⟨k + 1, by omega, by go_num, ?_, ?_, j3.setCell (by simp) _⟩
        · rw [heap_setCell_other _ _ _ _ (by simp), J1.out]
        · rw [heap_setCell_same _ _ _ _ _ _ J2.out, tab_set _ hlt]
      case measure => simp [intOf]; omega
    · obtain rfl : k = 256 := by omega
      have J1 := Lib.hid j1; have J2 := Lib.hid j2; clear j1 j2
      go_wp2_with (first
        | (refine wpList_load_row rfl 72 _ rfl (w.heap.size + 1) rfl _ _ _ _ J2.out Try.underlying72 rfl (by rw [tab_size]; exact sizeArr) ?_)
        | (refine wpList_store_row rfl 72 _ _ rfl w.heap.size (tab 256) rfl rfl _ _ J1.out (by rw [tab_size]; exact sizeArr) (by rw [tab_size, tab_size]) (tab_one _) ?_))
      refine bodyPost_ret (v := .agg (tab 256)) (results_cell_row rfl _ _ w.heap.size 72 (tab 256) (0, 0) _ rfl (setRow_heap _ _ _ _ _ _ J1.out) Try.underlying72 rfl (by rw [tab_size]; exact sizeArr)) rfl ⟨rfl, below_setRow j3 (Nat.le_refl _) _⟩
end Go.Proofs.Yteikmkbaokfgeaa
