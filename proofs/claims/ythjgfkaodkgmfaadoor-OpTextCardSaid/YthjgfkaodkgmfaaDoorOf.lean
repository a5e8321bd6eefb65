/- Layer 6's code: finding an operation by its name: a closure, called in a loop. -/
import Derived.Test.YthjgfkaodkgmfaaDoorOp
namespace Go.Proofs.YthjgfkaodkgmfaaDoor
set_option linter.unusedVariables false
set_option linter.unusedSimpArgs false
open Go.RowKit Go.ChangeShapes Go.WideShapes Go.ChangeAt Go.Sort

theorem opArr_chunk {k : Nat} (hk : k < 17) : opArr.extract (k * 7) (k * 7 + 7) = (ocells (orow k)).toArray := by
  apply Array.ext_getElem?
  intro j
  rw [Array.getElem?_extract]
  have hs := opArr_size
  by_cases hj : j < 7
  · rw [if_pos (by omega), opArr_get k j hk hj]
    simp
  · rw [if_neg (by omega), List.getElem?_toArray, List.getElem?_eq_none (by show 7 ≤ j; omega)]
theorem index_op {k : Nat} (hk : k < 17) {nm : ByteArray} {f p q lo la lb : Int} (hr : orow k = ⟨nm, f, p, q, lo, la, lb⟩) (W : World) :
    (Instr.index 46 (.agg opArr) (.int .i64 k)).run Tryd.prog W = .ok (ov nm f p q lo la lb) W := by
  have hi : (Tryd.prog.info? 38).map (·.size) = some 7 := by kernel_rfl
  cases hq : Tryd.prog.info? 38 with
  | none => simp [hq] at hi
  | some i =>
    have hs : i.size = 7 := by simpa [hq] using hi
    have hn : (0 : Int) ≤ k ∧ (k : Int) < 17 := by omega
    have hc := opArr_chunk hk
    rw [hr] at hc
    simp [Instr.index, run_underlying Tryd.underlying46, asIntOf, hn, part, isAgg, run_underlying Tryd.underlying38, Go.sizeOf, typeInfo, hq, hs, go_sem, Sem.run_bind]
    rw [hc, if_pos hk]
    rfl

/-- Whether two texts are the same. -/
def eqS (a b : ByteArray) : Bool := decide (a = b)
theorem eqS_toList (a b : ByteArray) : (a.toList == b.toList) = eqS a b := by
  unfold eqS
  by_cases h : a = b
  · simp [h]
  · rw [decide_eq_false h]
    refine beq_eq_false_iff_ne.2 fun he => h ?_
    rw [ByteArray.toList_eq, ByteArray.toList_eq] at he
    exact ByteArray.ext (Array.toList_inj.1 he)
theorem eqS_iff {a b : ByteArray} : eqS a b = true ↔ a = b := by simp [eqS]

set_option maxHeartbeats 1000000 in
set_option maxRecDepth 100000 in
theorem same_any (nm s : ByteArray) (f p q lo la lb : Int) (b : Nat) (w : World) (hs : w.cell? ⟨b, 0, none⟩ = some (.string s)) :
    Calls Tryd.prog 21 #[ov nm f p q lo la lb, .pointer (some ⟨b, 0, none⟩)] w fun e w' => e = .returned (.bool (eqS nm s)) ∧ Below w.heap.size w w' := by
  have hlt := block_lt_of_cell hs
  simp at hlt
  go_enter Tryd.func21, Tryd.ntmps21
  go_wp2_with fail
  go_ret
  exact ⟨ret_bool (eqS_toList _ _), by go_grown⟩

/-- The number of the operation of a name; 17 if there is none. -/
def idxN (s : ByteArray) : Nat := opTab.findIdx fun r => eqS r.nm s
theorem idx_le (s : ByteArray) : idxN s ≤ 17 := List.findIdx_le_length
theorem orow_get {k : Nat} (h : k < opTab.length) : opTab[k] = orow k := Option.some.inj ((List.getElem?_eq_getElem h).symm.trans (opTab_get h))
theorem idx_hit {s : ByteArray} {k : Nat} (hk : k < 17) (h : eqS (orow k).nm s = true) (hn : ∀ j, j < k → eqS (orow j).nm s = false) : idxN s = k := by
  have hl : k < opTab.length := hk
  refine (List.findIdx_eq hl).2 ⟨?_, fun j hj => ?_⟩
  · rw [orow_get hl]; exact h
  · rw [orow_get (Nat.lt_trans hj hl)]; exact hn j hj
theorem idx_miss {s : ByteArray} (hn : ∀ j, j < 17 → eqS (orow j).nm s = false) : idxN s = 17 := by
  rcases Nat.lt_or_ge (idxN s) 17 with h | h
  · have hl : opTab.findIdx (fun r => eqS r.nm s) < opTab.length := h
    have := List.findIdx_getElem (w := hl)
    rw [orow_get hl] at this
    exact absurd (hn _ h) (by simpa [idxN] using this)
  · exact Nat.le_antisymm (idx_le s) h
/-- What finding a name tells. -/
def numF (s : ByteArray) : Int := ((if idxN s < 17 then idxN s else 0 : Nat) : Int)
def isF (s : ByteArray) : Bool := decide (idxN s < 17)
theorem fnd_hit {s : ByteArray} {k : Nat} (h : idxN s = k) (hk : k < 17) : numF s = k ∧ isF s = true := by
  unfold numF isF
  rw [h, if_pos hk]
  exact ⟨rfl, decide_eq_true hk⟩
theorem fnd_miss {s : ByteArray} (h : idxN s = 17) : numF s = 0 ∧ isF s = false := by
  unfold numF isF
  rw [h]
  exact ⟨rfl, rfl⟩
theorem idx_name {s : ByteArray} (h : idxN s < 17) : (orow (idxN s)).nm = s := by
  have hl : opTab.findIdx (fun r => eqS r.nm s) < opTab.length := h
  have := List.findIdx_getElem (w := hl)
  rw [orow_get hl] at this
  exact eqS_iff.1 this

set_option maxHeartbeats 1000000 in
set_option maxRecDepth 100000 in
theorem scan_any (s : ByteArray) (b : Nat) (w : World) (hT : Otab w) (hs : w.cell? ⟨b, 0, none⟩ = some (.string s)) :
    Calls Tryd.prog 20 #[.func (.func 21) #[] #[.pointer (some ⟨b, 0, none⟩)]] w fun e w' =>
      e = .returned (.tuple #[.int .i64 (numF s), .bool (isF s)]) ∧ Below w.heap.size w w' := by
  have hlt := block_lt_of_cell hs
  simp at hlt
  obtain ⟨ty, hH⟩ := hT
  go_enter Tryd.func20, Tryd.ntmps20
  have HH := Lib.hid hH
  clear hH
  go_wp2_with (refine wpList_load_row rfl 46 _ rfl 0 rfl _ _ _ _ HH.out Tryd.underlying46 rfl (by rw [opArr_size]; kernel_rfl) ?_)
  have HI := fun (k : Nat) (hk : k < 17) (nm : ByteArray) (f p q lo la lb : Int) hr W => index_op hk (nm := nm) (f := f) (p := p) (q := q) (lo := lo) (la := la) (lb := lb) hr W
  go_loopw [7] (fun i W => ∃ k : Nat, k ≤ 17 ∧ i = .int .i64 k ∧ (∀ j, j < k → eqS (orow j).nm s = false) ∧ Below w.heap.size w W) (fun i _ => 17 - (intOf i).toNat)
  case atStart => exact ⟨0, by omega, rfl, fun j hj => absurd hj (by omega), Below.refl _ _⟩
  case round =>
    obtain ⟨k, hk, rfl, hn, hb⟩ := hrel
    have HN := Lib.hid hn
    clear hn
    have hsz := hb.size
    by_cases hlt2 : k < 17
    · obtain ⟨nm, f, p, q, lo, la, lb, hr⟩ : ∃ nm f p q lo la lb, orow k = ⟨nm, f, p, q, lo, la, lb⟩ := ⟨_, _, _, _, _, _, _, rfl⟩
      have hi := HI k hlt2 nm f p q lo la lb hr
      have hc : wr.cell? ⟨b, 0, none⟩ = some (.string s) := (hb.cell (by exact hlt)).trans hs
      have hbl : b < wr.heap.size := Nat.lt_of_lt_of_le hlt hsz
      have CL := fun o => Lib.hid (same_any nm s f p q lo la lb b (wr.alloc o) ((((Below.refl _ wr).alloc (Nat.le_refl _) o).cell hbl).trans hc))
      have HR := Lib.hid hr
      clear hr HI
      by_cases he : eqS nm s = true
      · have hit := fnd_hit (idx_hit hlt2 (by rw [HR.out]; exact he) HN.out) hlt2
        have HIT := Lib.hid hit
        clear hit
        rw [he] at CL
        go_wp2_with (go_at_call 21; (with_reducible refine (CL _).out.mono ?_); rintro e v ⟨rfl, hb2⟩; replace hb := Below.step hb (below_laid hb2); clear hb2)
        go_ret2
        refine ⟨?_, hb⟩
        rw [HIT.out.1, HIT.out.2]
        rfl
      · rw [Bool.not_eq_true] at he
        rw [he] at CL
        have hn2 : ∀ j, j < k + 1 → eqS (orow j).nm s = false := fun j hj => by
          rcases Nat.lt_succ_iff_lt_or_eq.1 hj with h | rfl
          · exact HN.out j h
          · rw [HR.out]; exact he
        have HN2 := Lib.hid hn2
        clear hn2
        go_wp2_with (go_at_call 21; (with_reducible refine (CL _).out.mono ?_); rintro e v ⟨rfl, hb2⟩; replace hb := Below.step hb (below_laid hb2); clear hb2)
        go_roundw
        case rel => exact ⟨k + 1, by omega, by go_num, HN2.out, hb⟩
        case measure => simp [intOf]; omega
    · obtain rfl : k = 17 := by omega
      have hm := fnd_miss (idx_miss HN.out)
      have HM := Lib.hid hm
      clear hm HI
      go_wp2
      go_ret2
      refine ⟨?_, hb⟩
      rw [HM.out.1, HM.out.2]
      rfl

set_option maxHeartbeats 1000000 in
set_option maxRecDepth 100000 in
theorem find_any (s : ByteArray) (w : World) (hT : Otab w) :
    Calls Tryd.prog 9 #[.string s] w fun e w' => e = .returned (.tuple #[.int .i64 (numF s), .bool (isF s)]) ∧ Below w.heap.size w w' := by
  have C := Lib.hid (scan_any s w.heap.size (w.alloc (.cells #[.string s] 9)) (hT.below ((Below.refl _ w).alloc (Nat.le_refl _) _)) ((Held.new w 9 #[.string s]).cell 0))
  go_enter Tryd.func9, Tryd.ntmps9
  go_wp2_with (go_at_call 20; (with_reducible refine C.out.mono ?_); rintro e v ⟨rfl, hb⟩)
  go_ret2
  exact ⟨rfl, below_laid hb⟩
end Go.Proofs.YthjgfkaodkgmfaaDoor
