/- Layer 3: SectCut: no bytes that a section's begin with are a section, but all of them; what stands behind one is of no moment to it. For every section, every text and every number. -/
import Derived.Test.YteikmkbaokfgeaaSfix
import Derived.Test.YteikmkbaokfgeaaSm2
import Derived.Test.YteikmkbaokfgeaaSopen
import Derived.ChangeMaps5
namespace Go.Proofs.Yteikmkbaokfgeaa.sectCut
set_option linter.unusedVariables false
set_option linter.unusedSimpArgs false
open Go.ChangeShapes Go.WideShapes Go.ChangeAt Go.RowKit Cm

theorem cut_take (l : List UInt8) (k : Nat) (h : k ≤ l.length) : (⟨l.toArray⟩ : ByteArray).extract 0 k = ⟨(l.take k).toArray⟩ := by
  apply ByteArray.ext
  apply Array.toList_inj.1
  simp [ByteArray.data_extract, Array.toList_extract, List.extract_eq_take_drop]

set_option maxHeartbeats 1000000 in
set_option maxRecDepth 100000 in
theorem good (tag : Int) (t b : ByteArray) (k : Nat) (w : World) (h0 : 0 ≤ tag) (h1 : tag ≤ 255) (h2 : t.size ≤ 300) (h3 : b.size ≤ 300) (h4 : k < (putS tag t.data.toList).length) :
    Calls Try.prog 6 #[.agg #[.int .i64 tag, .string t], .string b, .int .i64 k] w fun e w' => e = .returned (.bool true) ∧ Below w.heap.size w w' := by
  have hb : Below w.heap.size w w := Below.refl _ _
  have hl : t.data.toList.length = t.size := rfl
  have hp : t.data.toList.length ≤ 1048576 := by omega
  have htm : t.size ≤ maxLen := by unfold maxLen; omega
  have hlen := putS_length h0 h1 hp
  have hpt : (putTextF t.data.toList).length ≤ t.size + 7 := by
    rw [putTextF_eq hp, List.length_append, hl]
    have := putG_len 7 t.size
    omega
  have hcut := getS_cut h0 h1 hp k h4
  have hput := getS_put h0 h1 hp b.data.toList
  have CP := fun W => Lib.hid (sput_any tag t W htm)
  have CS := fun W => Lib.hid (small_one (tag, t) W htm)
  rw [show decide ((tag, t).2.size ≤ 300) = true by simpa using h2] at CS
  generalize putS tag t.data.toList = q at *
  have hq : q.length ≤ 400 := by omega
  have hqs : (⟨q.toArray⟩ : ByteArray).size = q.length := by show q.toArray.size = _; simp
  have C1 := fun W => Lib.hid (sget_lit ⟨(q.take k).toArray⟩ 0 0 [] 0 10 W (by show (q.take k).toArray.size ≤ _; rw [List.size_toArray, List.length_take]; unfold maxLen; omega) hcut)
  have C2 := fun W => Lib.hid (sget_lit ⟨(q ++ b.data.toList).toArray⟩ 0 tag t.data.toList q.length 0 W (by show (q ++ b.data.toList).toArray.size ≤ _; rw [List.size_toArray, List.length_append]; have : b.data.toList.length = b.size := rfl; unfold maxLen; omega) hput)
  have ht : (⟨t.data.toList.toArray⟩ : ByteArray) = t := by apply ByteArray.ext; simp
  rw [ht] at C2
  have e1 := cut_take q k (by omega)
  have e2 := bytes_append q b
  have k1 : (k : Int) ≤ q.length := by omega
  have k2 : k ≤ q.length := by omega
  have k3 : decide ((q.length : Int) ≤ k) = false := by simp; omega
  have k4 : decide (q.length ≤ k) = false := by simp; omega
  have k5 : decide ((k : Int) < 0) = false := by simp
  have n1 : decide (tag < 0) = false := by simp; omega
  have n2 : decide (255 < tag) = false := by simp; omega
  have n3 : decide ((300 : Int) < b.size) = false := by simp; omega
  have n4 : q.length + b.size ≤ 9223372036854775807 := by omega
  clear hcut hput hlen hpt hl hp
  go_enter Try.func6, Try.ntmps6
  go_wp2_with (first
    | (go_at_call 10; refine (fixed_true _).mono ?_; rintro e v1 ⟨rfl, hb1⟩; have hx := (Held.new w 32 #[.int .i64 tag, .string t]).below hb1; have c0 := hx.cell 0; have c1 := hx.cell 1; have hlt := hx.lt; simp at c0 c1; replace hb := below_laid hb1; clear hb1)
    | (go_at_call 9; refine (CS _).out.mono ?_; rintro e v2 ⟨rfl, rfl⟩)
    | (go_at_call 15; refine (CP _).out.mono ?_; rintro e v3 ⟨rfl, hb3⟩; have hx3 := hx.below (below_laid hb3); replace hb := Below.step hb (below_laid hb3); clear c0 c1 hlt hb3)
    | (go_at_call 11; with_reducible refine (C1 _).out.mono ?_; rintro e v4 ⟨rfl, hb4⟩; have hx4 := hx3.below hb4; replace hb := Below.step hb hb4; clear hb4)
    | (go_at_call 11; with_reducible refine (C2 _).out.mono ?_; rintro e v5 ⟨rfl, hb5⟩; have hx5 := hx4.below hb5; replace hb := Below.step hb hb5; clear hb5; have c0 := hx5.cell 0; have c1 := hx5.cell 1; have hlt := hx5.lt; simp at c0 c1))
  go_ret
  exact ⟨rfl, hb⟩

set_option maxHeartbeats 1000000 in
set_option maxRecDepth 100000 in
/-- Outside the bounds the fixed calls alone are asked. -/
theorem other (tag : Int) (t b : ByteArray) (k : Int) (w : World) (hz : t.size ≤ maxLen) (hz2 : b.size ≤ maxLen) (h : 300 < t.size ∨ tag < 0 ∨ 255 < tag ∨ 300 < b.size) :
    Calls Try.prog 6 #[.agg #[.int .i64 tag, .string t], .string b, .int .i64 k] w fun e w' => e = .returned (.bool true) ∧ Below w.heap.size w w' := by
  have hb : Below w.heap.size w w := Below.refl _ _
  have CS := fun W => Lib.hid (small_one (tag, t) W hz)
  have hc : (decide ((tag, t).2.size ≤ 300) = false) ∨ (decide ((tag, t).2.size ≤ 300) = true ∧ tag < 0) ∨ (decide ((tag, t).2.size ≤ 300) = true ∧ 0 ≤ tag ∧ 255 < tag) ∨ (decide ((tag, t).2.size ≤ 300) = true ∧ 0 ≤ tag ∧ tag ≤ 255 ∧ (300 : Int) < b.size) := by
    simp; omega
  unfold maxLen at hz hz2
  clear h
  rcases hc with h | ⟨h, h1⟩ | ⟨h, h1, h2⟩ | ⟨h, h1, h2, h3⟩
  all_goals
    rw [h] at CS
    go_enter Try.func6, Try.ntmps6
    go_wp2_with (first
      | (go_at_call 10; refine (fixed_true (w.alloc (.cells #[.int .i64 tag, .string t] 32))).mono ?_; rintro e v1 ⟨rfl, hb1⟩; have hx := (Held.new w 32 #[.int .i64 tag, .string t]).below hb1; have c0 := hx.cell 0; have c1 := hx.cell 1; have hlt := hx.lt; simp at c0 c1; replace hb := below_laid hb1; clear hb1)
      | (go_at_call 9; refine (CS _).out.mono ?_; rintro e v2 ⟨rfl, rfl⟩)
      | (go_at_call 10; refine (fixed_true _).mono ?_; rintro e v3 ⟨rfl, hb3⟩; replace hb := Below.step hb (below_laid hb3); clear hb3))
    go_ret
    exact ⟨rfl, hb⟩

set_option maxHeartbeats 1000000 in
set_option maxRecDepth 100000 in
theorem uncut (tag : Int) (t b : ByteArray) (k : Int) (w : World) (h0 : 0 ≤ tag) (h1 : tag ≤ 255) (h2 : t.size ≤ 300) (h3 : b.size ≤ 300) (h4 : k < 0 ∨ (putS tag t.data.toList).length ≤ k) :
    Calls Try.prog 6 #[.agg #[.int .i64 tag, .string t], .string b, .int .i64 k] w fun e w' => e = .returned (.bool true) ∧ Below w.heap.size w w' := by
  have hb : Below w.heap.size w w := Below.refl _ _
  have hl : t.data.toList.length = t.size := rfl
  have htm : t.size ≤ maxLen := by unfold maxLen; omega
  have CP := fun W => Lib.hid (sput_any tag t W htm)
  have CS := fun W => Lib.hid (small_one (tag, t) W htm)
  rw [show decide ((tag, t).2.size ≤ 300) = true by simpa using h2] at CS
  have hlen := putS_len tag t.data.toList
  generalize putS tag t.data.toList = q at *
  have hqs : (⟨q.toArray⟩ : ByteArray).size = q.length := by show q.toArray.size = _; simp
  have n1 : decide (tag < 0) = false := by simp; omega
  have n2 : decide (255 < tag) = false := by simp; omega
  have n3 : decide ((300 : Int) < b.size) = false := by simp; omega
  have hc : k < 0 ∨ (0 ≤ k ∧ (q.length : Int) ≤ k) := by omega
  clear hl h4
  rcases hc with h | ⟨h, h'⟩
  all_goals
    go_enter Try.func6, Try.ntmps6
    go_wp2_with (first
      | (go_at_call 10; refine (fixed_true (w.alloc (.cells #[.int .i64 tag, .string t] 32))).mono ?_; rintro e v1 ⟨rfl, hb1⟩; have hx := (Held.new w 32 #[.int .i64 tag, .string t]).below hb1; have c0 := hx.cell 0; have c1 := hx.cell 1; have hlt := hx.lt; simp at c0 c1; replace hb := below_laid hb1; clear hb1)
      | (go_at_call 9; refine (CS _).out.mono ?_; rintro e v2 ⟨rfl, rfl⟩)
      | (go_at_call 15; refine (CP _).out.mono ?_; rintro e v3 ⟨rfl, hb3⟩; replace hb := Below.step hb (below_laid hb3); clear hb3)
      | (go_at_call 10; refine (fixed_true _).mono ?_; rintro e v4 ⟨rfl, hb4⟩; replace hb := Below.step hb hb4; clear hb4))
    go_ret
    exact ⟨rfl, hb⟩

theorem entry {H : Type} {enc : TypeId × Value → H} (W : World) (base : Nat) (v0 v1 v2 : Value) (d0 d1 d2 : DataW H) (p0 p1 p2 : List MemPlace)
    (k0 : Value.okWide Try.prog W .any base 32 v0) (k1 : Value.okWide Try.prog W .any base 9 v1) (k2 : Value.okWide Try.prog W .any base 3 v2)
    (h0 : DataW.Trod enc Try.prog W 0 (fun _ => true) true 32 v0 d0 p0) (h1 : DataW.Trod enc Try.prog W 0 (fun _ => true) true 9 v1 d1 p1) (h2 : DataW.Trod enc Try.prog W 0 (fun _ => true) true 3 v2 d2 p2) :
    Calls Try.prog 6 #[v0, v1, v2] W fun e w' => e = .returned (.bool true) ∧ Below W.heap.size W w' := by
  obtain ⟨tag, t, rfl, _, ht⟩ := open_sec k0 h0
  obtain ⟨b, rfl, _, _, hbz⟩ := Go.ChangeMaps.open_string Try.underlying9 k1 h1
  obtain ⟨k, rfl, _, _, _⟩ := open_int Try.underlying3 k2 h2
  by_cases h : 300 < t.size ∨ tag < 0 ∨ 255 < tag ∨ 300 < b.size
  · exact other tag t b k W ht hbz h
  · by_cases h' : k < 0 ∨ (putS tag t.data.toList).length ≤ k
    · exact uncut tag t b k W (by omega) (by omega) (by omega) (by omega) h'
    · obtain ⟨m, rfl⟩ := Int.eq_ofNat_of_zero_le (by omega : 0 ≤ k)
      exact good tag t b m W (by omega) (by omega) (by omega) (by omega) (by omega)
end Go.Proofs.Yteikmkbaokfgeaa.sectCut
