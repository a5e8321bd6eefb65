/- Layer 7's code: an instruction's fields. -/
import Derived.Test.YtcfdbciooimjmaaGreatDoorzBc
namespace Go.Proofs.YtcfdbciooimjmaaGreatDoor
set_option linter.unusedVariables false
set_option linter.unusedSimpArgs false
open Go.RowKit Go.ChangeShapes Go.WideShapes Go.ChangeAt Go.Sort

/-- The fields that an instruction has. -/
def flds (o a b : Int) : List Int := if (rz o).f < 1 then [] else if (rz o).f < 2 then [a] else [a, b]
theorem flds_f {o : Int} (h0 : 0 ≤ (rz o).f) (h2 : (rz o).f ≤ 2) (a b : Int) : ((flds o a b).length : Int) = (rz o).f := by
  unfold flds
  split
  · simp; omega
  · split
    · simp; omega
    · simp; omega
theorem flds_at (o a b : Int) : ∀ j (h : j < (flds o a b).length), (#[Value.int .i64 a, Value.int .i64 b] : Array Value)[j]? = some (.int .i64 (flds o a b)[j]) := by
  unfold flds
  split
  · simp
  · split
    · intro j h
      obtain rfl : j = 0 := by simpa using h
      simp
    · intro j h
      match j, h with
      | 0, _ => simp
      | 1, _ => simp

set_option maxHeartbeats 1000000 in
set_option maxRecDepth 100000 in
theorem cfields_any {o : Int} (a b : Int) (h0 : 0 ≤ (rz o).f) (h2 : (rz o).f ≤ 2) (w : World) (hT : TT w) :
    Calls Tryz.prog 44 #[iv o a b] w fun e w' => ∃ A c, e = .returned (.slice A (flds o a b).length c) ∧ IntsAt w' A (flds o a b) ∧ Below w.heap.size w w' := by
  have C := fun W h => Lib.hid (fields_any o W h)
  have hf := flds_f h0 h2 a b
  have hat := flds_at o a b
  generalize flds o a b = l at *
  generalize (rz o).f = f at *
  have HAT := Lib.hid hat
  obtain ⟨n, rfl⟩ : ∃ n : Nat, f = n := ⟨f.toNat, by omega⟩
  obtain rfl : l.length = n := by omega
  have hn : l.length ≤ 2 := by omega
  have ho := hT.op
  clear hat hf h0 h2
  go_enter Tryz.func44, Tryz.ntmps44
  go_wp2_with fail
  have I1 := Held.new w 64 #[.int .i64 o, .int .i64 a, .int .i64 b]
  have J1 := fun x => (Held.new1 w (.cells #[.int .i64 o, .int .i64 a, .int .i64 b] 64) x #[.int .i64 a, .int .i64 b])
  have b1 := fun (x : Obj) => ((Below.refl w.heap.size w).alloc (Nat.le_refl _) x).drew
  have b2 := fun (x y : Obj) => (below2 w x y).drew
  go_region_with (go_at_call 73; first
    | ((with_reducible refine (C _ (ho.below (b2 _ _))).out.mono ?_); rintro e v ⟨rfl, hb⟩; have hJ : Held v (w.heap.size + 1) 3 #[.int .i64 a, .int .i64 b] := (show Held ((w.alloc _).alloc _).drew _ _ _ from J1 _).below hb; have hv := Below.step (b2 _ _) hb; clear hb)
    | ((with_reducible refine (C _ (ho.below (b1 _))).out.mono ?_); rintro e v ⟨rfl, hb⟩; have hI : Held v w.heap.size 64 #[.int .i64 o, .int .i64 a, .int .i64 b] := (show Held (w.alloc _).drew _ _ _ from I1).below hb; have i1 := hI.cell 1; have i2 := hI.cell 2; have il := hI.lt; simp at i1 i2; have hv := Below.step (b1 _) hb; clear hb))
  all_goals
    go_wp2_with fail
    go_ret
    first
      | exact ⟨_, _, rfl, fun _ => ⟨_, _, rfl, hJ, HAT.out⟩, hv⟩
      | exact ⟨_, _, rfl, fun _ => ⟨_, _, rfl, Held.new _ _ _, HAT.out⟩, hv.alloc hv.size _⟩
end Go.Proofs.YtcfdbciooimjmaaGreatDoor

