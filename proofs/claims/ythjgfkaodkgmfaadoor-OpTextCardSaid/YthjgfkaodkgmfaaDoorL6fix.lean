/- Layer 6: the fixed calls, and op's functions as contracts. -/
import Derived.Test.YthjgfkaodkgmfaaDoorOf
import Derived.Test.YthjgfkaodkgmfaaDoorOr
import Derived.Test.YthjgfkaodkgmfaaDoorQt
import Derived.Lib.SmallJoins
namespace Go.Proofs.YthjgfkaodkgmfaaDoor
set_option linter.unusedVariables false
set_option linter.unusedSimpArgs false
open Go.RowKit Go.ChangeShapes Go.WideShapes Go.ChangeAt Go.Sort

/-- A call that gives v, and makes at most memory of its own, where the table is laid. -/
def Co (P : Program) (f : Nat) (args : Array Value) (v : Value) : Prop := ∀ W, Otab W → Calls P f args W fun e w' => e = .returned v ∧ Below W.heap.size W w'
theorem Co.go {P : Program} {f : Nat} {args : Array Value} {v : Value} (h : Co P f args v) (W : World) (hT : Otab W) : Calls P f args W fun e w' => e = .returned v ∧ Below W.heap.size W w' := h W hT
theorem Otab.regrown {w : World} (h : Otab w) (d : Nat) (os : Array Obj) : Otab (grow (redrawn w d) os) := h.below (below_regrown w d os)
theorem co_name {n : Int} {s : ByteArray} (h : (rz n).nm = s) : Co Tryd.prog 12 #[.int .i64 n] (.string s) := fun W hT => by have := name_any n W hT; rwa [h] at this
theorem co_fields {n f : Int} (h : (rz n).f = f) : Co Tryd.prog 14 #[.int .i64 n] (.int .i64 f) := fun W hT => by have := fields_any n W hT; rwa [h] at this
theorem co_stack {n p q : Int} (h : (rz n).p = p ∧ (rz n).q = q) : Co Tryd.prog 11 #[.int .i64 n] (.tuple #[.int .i64 p, .int .i64 q]) := fun W hT => by have := stack_any n W hT; rwa [h.1, h.2] at this
theorem co_may {o a b : Int} {m : Bool} (h : mayZ o a b = m) : Co Tryd.prog 18 #[iv o a b] (.bool m) := fun W hT => by have := may_any o a b W hT; rwa [h] at this
theorem co_find {s : ByteArray} {n : Int} {b : Bool} (h : numF s = n ∧ isF s = b) : Co Tryd.prog 9 #[.string s] (.tuple #[.int .i64 n, .bool b]) := fun W hT => by have := find_any s W hT; rwa [h.1, h.2] at this

set_option maxHeartbeats 1000000 in
set_option maxRecDepth 100000 in
theorem fixed_true : Co Tryd.prog 8 #[] (.bool true) := fun w hT => by
  have C0 : Co Tryd.prog 9 #[.string ⟨#[109, 117, 108]⟩] (.tuple #[.int .i64 5, .bool true]) := co_find ⟨by kernel_rfl, by kernel_rfl⟩
  have C1 : Co Tryd.prog 9 #[.string ⟨#[77, 117, 108]⟩] (.tuple #[.int .i64 0, .bool false]) := co_find ⟨by kernel_rfl, by kernel_rfl⟩
  have C2 : Co Tryd.prog 11 #[.int .i64 8] (.tuple #[.int .i64 1, .int .i64 2]) := co_stack ⟨by kernel_rfl, by kernel_rfl⟩
  have C3 : Co Tryd.prog 12 #[.int .i64 16] (.string ⟨#[116, 114, 97, 112]⟩) := co_name (by kernel_rfl)
  have C4 : Co Tryd.prog 12 #[.int .i64 17] (.string ⟨#[]⟩) := co_name (by kernel_rfl)
  have C5 : Co Tryd.prog 12 #[.int .i64 (-1)] (.string ⟨#[]⟩) := co_name (by kernel_rfl)
  have C6 : Co Tryd.prog 14 #[.int .i64 13] (.int .i64 2) := co_fields (by kernel_rfl)
  have C7 : Co Tryd.prog 18 #[iv 0 250 250] (.bool true) := co_may (by kernel_rfl)
  have C8 : Co Tryd.prog 18 #[iv 0 251 0] (.bool false) := co_may (by kernel_rfl)
  have C9 : Co Tryd.prog 18 #[iv 16 15 0] (.bool false) := co_may (by kernel_rfl)
  have C10 : Co Tryd.prog 18 #[iv 16 255 0] (.bool true) := co_may (by kernel_rfl)
  have C11 : Co Tryd.prog 18 #[iv 3 1 0] (.bool false) := co_may (by kernel_rfl)
  have hw : Below w.heap.size w w := Below.refl _ _
  go_enter Tryd.func8, Tryd.ntmps8
  go_wp2_with (first
    | (go_at_call 9; (with_reducible refine (C0.go _ hT).mono ?_); rintro e v ⟨rfl, hb⟩; replace hT := hT.below hb; replace hw := Below.step hw hb; clear hb)
    | (go_at_call 9; (with_reducible refine (C1.go _ hT).mono ?_); rintro e v ⟨rfl, hb⟩; replace hT := hT.below hb; replace hw := Below.step hw hb; clear hb)
    | (go_at_call 11; (with_reducible refine (C2.go _ hT).mono ?_); rintro e v ⟨rfl, hb⟩; replace hT := hT.below hb; replace hw := Below.step hw hb; clear hb)
    | (go_at_call 12; (with_reducible refine (C3.go _ hT).mono ?_); rintro e v ⟨rfl, hb⟩; replace hT := hT.below hb; replace hw := Below.step hw hb; clear hb)
    | (go_at_call 12; (with_reducible refine (C4.go _ hT).mono ?_); rintro e v ⟨rfl, hb⟩; replace hT := hT.below hb; replace hw := Below.step hw hb; clear hb)
    | (go_at_call 12; (with_reducible refine (C5.go _ hT).mono ?_); rintro e v ⟨rfl, hb⟩; replace hT := hT.below hb; replace hw := Below.step hw hb; clear hb)
    | (go_at_call 14; (with_reducible refine (C6.go _ hT).mono ?_); rintro e v ⟨rfl, hb⟩; replace hT := hT.below hb; replace hw := Below.step hw hb; clear hb)
    | (go_at_call 18; (with_reducible refine (C7.go _ hT).mono ?_); rintro e v ⟨rfl, hb⟩; replace hT := hT.below hb; replace hw := Below.step hw hb; clear hb)
    | (go_at_call 18; (with_reducible refine (C8.go _ hT).mono ?_); rintro e v ⟨rfl, hb⟩; replace hT := hT.below hb; replace hw := Below.step hw hb; clear hb)
    | (go_at_call 18; (with_reducible refine (C9.go _ hT).mono ?_); rintro e v ⟨rfl, hb⟩; replace hT := hT.below hb; replace hw := Below.step hw hb; clear hb)
    | (go_at_call 18; (with_reducible refine (C10.go _ hT).mono ?_); rintro e v ⟨rfl, hb⟩; replace hT := hT.below hb; replace hw := Below.step hw hb; clear hb)
    | (go_at_call 18; (with_reducible refine (C11.go _ hT).mono ?_); rintro e v ⟨rfl, hb⟩; replace hT := hT.below hb; replace hw := Below.step hw hb; clear hb))
  go_ret
  exact ⟨rfl, hw⟩

theorem open_instr {H : Type} {enc : TypeId × Value → H} {W : World} {base : Nat} {v : Value} {d : DataW H} {p : List MemPlace} (k : Value.okWide Tryd.prog W .any base 23 v)
    (h : DataW.Trod enc Tryd.prog W 0 (fun _ => true) true 23 v d p) : ∃ o a b, v = iv o a b := by
  obtain ⟨v0, v1, v2, y0, y1, y2, n, rfl, _, _, h0, h1, h2⟩ := Go.Joins.open_agg3 Tryd.underlying23 (by kernel_rfl) (by kernel_rfl) k h
  obtain ⟨x, e0, _, _⟩ := DataW.trod_int Tryd.underlying3 h0
  obtain ⟨y, e1, _, _⟩ := DataW.trod_int Tryd.underlying3 h1
  obtain ⟨z, e2, _, _⟩ := DataW.trod_int Tryd.underlying3 h2
  simp at e0 e1 e2
  subst e0 e1 e2
  exact ⟨x, y, z, rfl⟩
end Go.Proofs.YthjgfkaodkgmfaaDoor
