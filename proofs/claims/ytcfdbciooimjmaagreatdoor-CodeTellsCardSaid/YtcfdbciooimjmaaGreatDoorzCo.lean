/- Layer 7's code: all its calls. -/
import Derived.Test.YtcfdbciooimjmaaGreatDoorzGl
import Derived.Test.YtcfdbciooimjmaaGreatDoorzKs
import Derived.Test.YtcfdbciooimjmaaGreatDoorzKe
import Derived.Test.YtcfdbciooimjmaaGreatDoorzGe
import Derived.Test.YtcfdbciooimjmaaGreatDoorzPr5
import Derived.Test.YtcfdbciooimjmaaGreatDoorzL7fix
namespace Go.Proofs.YtcfdbciooimjmaaGreatDoor
set_option linter.unusedVariables false
set_option linter.unusedSimpArgs false
open Go.RowKit Go.ChangeShapes Go.WideShapes Go.ChangeAt Go.Sort

theorem codeB : CodeB TT digD where
  keep := fun h hb => h.below hb
  may := fun c w hT h hz hB => cmay_any c w hT h hz hB
  text := fun c w hT h hz hB => ctext_any c w hT h hz hB
  enc := fun c w hT h hz hB => cenc_any c w hT h hz hB
  dig := fun c w hT h hz hB => cdig_any c w hT h hz hB
  same := fun c c' w _ h hz h' _ hB => csame_any c c' w h hz h' hB
  parse := fun l w hT hl => (cparse_any l w hT hl).mono fun _ _ ⟨A, c, he, _, hp, hb⟩ => ⟨A, c, he, hp, hb⟩
  dec := fun l w hT hl => cdec_any l w hT hl
  parseW := fun l w hT hl => cparse_any l w hT hl

set_option maxHeartbeats 1000000 in
set_option maxRecDepth 100000 in
theorem pdig_any {B : Nat} {A : Option Addr} {p : List Fun} (c : Nat) (w : World) (h : ProgAt w B A p) (hz : SizedP p) (hB : B ≤ w.heap.size) :
    Calls Tryz.prog 22 #[.slice A p.length c] w fun e w' => e = .returned (.int .i64 (digD (encP p))) ∧ Below w.heap.size w w' := by
  have M := Lib.hid (penc_any c w h hz hB)
  have hl := encP_len p
  have C := fun W => Lib.hid (rof_any ⟨(encP p).toArray⟩ W (by rw [strb_size]; unfold maxLen; omega))
  generalize encP p = l at *
  clear h hz hl
  go_enter Tryz.func22, Tryz.ntmps22
  go_wp2_with (first
    | (go_at_call 20; (with_reducible refine M.out.mono ?_); rintro e w0 ⟨rfl, hb0⟩)
    | (go_at_call 52; (with_reducible refine (C _).out.mono ?_); rintro e w1 ⟨rfl, rfl⟩))
  go_ret
  exact ⟨rfl, hb0⟩
theorem refD : RefD TT digD := ⟨fun c w _ h hz hB => pdig_any c w h hz hB⟩
theorem dig_fix : digD b0 ≠ 0 := by decide +kernel
theorem codeC : CodeC TT digD := { toCodeB := codeB, fx := fun w hT => fixed_any codeB refD dig_fix w hT }
end Go.Proofs.YtcfdbciooimjmaaGreatDoor

