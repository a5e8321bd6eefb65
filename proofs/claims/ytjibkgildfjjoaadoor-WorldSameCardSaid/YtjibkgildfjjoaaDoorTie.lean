/-
  DERIVED. GIVEN WITH THE SEED: THE PROGRAM's TIES (one call each: nine closed facts by the kernel) AND EACH ROW's TIE, after the 31st guide's Derived/Test/Toyas{Tie, Card}.lean. No idea stands in it: it is a product of the set-up. Laid BY PROGRAM, IN A SANDBOX (cutbox-door.mjs). By AI agents, Wed Nov 11 2026. No macro, syntax, notation, axiom, sorry.
-/
import Derived.Test.YtjibkgildfjjoaaDoorRows
import Derived.LaidByTextLater
import Derived.SevenTiedAt
import Derived.LaidSub
import Derived.LaidOnce
namespace Go.Proofs.YtjibkgildfjjoaaDoor
open Go
set_option maxRecDepth 100000
theorem seatTie1 : Tryd.prog.laidByTextLater [("transhumance/op.operations", Rows.laid_transhumance_op_operations), ("transhumance/frame.nobody", Rows.laid_transhumance_frame_nobody), ("transhumance/world.noRef", Rows.laid_transhumance_world_noRef)] [.data, .data, .data] true :=
  Program.laidByTextLater_by_one 41 8 120 (by kernel_rfl) (by kernel_rfl) (by kernel_rfl) (by kernel_rfl) (by kernel_rfl) (by kernel_rfl) (fun _ _ => by kernel_rfl)
theorem noOwnUnsafe : Tryd.pinned.checked.prog.headLifts.contains "ownunsafe" = false := by kernel_rfl
theorem tie : Tryd.prog.laidByTextLater [("transhumance/op.operations", Rows.laid_transhumance_op_operations), ("transhumance/frame.nobody", Rows.laid_transhumance_frame_nobody), ("transhumance/world.noRef", Rows.laid_transhumance_world_noRef)] [.data, .data, .data] true :=
  Program.laidByTextLater.sub seatTie1 ["transhumance/op.operations", "transhumance/frame.nobody", "transhumance/world.noRef"] (by kernel_rfl) (by kernel_rfl)
theorem worldReady_row_tie : Rows.worldReadyRow.laidByTextAt .later Tryd.pinned [.data, .data, .data] true :=
  OpenClaim.laidByTextAt_later rfl rfl tie noOwnUnsafe
theorem worldSame_row_tie : Rows.worldSameRow.laidByTextAt .later Tryd.pinned [.data, .data, .data] true :=
  OpenClaim.laidByTextAt_later rfl rfl tie noOwnUnsafe
theorem worldFresh_row_tie : Rows.worldFreshRow.laidByTextAt .later Tryd.pinned [.data, .data, .data] true :=
  OpenClaim.laidByTextAt_later rfl rfl tie noOwnUnsafe
theorem worldReadyUpto_row_tie : Rows.worldReadyUptoRow.laidByTextAt .later Tryd.pinned [.data, .data, .data] true :=
  OpenClaim.laidByTextAt_later rfl rfl tie noOwnUnsafe
theorem worldSameUpto_row_tie : Rows.worldSameUptoRow.laidByTextAt .later Tryd.pinned [.data, .data, .data] true :=
  OpenClaim.laidByTextAt_later rfl rfl tie noOwnUnsafe
theorem worldFreshUpto_row_tie : Rows.worldFreshUptoRow.laidByTextAt .later Tryd.pinned [.data, .data, .data] true :=
  OpenClaim.laidByTextAt_later rfl rfl tie noOwnUnsafe
end Go.Proofs.YtjibkgildfjjoaaDoor
