/-
  DERIVED. GIVEN WITH THE SEED: THE PROGRAM's TIES (one call each: nine closed facts by the kernel) AND EACH ROW's TIE, after the 31st guide's Derived/Test/Toyas{Tie, Card}.lean. No idea stands in it: it is a product of the set-up. Laid BY PROGRAM, IN A SANDBOX (cutbox-door.mjs). By AI agents, Wed Nov 11 2026. No macro, syntax, notation, axiom, sorry.
-/
import Derived.Test.YtjibkgildfjjoaaGreatDoorRows
import Derived.LaidByTextLater
import Derived.SevenTiedAt
import Derived.LaidSub
import Derived.LaidOnce
namespace Go.Proofs.YtjibkgildfjjoaaGreatDoor
open Go
set_option maxRecDepth 100000
theorem seatTie1 : Tryz.prog.laidByTextLater [("transhumance/op.operations", Rows.laid_transhumance_op_operations), ("transhumance/frame.nobody", Rows.laid_transhumance_frame_nobody), ("transhumance/world.noRef", Rows.laid_transhumance_world_noRef)] [.data, .data, .data] true :=
  Program.laidByTextLater_by_one 41 8 120 (by kernel_rfl) (by kernel_rfl) (by kernel_rfl) (by kernel_rfl) (by kernel_rfl) (by kernel_rfl) (fun _ _ => by kernel_rfl)
theorem noOwnUnsafe : Tryz.pinned.checked.prog.headLifts.contains "ownunsafe" = false := by kernel_rfl
theorem tie : Tryz.prog.laidByTextLater [("transhumance/op.operations", Rows.laid_transhumance_op_operations), ("transhumance/frame.nobody", Rows.laid_transhumance_frame_nobody), ("transhumance/world.noRef", Rows.laid_transhumance_world_noRef)] [.data, .data, .data] true :=
  Program.laidByTextLater.sub seatTie1 ["transhumance/op.operations", "transhumance/frame.nobody", "transhumance/world.noRef"] (by kernel_rfl) (by kernel_rfl)
theorem worldTells_row_tie : Rows.worldTellsRow.laidByTextAt .later Tryz.pinned [.data, .data, .data] true :=
  OpenClaim.laidByTextAt_later rfl rfl tie noOwnUnsafe
theorem worldNew_row_tie : Rows.worldNewRow.laidByTextAt .later Tryz.pinned [.data, .data, .data] true :=
  OpenClaim.laidByTextAt_later rfl rfl tie noOwnUnsafe
theorem worldTellsUpto_row_tie : Rows.worldTellsUptoRow.laidByTextAt .later Tryz.pinned [.data, .data, .data] true :=
  OpenClaim.laidByTextAt_later rfl rfl tie noOwnUnsafe
theorem worldNewUpto_row_tie : Rows.worldNewUptoRow.laidByTextAt .later Tryz.pinned [.data, .data, .data] true :=
  OpenClaim.laidByTextAt_later rfl rfl tie noOwnUnsafe
end Go.Proofs.YtjibkgildfjjoaaGreatDoor
