/-
  cofferkeep.Anything: what the row says of the program, worked out by the kernel: a fact each, so that what one holds is freed ahead of the next.
-/
import Derived.Test.YtcegdgmbponapaaGreatDoorPart04
namespace Go.Proofs.YtcegdgmbponapaaGreatDoor
open Go.ChangeShapes Go.WideShapes Go.ChangeAt Go.RowKit Go.Joins

theorem anything_inPlace : (Rows.anythingRow.inPlace == Tryz.pinned.checked.prog.inPlace 9) = true := by kernel_rfl
theorem anything_unfollowed : (Rows.anythingRow.unfollowed == Tryz.pinned.checked.prog.unfollowed 9) = true := by kernel_rfl
theorem anything_recurses : (Rows.anythingRow.recurses == Tryz.pinned.checked.prog.recurses 9) = true := by kernel_rfl
theorem anything_named : (Rows.anythingRow.named == Tryz.pinned.checked.prog.varsNamed 9) = true := by kernel_rfl
theorem anything_joined : Go.joinedFacts Tryz.pinned.checked.prog 9 Tryz.f9 Rows.anythingSpec Rows.anythingRow = true := by
  unfold Go.joinedFacts
  rw [anything_inPlace, anything_unfollowed, anything_recurses, anything_named]
  kernel_rfl
theorem anything_instance : Go.Func.isInstance Tryz.pinned.checked.prog Tryz.f9 Rows.anythingRow.origin Rows.anythingRow.targs := of_decide_eq_true (by kernel_rfl)
theorem anything_wrapper : Go.Func.isWrapper Tryz.pinned.checked.prog Tryz.f9 Rows.anythingRow.wrapper Rows.anythingRow.mainSum := by unfold Func.isWrapper; first | (rw [if_pos (by decide +kernel)]; kernel_rfl) | (rw [if_neg (by decide +kernel)]; exact ⟨rfl, rfl⟩)
theorem anything_func : Tryz.pinned.checked.prog.funcNamed Rows.anythingRow.func = some 9 := by kernel_rfl
end Go.Proofs.YtcegdgmbponapaaGreatDoor
