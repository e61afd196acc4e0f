/- message: the table of a call's body. message: the table of a reply's body. -/
import Derived.Test.YtfcbjcebkahehaaGreatDoorMo
import Derived.StillTailTactics
namespace Go.Proofs.YtfcbjcebkahehaaGreatDoor
open Go.RowKit
set_option maxRecDepth 8000 in
set_option maxHeartbeats 4000000 in
theorem callBody_any (b : Nat) (w : World) : Calls Tryz.prog 129 #[.pointer (some ⟨b, 0, none⟩)] w (Makes b bodyC w) := by
  go_enter Tryz.func129, Tryz.ntmps129
  go_wp2_with fail
  go_still_tail 52, (by kernel_rfl)
  go_wp2
  go_ret
  exact Makes.of (b := b) (tab := bodyC) 1
end Go.Proofs.YtfcbjcebkahehaaGreatDoor
namespace Go.Proofs.YtfcbjcebkahehaaGreatDoor
open Go.RowKit
set_option maxRecDepth 8000 in
set_option maxHeartbeats 4000000 in
theorem replyBody_any (b : Nat) (d : Bool) (w : World) (h : w.cell? ⟨b, 1, none⟩ = some (.bool d)) : Calls Tryz.prog 79 #[.pointer (some ⟨b, 0, none⟩)] w (Makes b (bodyR d) w) := by
  go_enter Tryz.func79, Tryz.ntmps79
  go_wp2_with fail
  go_still_tail 45, (by kernel_rfl)
  go_wp2
  go_ret
  exact Makes.of (b := b) (tab := bodyR d) 1
end Go.Proofs.YtfcbjcebkahehaaGreatDoor
