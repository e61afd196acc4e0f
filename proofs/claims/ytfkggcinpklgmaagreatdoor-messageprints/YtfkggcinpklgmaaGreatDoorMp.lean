/- message: the table of a call's body. -/
import Derived.Test.YtfkggcinpklgmaaGreatDoorMo
import Derived.StillTailTactics
namespace Go.Proofs.YtfkggcinpklgmaaGreatDoor
open Go.RowKit
set_option maxRecDepth 8000 in
set_option maxHeartbeats 4000000 in
theorem callBody_any (b : Nat) (w : World) : Calls Tryz.prog 19 #[.pointer (some ⟨b, 0, none⟩)] w (Makes b bodyC w) := by
  go_enter Tryz.func19, Tryz.ntmps19
  go_wp2_with fail
  go_still_tail 52, (by kernel_rfl)
  go_wp2
  go_ret
  exact Makes.of (b := b) (tab := bodyC) 1
end Go.Proofs.YtfkggcinpklgmaaGreatDoor
