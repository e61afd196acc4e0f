/- message: the table of a reply's body. -/
import Derived.Test.YtfkggcinpklgmaaDoorMo
import Derived.StillTailTactics
namespace Go.Proofs.YtfkggcinpklgmaaDoor
open Go.RowKit
set_option maxRecDepth 8000 in
set_option maxHeartbeats 4000000 in
theorem replyBody_any (b : Nat) (d : Bool) (w : World) (h : w.cell? ⟨b, 1, none⟩ = some (.bool d)) : Calls Tryd.prog 21 #[.pointer (some ⟨b, 0, none⟩)] w (Makes b (bodyR d) w) := by
  go_enter Tryd.func21, Tryd.ntmps21
  go_wp2_with fail
  go_still_tail 45, (by kernel_rfl)
  go_wp2
  go_ret
  exact Makes.of (b := b) (tab := bodyR d) 1
end Go.Proofs.YtfkggcinpklgmaaDoor
