/- message: the table of a reply's end. -/
import Derived.Test.YtebjheaohichpaaGreatDoorMo
import Derived.StillTailTactics
namespace Go.Proofs.YtebjheaohichpaaGreatDoor
open Go.RowKit
set_option maxRecDepth 8000 in
set_option maxHeartbeats 4000000 in
theorem replyEnd_den (b : Nat) (j : Int) (w : World) (h : w.cell? ⟨b, 1, none⟩ = some (.bool true)) (hj : w.cell? ⟨b, 5, none⟩ = some (.int .i64 j)) : Calls Tryz.prog 28 #[.pointer (some ⟨b, 0, none⟩)] w (Makes b (endR (j == 0) (j == 1) false) w) := by
  by_cases h0 : j = 0
  · subst h0
    go_enter Tryz.func28, Tryz.ntmps28
    go_wp2_with fail
    go_still_tail 28, (by kernel_rfl)
    go_wp2
    go_ret
    exact Makes.of (b := b) (tab := endR true false false) 1
  · have e0 : (j == 0) = false := beq_eq_false_iff_ne.2 h0
    rw [e0]
    generalize hz : (j == 1) = z
    go_enter Tryz.func28, Tryz.ntmps28
    go_wp2_with fail
    go_still_tail 28, (by kernel_rfl)
    go_wp2
    go_ret
    exact Makes.of (b := b) (tab := endR false z false) 1
set_option maxRecDepth 8000 in
set_option maxHeartbeats 4000000 in
theorem replyEnd_acc (b : Nat) (a : Int) (w : World) (h : w.cell? ⟨b, 1, none⟩ = some (.bool false)) (hj : w.cell? ⟨b, 4, none⟩ = some (.int .i64 a)) : Calls Tryz.prog 28 #[.pointer (some ⟨b, 0, none⟩)] w (Makes b (endR (a == 2) false (a == 0)) w) := by
  generalize hz : (a == 0) = z
  generalize hy : (a == 2) = y
  go_enter Tryz.func28, Tryz.ntmps28
  go_wp2_with fail
  go_still_tail 28, (by kernel_rfl)
  go_wp2
  go_ret
  exact Makes.of (b := b) (tab := endR y false z) 1
end Go.Proofs.YtebjheaohichpaaGreatDoor
