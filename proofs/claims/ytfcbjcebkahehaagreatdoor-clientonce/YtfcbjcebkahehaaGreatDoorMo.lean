/- message: the tables. -/
import Derived.Test.YtfcbjcebkahehaaGreatDoorZbb
import Derived.StillTailTactics
namespace Go.Proofs.YtfcbjcebkahehaaGreatDoor
open Go.RowKit
def headC : List (Bool × Fd) := [(true, .word 0), (true, .sign 0), (true, .word 1)]
def bodyC : List (Bool × Fd) := [(true, .word 2), (true, .word 3), (true, .word 4), (true, .word 5), (true, .body 6 400), (true, .word 7), (true, .body 8 400), (true, .tail 9)]
def headR : List (Bool × Fd) := [(true, .word 0), (true, .sign 1), (true, .flag 1)]
def bodyR (d : Bool) : List (Bool × Fd) := [(d, .small 5 1), (!d, .word 2), (!d, .body 3 400), (!d, .small 4 5)]
def endR (m a s : Bool) : List (Bool × Fd) := [(m, .word 7), (m, .word 8), (a, .small 6 14), (s, .tail 9)]
/-- a table that a function makes -/
def Makes (b : Nat) (tab : List (Bool × Fd)) (w : World) (e : Ending) (w' : World) : Prop :=
  e = .returned (.slice (some ⟨w.heap.size, 0, none⟩) tab.length tab.length) ∧ Bk w' w.heap.size (rowsV b tab) 185 ∧ Below w.heap.size w w' ∧ w'.heap.size = w.heap.size + 1
theorem Makes.of {b : Nat} {tab : List (Bool × Fd)} {w : World} (k : Nat) : Makes b tab w (.returned (.slice (some ⟨w.heap.size, 0, none⟩) tab.length tab.length)) ((w.drewN k).alloc (.cells (rowsV b tab).toArray 185)) := by
  refine ⟨rfl, Bk.new (w.drewN k) _ _, (below_drew (Below.refl _ _) k).trans (below_new (w.drewN k) _), ?_⟩
  simp
set_option maxRecDepth 8000 in
set_option maxHeartbeats 4000000 in
theorem callHead_any (b : Nat) (w : World) : Calls Tryz.prog 127 #[.pointer (some ⟨b, 0, none⟩)] w (Makes b headC w) := by
  go_enter Tryz.func127, Tryz.ntmps127
  go_wp2_with fail
  go_still_tail 15, (by kernel_rfl)
  go_wp2
  go_ret
  exact Makes.of (b := b) (tab := headC) 1
set_option maxRecDepth 8000 in
set_option maxHeartbeats 4000000 in
theorem replyHead_any (b : Nat) (w : World) : Calls Tryz.prog 78 #[.pointer (some ⟨b, 0, none⟩)] w (Makes b headR w) := by
  go_enter Tryz.func78, Tryz.ntmps78
  go_wp2_with fail
  go_still_tail 15, (by kernel_rfl)
  go_wp2
  go_ret
  exact Makes.of (b := b) (tab := headR) 1
end Go.Proofs.YtfcbjcebkahehaaGreatDoor
