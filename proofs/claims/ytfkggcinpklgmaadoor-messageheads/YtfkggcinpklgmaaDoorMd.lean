/- message: the fields of a message, laid down. -/
import Derived.Test.YtfkggcinpklgmaaDoorMb
namespace Go.Proofs.YtfkggcinpklgmaaDoor
open Go.RowKit
set_option maxRecDepth 4000 in
set_option maxHeartbeats 1000000 in
theorem body_lay {Q : Ending → World → Prop} (b i p : Nat) (m : Int) (n : ByteArray) (w : World) (hb : b < w.heap.size) (hc : w.cell? ⟨b, i, none⟩ = some (.string n))
    (HQ : Hid (∀ w1, Below w.heap.size w w1 → Calls Tryd.prog 30 #[.pointer (some ⟨p, 0, none⟩), .int .i64 m, .string n] w1 fun e w' => e = .returned (.tuple #[]) ∧ Q e w')) :
    Calls Tryd.prog 87 #[.agg #[.pointer (some ⟨b, i, none⟩), .int .i64 m, fv 30, fv 31], .pointer (some ⟨p, 0, none⟩)] w Q := by
  unfold fv
  obtain ⟨wa, hwa⟩ : ∃ x, w.alloc (.cells #[.pointer (some ⟨b, i, none⟩), .int .i64 m, .func (.func 30) #[] #[], .func (.func 31) #[] #[]] 86) = x := ⟨_, rfl⟩
  obtain ⟨hk, hB, hz⟩ := boxed w wa _ _ hwa
  have HB := hid hB
  have a0 := hk.cell 0 rfl
  have a1 := hk.cell 1 rfl
  have a2 := hk.cell 2 rfl
  have ac : wa.cell? ⟨b, i, none⟩ = some (.string n) := (cells_of_block (hB.block b hb) i).1.trans hc
  clear hk hB hz hb hc
  go_enter Tryd.func87, Tryd.ntmps87
  go_wp2_with fail
  go_region_with (first | (refine (HQ.out _ (below_drew HB.out 1)).mono ?_; rintro e w' ⟨rfl, h⟩))
  all_goals (
    go_wp2
    first | go_end0 | refine bodyPost_ret (results_none rfl _ _ _) rfl ?_
    exact h)
end Go.Proofs.YtfkggcinpklgmaaDoor
