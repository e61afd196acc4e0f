/- message: the fields of a message, read. -/
import Derived.Test.YtfkggcinpklgmaaDoorMb
namespace Go.Proofs.YtfkggcinpklgmaaDoor
open Go.RowKit
set_option maxRecDepth 4000 in
set_option maxHeartbeats 1000000 in
theorem sign_read_ok {R : World → Prop} (p : Nat) (n N : Int) (w : World) (hp : p < w.heap.size) (hn : (N != n) = false)
    (HR : Hid (∀ w1, Below w.heap.size w w1 → Calls Tryd.prog 29 #[.pointer (some ⟨p, 0, none⟩)] w1 fun e w' => e = .returned (.int .i64 N) ∧ R w' ∧ Sole p w1 w'))
    : Calls Tryd.prog 84 #[.agg #[.int .i64 n, fv 28, fv 29], .pointer (some ⟨p, 0, none⟩)] w fun e w'' => e = .returned (.tuple #[]) ∧ R w'' := by
  unfold fv
  obtain ⟨wa, hwa⟩ : ∃ x, w.alloc (.cells #[.int .i64 n, .func (.func 28) #[] #[], .func (.func 29) #[] #[]] 79) = x := ⟨_, rfl⟩
  obtain ⟨hk, hB, hz⟩ := boxed w wa _ _ hwa
  have HB := hid hB
  have a0 := hk.cell 0 rfl
  have a2 := hk.cell 2 rfl
  have HS : Hid (∀ w1 w', w1.heap = wa.heap → Sole p w1 w' → w'.heap[w.heap.size]? = wa.heap[w.heap.size]?) := fun w1 w' e h => by
    rw [h.block w.heap.size (by rw [e]; omega) (by omega), e]
  clear hk hB hz hp
  go_enter Tryd.func84, Tryd.ntmps84
  go_wp2_with fail
  go_region_with (first
    | (refine (HR.out _ (below_drew HB.out 1)).mono ?_
       rintro e w2 ⟨rfl, hR, hS⟩
       have hx := HS.out _ _ (by rfl) hS
       have b0 := (cells_same hx 0).1.trans a0
       have HX := hid hR
       clear hR hS hx))
  all_goals (
    go_wp2_with fail
    first | go_end0 | refine bodyPost_ret (results_none rfl _ _ _) rfl ?_
    exact ⟨rfl, HX.out⟩)
set_option maxRecDepth 4000 in
set_option maxHeartbeats 1000000 in
theorem sign_read_bad {R Q : World → Prop} (p : Nat) (n N : Int) (w : World) (hp : p < w.heap.size) (hn : (N != n) = true)
    (HR : Hid (∀ w1, Below w.heap.size w w1 → Calls Tryd.prog 29 #[.pointer (some ⟨p, 0, none⟩)] w1 fun e w' => e = .returned (.int .i64 N) ∧ R w' ∧ Sole p w1 w'))
    (HF : Hid (∀ w', R w' → Calls Tryd.prog 85 #[.pointer (some ⟨p, 0, none⟩), .int .i64 121] w' fun e w'' => e = .returned (.tuple #[]) ∧ Q w''))
    : Calls Tryd.prog 84 #[.agg #[.int .i64 n, fv 28, fv 29], .pointer (some ⟨p, 0, none⟩)] w fun e w'' => e = .returned (.tuple #[]) ∧ Q w'' := by
  unfold fv
  obtain ⟨wa, hwa⟩ : ∃ x, w.alloc (.cells #[.int .i64 n, .func (.func 28) #[] #[], .func (.func 29) #[] #[]] 79) = x := ⟨_, rfl⟩
  obtain ⟨hk, hB, hz⟩ := boxed w wa _ _ hwa
  have HB := hid hB
  have a0 := hk.cell 0 rfl
  have a2 := hk.cell 2 rfl
  have HS : Hid (∀ w1 w', w1.heap = wa.heap → Sole p w1 w' → w'.heap[w.heap.size]? = wa.heap[w.heap.size]?) := fun w1 w' e h => by
    rw [h.block w.heap.size (by rw [e]; omega) (by omega), e]
  clear hk hB hz hp
  go_enter Tryd.func84, Tryd.ntmps84
  go_wp2_with fail
  go_region_with (first
    | (refine (HR.out _ (below_drew HB.out 1)).mono ?_
       rintro e w2 ⟨rfl, hR, hS⟩
       have hx := HS.out _ _ (by rfl) hS
       have b0 := (cells_same hx 0).1.trans a0
       have HX := hid hR
       clear hR hS hx))
  all_goals (
    go_wp2_with fail
    refine (HF.out _ HX.out).mono ?_
    rintro e w3 ⟨rfl, hQ⟩
    go_wp2
    first | go_end0 | refine bodyPost_ret (results_none rfl _ _ _) rfl ?_
    exact ⟨rfl, hQ⟩)
end Go.Proofs.YtfkggcinpklgmaaDoor
