/- message: the fields of a message, read. -/
import Derived.Test.YtfkggcinpklgmaaDoorMb
namespace Go.Proofs.YtfkggcinpklgmaaDoor
open Go.RowKit
set_option maxRecDepth 4000 in
set_option maxHeartbeats 1000000 in
theorem body_read {R : World → Prop} (b i p : Nat) (m : Int) (N : ByteArray) (w : World) (hp : p < w.heap.size)
    (HR : Hid (∀ w1, Below w.heap.size w w1 → Calls Tryd.prog 31 #[.pointer (some ⟨p, 0, none⟩), .int .i64 m] w1 fun e w' => e = .returned (.string N) ∧ R w' ∧ Sole p w1 w'))
    (HC : Hid (∀ w', R w' → (∃ v, w'.cell? ⟨b, i, none⟩ = some v) ∧ w'.frozen? ⟨b, i, none⟩ = false)) :
    Calls Tryd.prog 88 #[.agg #[.pointer (some ⟨b, i, none⟩), .int .i64 m, fv 30, fv 31], .pointer (some ⟨p, 0, none⟩)] w fun e w'' => e = .returned (.tuple #[]) ∧ ∃ w', R w' ∧ w'' = w'.setCell ⟨b, i, none⟩ (.string N) := by
  unfold fv
  obtain ⟨wa, hwa⟩ : ∃ x, w.alloc (.cells #[.pointer (some ⟨b, i, none⟩), .int .i64 m, .func (.func 30) #[] #[], .func (.func 31) #[] #[]] 86) = x := ⟨_, rfl⟩
  obtain ⟨hk, hB, hz⟩ := boxed w wa _ _ hwa
  have HB := hid hB
  have a0 := hk.cell 0 rfl
  have a1 := hk.cell 1 rfl
  have a3 := hk.cell 3 rfl
  have HS : Hid (∀ w1 w', w1.heap = wa.heap → Sole p w1 w' → w'.heap[w.heap.size]? = wa.heap[w.heap.size]?) := fun w1 w' e h => by
    rw [h.block w.heap.size (by rw [e]; omega) (by omega), e]
  clear hk hB hz hp
  go_enter Tryd.func88, Tryd.ntmps88
  go_wp2_with fail
  go_region_with (first
    | (refine (HR.out _ (below_drew HB.out 1)).mono ?_
       rintro e w2 ⟨rfl, hR, hS⟩
       obtain ⟨⟨v, hv⟩, hf⟩ := HC.out _ hR
       have hx := HS.out _ _ (by rfl) hS
       have b0 := (cells_same hx 0).1.trans a0
       have b1 := (cells_same hx 1).1.trans a1
       have b3 := (cells_same hx 3).1.trans a3
       have HX := hid hR
       clear hR hS hx))
  all_goals (
    go_wp2
    first | go_end0 | refine bodyPost_ret (results_none rfl _ _ _) rfl ?_
    exact ⟨rfl, w2, HX.out, rfl⟩)
end Go.Proofs.YtfkggcinpklgmaaDoor
