/- message: the fields of a message, laid down. -/
import Derived.Test.YteejeemljhmgcaaGreatDoorMa
namespace Go.Proofs.YteejeemljhmgcaaGreatDoor
open Go.RowKit
/-- a function as a value -/
def fv (k : Nat) : Value := .func (.func k) #[] #[]
/-- a block more at the end -/
theorem boxed (w wa : World) (cs : List Value) (t : TypeId) (h : w.alloc (.cells cs.toArray t) = wa) : Bk wa w.heap.size cs t ∧ Below w.heap.size w wa ∧ wa.heap.size = w.heap.size + 1 := by
  subst h
  exact ⟨Bk.new _ _ _, below_new _ _, by simp⟩
set_option maxRecDepth 4000 in
set_option maxHeartbeats 1000000 in
theorem word_lay {Q : Ending → World → Prop} (b i p : Nat) (n : Int) (w : World) (hb : b < w.heap.size) (hc : w.cell? ⟨b, i, none⟩ = some (.int .i64 n))
    (HQ : Hid (∀ w1, Below w.heap.size w w1 → Calls Tryz.prog 116 #[.pointer (some ⟨p, 0, none⟩), .int .i64 n] w1 fun e w' => e = .returned (.tuple #[]) ∧ Q e w')) :
    Calls Tryz.prog 224 #[.agg #[.pointer (some ⟨b, i, none⟩), fv 116, fv 117], .pointer (some ⟨p, 0, none⟩)] w Q := by
  unfold fv
  obtain ⟨wa, hwa⟩ : ∃ x, w.alloc (.cells #[.pointer (some ⟨b, i, none⟩), .func (.func 116) #[] #[], .func (.func 117) #[] #[]] 191) = x := ⟨_, rfl⟩
  obtain ⟨hk, hB, hz⟩ := boxed w wa _ _ hwa
  have HB := hid hB
  have a0 := hk.cell 0 rfl
  have a1 := hk.cell 1 rfl
  have ac : wa.cell? ⟨b, i, none⟩ = some (.int .i64 n) := (cells_of_block (hB.block b hb) i).1.trans hc
  clear hk hB hz hb hc
  go_enter Tryz.func224, Tryz.ntmps224
  go_wp2_with fail
  go_region_with (first | (refine (HQ.out _ (below_drew HB.out 1)).mono ?_; rintro e w' ⟨rfl, h⟩))
  all_goals (
    go_wp2
    first | go_end0 | refine bodyPost_ret (results_none rfl _ _ _) rfl ?_
    exact h)
set_option maxRecDepth 4000 in
set_option maxHeartbeats 1000000 in
theorem flag_lay {Q : Ending → World → Prop} (b i p : Nat) (n : Bool) (w : World) (hb : b < w.heap.size) (hc : w.cell? ⟨b, i, none⟩ = some (.bool n))
    (HQ : Hid (∀ w1, Below w.heap.size w w1 → Calls Tryz.prog 118 #[.pointer (some ⟨p, 0, none⟩), .bool n] w1 fun e w' => e = .returned (.tuple #[]) ∧ Q e w')) :
    Calls Tryz.prog 231 #[.agg #[.pointer (some ⟨b, i, none⟩), fv 118, fv 119], .pointer (some ⟨p, 0, none⟩)] w Q := by
  unfold fv
  obtain ⟨wa, hwa⟩ : ∃ x, w.alloc (.cells #[.pointer (some ⟨b, i, none⟩), .func (.func 118) #[] #[], .func (.func 119) #[] #[]] 199) = x := ⟨_, rfl⟩
  obtain ⟨hk, hB, hz⟩ := boxed w wa _ _ hwa
  have HB := hid hB
  have a0 := hk.cell 0 rfl
  have a1 := hk.cell 1 rfl
  have ac : wa.cell? ⟨b, i, none⟩ = some (.bool n) := (cells_of_block (hB.block b hb) i).1.trans hc
  clear hk hB hz hb hc
  go_enter Tryz.func231, Tryz.ntmps231
  go_wp2_with fail
  go_region_with (first | (refine (HQ.out _ (below_drew HB.out 1)).mono ?_; rintro e w' ⟨rfl, h⟩))
  all_goals (
    go_wp2
    first | go_end0 | refine bodyPost_ret (results_none rfl _ _ _) rfl ?_
    exact h)
end Go.Proofs.YteejeemljhmgcaaGreatDoor
