/- message: the fields of a message, laid down. message: the fields of a message, laid down. message: the fields of a message, laid down. -/
import Derived.Test.YtebjheaohichpaaGreatDoorMb
namespace Go.Proofs.YtebjheaohichpaaGreatDoor
open Go.RowKit
set_option maxRecDepth 4000 in
set_option maxHeartbeats 1000000 in
theorem small_lay {Q : Ending → World → Prop} (b i p : Nat) (m n : Int) (w : World) (hb : b < w.heap.size) (hc : w.cell? ⟨b, i, none⟩ = some (.int .i64 n))
    (HQ : Hid (∀ w1, Below w.heap.size w w1 → Calls Tryz.prog 57 #[.pointer (some ⟨p, 0, none⟩), .int .i64 m, .int .i64 n] w1 fun e w' => e = .returned (.tuple #[]) ∧ Q e w')) :
    Calls Tryz.prog 134 #[.agg #[.pointer (some ⟨b, i, none⟩), .int .i64 m, fv 57, fv 58], .pointer (some ⟨p, 0, none⟩)] w Q := by
  unfold fv
  obtain ⟨wa, hwa⟩ : ∃ x, w.alloc (.cells #[.pointer (some ⟨b, i, none⟩), .int .i64 m, .func (.func 57) #[] #[], .func (.func 58) #[] #[]] 118) = x := ⟨_, rfl⟩
  obtain ⟨hk, hB, hz⟩ := boxed w wa _ _ hwa
  have HB := hid hB
  have a0 := hk.cell 0 rfl
  have a1 := hk.cell 1 rfl
  have a2 := hk.cell 2 rfl
  have ac : wa.cell? ⟨b, i, none⟩ = some (.int .i64 n) := (cells_of_block (hB.block b hb) i).1.trans hc
  clear hk hB hz hb hc
  go_enter Tryz.func134, Tryz.ntmps134
  go_wp2_with fail
  go_region_with (first | (refine (HQ.out _ (below_drew HB.out 1)).mono ?_; rintro e w' ⟨rfl, h⟩))
  all_goals (
    go_wp2
    first | go_end0 | refine bodyPost_ret (results_none rfl _ _ _) rfl ?_
    exact h)
end Go.Proofs.YtebjheaohichpaaGreatDoor
namespace Go.Proofs.YtebjheaohichpaaGreatDoor
open Go.RowKit
set_option maxRecDepth 4000 in
set_option maxHeartbeats 1000000 in
theorem body_lay {Q : Ending → World → Prop} (b i p : Nat) (m : Int) (n : ByteArray) (w : World) (hb : b < w.heap.size) (hc : w.cell? ⟨b, i, none⟩ = some (.string n))
    (HQ : Hid (∀ w1, Below w.heap.size w w1 → Calls Tryz.prog 42 #[.pointer (some ⟨p, 0, none⟩), .int .i64 m, .string n] w1 fun e w' => e = .returned (.tuple #[]) ∧ Q e w')) :
    Calls Tryz.prog 121 #[.agg #[.pointer (some ⟨b, i, none⟩), .int .i64 m, fv 42, fv 43], .pointer (some ⟨p, 0, none⟩)] w Q := by
  unfold fv
  obtain ⟨wa, hwa⟩ : ∃ x, w.alloc (.cells #[.pointer (some ⟨b, i, none⟩), .int .i64 m, .func (.func 42) #[] #[], .func (.func 43) #[] #[]] 95) = x := ⟨_, rfl⟩
  obtain ⟨hk, hB, hz⟩ := boxed w wa _ _ hwa
  have HB := hid hB
  have a0 := hk.cell 0 rfl
  have a1 := hk.cell 1 rfl
  have a2 := hk.cell 2 rfl
  have ac : wa.cell? ⟨b, i, none⟩ = some (.string n) := (cells_of_block (hB.block b hb) i).1.trans hc
  clear hk hB hz hb hc
  go_enter Tryz.func121, Tryz.ntmps121
  go_wp2_with fail
  go_region_with (first | (refine (HQ.out _ (below_drew HB.out 1)).mono ?_; rintro e w' ⟨rfl, h⟩))
  all_goals (
    go_wp2
    first | go_end0 | refine bodyPost_ret (results_none rfl _ _ _) rfl ?_
    exact h)
end Go.Proofs.YtebjheaohichpaaGreatDoor
namespace Go.Proofs.YtebjheaohichpaaGreatDoor
open Go.RowKit
set_option maxRecDepth 4000 in
theorem word_empty (b i : Nat) (n : Int) (w : World) (hb : b < w.heap.size) (hc : w.cell? ⟨b, i, none⟩ = some (.int .i64 n)) :
    Calls Tryz.prog 112 #[.agg #[.pointer (some ⟨b, i, none⟩), fv 40, fv 41]] w fun e w' => e = .returned (.bool (n == 0)) ∧ Below w.heap.size w w' := by
  unfold fv
  obtain ⟨wa, hwa⟩ : ∃ x, w.alloc (.cells #[.pointer (some ⟨b, i, none⟩), .func (.func 40) #[] #[], .func (.func 41) #[] #[]] 86) = x := ⟨_, rfl⟩
  obtain ⟨hk, hB, hz⟩ := boxed w wa _ _ hwa
  have HB := hid hB
  have a0 := hk.cell 0 rfl
  have ac : wa.cell? ⟨b, i, none⟩ = some (.int .i64 n) := (cells_of_block (hB.block b hb) i).1.trans hc
  clear hk hB hz hb hc
  go_enter Tryz.func112, Tryz.ntmps112
  go_wp2
  go_ret
  exact ⟨rfl, HB.out⟩
set_option maxRecDepth 4000 in
theorem flag_empty (b i : Nat) (n : Bool) (w : World) (hb : b < w.heap.size) (hc : w.cell? ⟨b, i, none⟩ = some (.bool n)) :
    Calls Tryz.prog 129 #[.agg #[.pointer (some ⟨b, i, none⟩), fv 55, fv 56]] w fun e w' => e = .returned (.bool (!n)) ∧ Below w.heap.size w w' := by
  unfold fv
  obtain ⟨wa, hwa⟩ : ∃ x, w.alloc (.cells #[.pointer (some ⟨b, i, none⟩), .func (.func 55) #[] #[], .func (.func 56) #[] #[]] 112) = x := ⟨_, rfl⟩
  obtain ⟨hk, hB, hz⟩ := boxed w wa _ _ hwa
  have HB := hid hB
  have a0 := hk.cell 0 rfl
  have ac : wa.cell? ⟨b, i, none⟩ = some (.bool n) := (cells_of_block (hB.block b hb) i).1.trans hc
  clear hk hB hz hb hc
  go_enter Tryz.func129, Tryz.ntmps129
  go_wp2
  go_ret
  exact ⟨(by cases n <;> rfl), HB.out⟩
set_option maxRecDepth 4000 in
theorem small_empty (b i : Nat) (m n : Int) (w : World) (hb : b < w.heap.size) (hc : w.cell? ⟨b, i, none⟩ = some (.int .i64 n)) :
    Calls Tryz.prog 133 #[.agg #[.pointer (some ⟨b, i, none⟩), .int .i64 m, fv 57, fv 58]] w fun e w' => e = .returned (.bool (n == 0)) ∧ Below w.heap.size w w' := by
  unfold fv
  obtain ⟨wa, hwa⟩ : ∃ x, w.alloc (.cells #[.pointer (some ⟨b, i, none⟩), .int .i64 m, .func (.func 57) #[] #[], .func (.func 58) #[] #[]] 118) = x := ⟨_, rfl⟩
  obtain ⟨hk, hB, hz⟩ := boxed w wa _ _ hwa
  have HB := hid hB
  have a0 := hk.cell 0 rfl
  have ac : wa.cell? ⟨b, i, none⟩ = some (.int .i64 n) := (cells_of_block (hB.block b hb) i).1.trans hc
  clear hk hB hz hb hc
  go_enter Tryz.func133, Tryz.ntmps133
  go_wp2
  go_ret
  exact ⟨rfl, HB.out⟩
set_option maxRecDepth 4000 in
theorem body_empty (b i : Nat) (m : Int) (n : ByteArray) (w : World) (hb : b < w.heap.size) (hc : w.cell? ⟨b, i, none⟩ = some (.string n)) :
    Calls Tryz.prog 120 #[.agg #[.pointer (some ⟨b, i, none⟩), .int .i64 m, fv 42, fv 43]] w fun e w' => e = .returned (.bool n.toList.isEmpty) ∧ Below w.heap.size w w' := by
  unfold fv
  obtain ⟨wa, hwa⟩ : ∃ x, w.alloc (.cells #[.pointer (some ⟨b, i, none⟩), .int .i64 m, .func (.func 42) #[] #[], .func (.func 43) #[] #[]] 95) = x := ⟨_, rfl⟩
  obtain ⟨hk, hB, hz⟩ := boxed w wa _ _ hwa
  have HB := hid hB
  have a0 := hk.cell 0 rfl
  have ac : wa.cell? ⟨b, i, none⟩ = some (.string n) := (cells_of_block (hB.block b hb) i).1.trans hc
  clear hk hB hz hb hc
  go_enter Tryz.func120, Tryz.ntmps120
  go_wp2
  go_ret
  exact ⟨rfl, HB.out⟩
set_option maxRecDepth 4000 in
theorem tail_empty (b i : Nat) (n : ByteArray) (w : World) (hb : b < w.heap.size) (hc : w.cell? ⟨b, i, none⟩ = some (.string n)) :
    Calls Tryz.prog 124 #[.agg #[.pointer (some ⟨b, i, none⟩), fv 44, fv 45]] w fun e w' => e = .returned (.bool n.toList.isEmpty) ∧ Below w.heap.size w w' := by
  unfold fv
  obtain ⟨wa, hwa⟩ : ∃ x, w.alloc (.cells #[.pointer (some ⟨b, i, none⟩), .func (.func 44) #[] #[], .func (.func 45) #[] #[]] 101) = x := ⟨_, rfl⟩
  obtain ⟨hk, hB, hz⟩ := boxed w wa _ _ hwa
  have HB := hid hB
  have a0 := hk.cell 0 rfl
  have ac : wa.cell? ⟨b, i, none⟩ = some (.string n) := (cells_of_block (hB.block b hb) i).1.trans hc
  clear hk hB hz hb hc
  go_enter Tryz.func124, Tryz.ntmps124
  go_wp2
  go_ret
  exact ⟨rfl, HB.out⟩
theorem sign_empty (n : Int) (w : World) : Calls Tryz.prog 116 #[.agg #[.int .i64 n, fv 40, fv 41]] w fun e w' => e = .returned (.bool true) ∧ Below w.heap.size w w' := by
  unfold fv
  go_enter Tryz.func116, Tryz.ntmps116
  go_wp2
  go_ret
  exact ⟨rfl, by first | exact Below.refl _ _ | exact below_new _ _⟩
end Go.Proofs.YtebjheaohichpaaGreatDoor
