/- message: the fields of a message, laid down. message: the fields of a message, laid down. message: the fields of a message, laid down. -/
import Derived.Test.YtfcbjcebkahehaaGreatDoorZaw
namespace Go.Proofs.YtfcbjcebkahehaaGreatDoor
open Go.RowKit
set_option maxRecDepth 4000 in
set_option maxHeartbeats 1000000 in
theorem small_lay {Q : Ending → World → Prop} (b i p : Nat) (m n : Int) (w : World) (hb : b < w.heap.size) (hc : w.cell? ⟨b, i, none⟩ = some (.int .i64 n))
    (HQ : Hid (∀ w1, Below w.heap.size w w1 → Calls Tryz.prog 120 #[.pointer (some ⟨p, 0, none⟩), .int .i64 m, .int .i64 n] w1 fun e w' => e = .returned (.tuple #[]) ∧ Q e w')) :
    Calls Tryz.prog 235 #[.agg #[.pointer (some ⟨b, i, none⟩), .int .i64 m, fv 120, fv 121], .pointer (some ⟨p, 0, none⟩)] w Q := by
  unfold fv
  obtain ⟨wa, hwa⟩ : ∃ x, w.alloc (.cells #[.pointer (some ⟨b, i, none⟩), .int .i64 m, .func (.func 120) #[] #[], .func (.func 121) #[] #[]] 204) = x := ⟨_, rfl⟩
  obtain ⟨hk, hB, hz⟩ := boxed w wa _ _ hwa
  have HB := hid hB
  have a0 := hk.cell 0 rfl
  have a1 := hk.cell 1 rfl
  have a2 := hk.cell 2 rfl
  have ac : wa.cell? ⟨b, i, none⟩ = some (.int .i64 n) := (cells_of_block (hB.block b hb) i).1.trans hc
  clear hk hB hz hb hc
  go_enter Tryz.func235, Tryz.ntmps235
  go_wp2_with fail
  go_region_with (first | (refine (HQ.out _ (below_drew HB.out 1)).mono ?_; rintro e w' ⟨rfl, h⟩))
  all_goals (
    go_wp2
    first | go_end0 | refine bodyPost_ret (results_none rfl _ _ _) rfl ?_
    exact h)
end Go.Proofs.YtfcbjcebkahehaaGreatDoor
namespace Go.Proofs.YtfcbjcebkahehaaGreatDoor
open Go.RowKit
set_option maxRecDepth 4000 in
set_option maxHeartbeats 1000000 in
theorem body_lay {Q : Ending → World → Prop} (b i p : Nat) (m : Int) (n : ByteArray) (w : World) (hb : b < w.heap.size) (hc : w.cell? ⟨b, i, none⟩ = some (.string n))
    (HQ : Hid (∀ w1, Below w.heap.size w w1 → Calls Tryz.prog 122 #[.pointer (some ⟨p, 0, none⟩), .int .i64 m, .string n] w1 fun e w' => e = .returned (.tuple #[]) ∧ Q e w')) :
    Calls Tryz.prog 238 #[.agg #[.pointer (some ⟨b, i, none⟩), .int .i64 m, fv 122, fv 123], .pointer (some ⟨p, 0, none⟩)] w Q := by
  unfold fv
  obtain ⟨wa, hwa⟩ : ∃ x, w.alloc (.cells #[.pointer (some ⟨b, i, none⟩), .int .i64 m, .func (.func 122) #[] #[], .func (.func 123) #[] #[]] 211) = x := ⟨_, rfl⟩
  obtain ⟨hk, hB, hz⟩ := boxed w wa _ _ hwa
  have HB := hid hB
  have a0 := hk.cell 0 rfl
  have a1 := hk.cell 1 rfl
  have a2 := hk.cell 2 rfl
  have ac : wa.cell? ⟨b, i, none⟩ = some (.string n) := (cells_of_block (hB.block b hb) i).1.trans hc
  clear hk hB hz hb hc
  go_enter Tryz.func238, Tryz.ntmps238
  go_wp2_with fail
  go_region_with (first | (refine (HQ.out _ (below_drew HB.out 1)).mono ?_; rintro e w' ⟨rfl, h⟩))
  all_goals (
    go_wp2
    first | go_end0 | refine bodyPost_ret (results_none rfl _ _ _) rfl ?_
    exact h)
end Go.Proofs.YtfcbjcebkahehaaGreatDoor
namespace Go.Proofs.YtfcbjcebkahehaaGreatDoor
open Go.RowKit
set_option maxRecDepth 4000 in
theorem word_empty (b i : Nat) (n : Int) (w : World) (hb : b < w.heap.size) (hc : w.cell? ⟨b, i, none⟩ = some (.int .i64 n)) :
    Calls Tryz.prog 223 #[.agg #[.pointer (some ⟨b, i, none⟩), fv 116, fv 117]] w fun e w' => e = .returned (.bool (n == 0)) ∧ Below w.heap.size w w' := by
  unfold fv
  obtain ⟨wa, hwa⟩ : ∃ x, w.alloc (.cells #[.pointer (some ⟨b, i, none⟩), .func (.func 116) #[] #[], .func (.func 117) #[] #[]] 191) = x := ⟨_, rfl⟩
  obtain ⟨hk, hB, hz⟩ := boxed w wa _ _ hwa
  have HB := hid hB
  have a0 := hk.cell 0 rfl
  have ac : wa.cell? ⟨b, i, none⟩ = some (.int .i64 n) := (cells_of_block (hB.block b hb) i).1.trans hc
  clear hk hB hz hb hc
  go_enter Tryz.func223, Tryz.ntmps223
  go_wp2
  go_ret
  exact ⟨rfl, HB.out⟩
set_option maxRecDepth 4000 in
theorem flag_empty (b i : Nat) (n : Bool) (w : World) (hb : b < w.heap.size) (hc : w.cell? ⟨b, i, none⟩ = some (.bool n)) :
    Calls Tryz.prog 230 #[.agg #[.pointer (some ⟨b, i, none⟩), fv 118, fv 119]] w fun e w' => e = .returned (.bool (!n)) ∧ Below w.heap.size w w' := by
  unfold fv
  obtain ⟨wa, hwa⟩ : ∃ x, w.alloc (.cells #[.pointer (some ⟨b, i, none⟩), .func (.func 118) #[] #[], .func (.func 119) #[] #[]] 199) = x := ⟨_, rfl⟩
  obtain ⟨hk, hB, hz⟩ := boxed w wa _ _ hwa
  have HB := hid hB
  have a0 := hk.cell 0 rfl
  have ac : wa.cell? ⟨b, i, none⟩ = some (.bool n) := (cells_of_block (hB.block b hb) i).1.trans hc
  clear hk hB hz hb hc
  go_enter Tryz.func230, Tryz.ntmps230
  go_wp2
  go_ret
  exact ⟨(by cases n <;> rfl), HB.out⟩
set_option maxRecDepth 4000 in
theorem small_empty (b i : Nat) (m n : Int) (w : World) (hb : b < w.heap.size) (hc : w.cell? ⟨b, i, none⟩ = some (.int .i64 n)) :
    Calls Tryz.prog 234 #[.agg #[.pointer (some ⟨b, i, none⟩), .int .i64 m, fv 120, fv 121]] w fun e w' => e = .returned (.bool (n == 0)) ∧ Below w.heap.size w w' := by
  unfold fv
  obtain ⟨wa, hwa⟩ : ∃ x, w.alloc (.cells #[.pointer (some ⟨b, i, none⟩), .int .i64 m, .func (.func 120) #[] #[], .func (.func 121) #[] #[]] 204) = x := ⟨_, rfl⟩
  obtain ⟨hk, hB, hz⟩ := boxed w wa _ _ hwa
  have HB := hid hB
  have a0 := hk.cell 0 rfl
  have ac : wa.cell? ⟨b, i, none⟩ = some (.int .i64 n) := (cells_of_block (hB.block b hb) i).1.trans hc
  clear hk hB hz hb hc
  go_enter Tryz.func234, Tryz.ntmps234
  go_wp2
  go_ret
  exact ⟨rfl, HB.out⟩
set_option maxRecDepth 4000 in
theorem body_empty (b i : Nat) (m : Int) (n : ByteArray) (w : World) (hb : b < w.heap.size) (hc : w.cell? ⟨b, i, none⟩ = some (.string n)) :
    Calls Tryz.prog 237 #[.agg #[.pointer (some ⟨b, i, none⟩), .int .i64 m, fv 122, fv 123]] w fun e w' => e = .returned (.bool n.toList.isEmpty) ∧ Below w.heap.size w w' := by
  unfold fv
  obtain ⟨wa, hwa⟩ : ∃ x, w.alloc (.cells #[.pointer (some ⟨b, i, none⟩), .int .i64 m, .func (.func 122) #[] #[], .func (.func 123) #[] #[]] 211) = x := ⟨_, rfl⟩
  obtain ⟨hk, hB, hz⟩ := boxed w wa _ _ hwa
  have HB := hid hB
  have a0 := hk.cell 0 rfl
  have ac : wa.cell? ⟨b, i, none⟩ = some (.string n) := (cells_of_block (hB.block b hb) i).1.trans hc
  clear hk hB hz hb hc
  go_enter Tryz.func237, Tryz.ntmps237
  go_wp2
  go_ret
  exact ⟨rfl, HB.out⟩
set_option maxRecDepth 4000 in
theorem tail_empty (b i : Nat) (n : ByteArray) (w : World) (hb : b < w.heap.size) (hc : w.cell? ⟨b, i, none⟩ = some (.string n)) :
    Calls Tryz.prog 241 #[.agg #[.pointer (some ⟨b, i, none⟩), fv 124, fv 125]] w fun e w' => e = .returned (.bool n.toList.isEmpty) ∧ Below w.heap.size w w' := by
  unfold fv
  obtain ⟨wa, hwa⟩ : ∃ x, w.alloc (.cells #[.pointer (some ⟨b, i, none⟩), .func (.func 124) #[] #[], .func (.func 125) #[] #[]] 217) = x := ⟨_, rfl⟩
  obtain ⟨hk, hB, hz⟩ := boxed w wa _ _ hwa
  have HB := hid hB
  have a0 := hk.cell 0 rfl
  have ac : wa.cell? ⟨b, i, none⟩ = some (.string n) := (cells_of_block (hB.block b hb) i).1.trans hc
  clear hk hB hz hb hc
  go_enter Tryz.func241, Tryz.ntmps241
  go_wp2
  go_ret
  exact ⟨rfl, HB.out⟩
theorem sign_empty (n : Int) (w : World) : Calls Tryz.prog 227 #[.agg #[.int .i64 n, fv 116, fv 117]] w fun e w' => e = .returned (.bool true) ∧ Below w.heap.size w w' := by
  unfold fv
  go_enter Tryz.func227, Tryz.ntmps227
  go_wp2
  go_ret
  exact ⟨rfl, by first | exact Below.refl _ _ | exact below_new _ _⟩
end Go.Proofs.YtfcbjcebkahehaaGreatDoor
