/- message: the fields of a message, laid down. -/
import Derived.Test.YtfkggcinpklgmaaDoorMb
namespace Go.Proofs.YtfkggcinpklgmaaDoor
open Go.RowKit
set_option maxRecDepth 4000 in
theorem word_empty (b i : Nat) (n : Int) (w : World) (hb : b < w.heap.size) (hc : w.cell? ⟨b, i, none⟩ = some (.int .i64 n)) :
    Calls Tryd.prog 78 #[.agg #[.pointer (some ⟨b, i, none⟩), fv 28, fv 29]] w fun e w' => e = .returned (.bool (n == 0)) ∧ Below w.heap.size w w' := by
  unfold fv
  obtain ⟨wa, hwa⟩ : ∃ x, w.alloc (.cells #[.pointer (some ⟨b, i, none⟩), .func (.func 28) #[] #[], .func (.func 29) #[] #[]] 77) = x := ⟨_, rfl⟩
  obtain ⟨hk, hB, hz⟩ := boxed w wa _ _ hwa
  have HB := hid hB
  have a0 := hk.cell 0 rfl
  have ac : wa.cell? ⟨b, i, none⟩ = some (.int .i64 n) := (cells_of_block (hB.block b hb) i).1.trans hc
  clear hk hB hz hb hc
  go_enter Tryd.func78, Tryd.ntmps78
  go_wp2
  go_ret
  exact ⟨rfl, HB.out⟩
set_option maxRecDepth 4000 in
theorem flag_empty (b i : Nat) (n : Bool) (w : World) (hb : b < w.heap.size) (hc : w.cell? ⟨b, i, none⟩ = some (.bool n)) :
    Calls Tryd.prog 95 #[.agg #[.pointer (some ⟨b, i, none⟩), fv 35, fv 36]] w fun e w' => e = .returned (.bool (!n)) ∧ Below w.heap.size w w' := by
  unfold fv
  obtain ⟨wa, hwa⟩ : ∃ x, w.alloc (.cells #[.pointer (some ⟨b, i, none⟩), .func (.func 35) #[] #[], .func (.func 36) #[] #[]] 99) = x := ⟨_, rfl⟩
  obtain ⟨hk, hB, hz⟩ := boxed w wa _ _ hwa
  have HB := hid hB
  have a0 := hk.cell 0 rfl
  have ac : wa.cell? ⟨b, i, none⟩ = some (.bool n) := (cells_of_block (hB.block b hb) i).1.trans hc
  clear hk hB hz hb hc
  go_enter Tryd.func95, Tryd.ntmps95
  go_wp2
  go_ret
  exact ⟨(by cases n <;> rfl), HB.out⟩
set_option maxRecDepth 4000 in
theorem small_empty (b i : Nat) (m n : Int) (w : World) (hb : b < w.heap.size) (hc : w.cell? ⟨b, i, none⟩ = some (.int .i64 n)) :
    Calls Tryd.prog 99 #[.agg #[.pointer (some ⟨b, i, none⟩), .int .i64 m, fv 37, fv 38]] w fun e w' => e = .returned (.bool (n == 0)) ∧ Below w.heap.size w w' := by
  unfold fv
  obtain ⟨wa, hwa⟩ : ∃ x, w.alloc (.cells #[.pointer (some ⟨b, i, none⟩), .int .i64 m, .func (.func 37) #[] #[], .func (.func 38) #[] #[]] 105) = x := ⟨_, rfl⟩
  obtain ⟨hk, hB, hz⟩ := boxed w wa _ _ hwa
  have HB := hid hB
  have a0 := hk.cell 0 rfl
  have ac : wa.cell? ⟨b, i, none⟩ = some (.int .i64 n) := (cells_of_block (hB.block b hb) i).1.trans hc
  clear hk hB hz hb hc
  go_enter Tryd.func99, Tryd.ntmps99
  go_wp2
  go_ret
  exact ⟨rfl, HB.out⟩
set_option maxRecDepth 4000 in
theorem body_empty (b i : Nat) (m : Int) (n : ByteArray) (w : World) (hb : b < w.heap.size) (hc : w.cell? ⟨b, i, none⟩ = some (.string n)) :
    Calls Tryd.prog 86 #[.agg #[.pointer (some ⟨b, i, none⟩), .int .i64 m, fv 30, fv 31]] w fun e w' => e = .returned (.bool n.toList.isEmpty) ∧ Below w.heap.size w w' := by
  unfold fv
  obtain ⟨wa, hwa⟩ : ∃ x, w.alloc (.cells #[.pointer (some ⟨b, i, none⟩), .int .i64 m, .func (.func 30) #[] #[], .func (.func 31) #[] #[]] 86) = x := ⟨_, rfl⟩
  obtain ⟨hk, hB, hz⟩ := boxed w wa _ _ hwa
  have HB := hid hB
  have a0 := hk.cell 0 rfl
  have ac : wa.cell? ⟨b, i, none⟩ = some (.string n) := (cells_of_block (hB.block b hb) i).1.trans hc
  clear hk hB hz hb hc
  go_enter Tryd.func86, Tryd.ntmps86
  go_wp2
  go_ret
  exact ⟨rfl, HB.out⟩
set_option maxRecDepth 4000 in
theorem tail_empty (b i : Nat) (n : ByteArray) (w : World) (hb : b < w.heap.size) (hc : w.cell? ⟨b, i, none⟩ = some (.string n)) :
    Calls Tryd.prog 90 #[.agg #[.pointer (some ⟨b, i, none⟩), fv 32, fv 33]] w fun e w' => e = .returned (.bool n.toList.isEmpty) ∧ Below w.heap.size w w' := by
  unfold fv
  obtain ⟨wa, hwa⟩ : ∃ x, w.alloc (.cells #[.pointer (some ⟨b, i, none⟩), .func (.func 32) #[] #[], .func (.func 33) #[] #[]] 92) = x := ⟨_, rfl⟩
  obtain ⟨hk, hB, hz⟩ := boxed w wa _ _ hwa
  have HB := hid hB
  have a0 := hk.cell 0 rfl
  have ac : wa.cell? ⟨b, i, none⟩ = some (.string n) := (cells_of_block (hB.block b hb) i).1.trans hc
  clear hk hB hz hb hc
  go_enter Tryd.func90, Tryd.ntmps90
  go_wp2
  go_ret
  exact ⟨rfl, HB.out⟩
theorem sign_empty (n : Int) (w : World) : Calls Tryd.prog 82 #[.agg #[.int .i64 n, fv 28, fv 29]] w fun e w' => e = .returned (.bool true) ∧ Below w.heap.size w w' := by
  unfold fv
  go_enter Tryd.func82, Tryd.ntmps82
  go_wp2
  go_ret
  exact ⟨rfl, by first | exact Below.refl _ _ | exact below_new _ _⟩
end Go.Proofs.YtfkggcinpklgmaaDoor
