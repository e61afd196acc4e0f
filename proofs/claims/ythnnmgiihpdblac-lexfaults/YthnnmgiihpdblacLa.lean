/- Bytes: letters, digits, what may stand in a run. -/
import Derived.Test.YthnnmgiihpdblacRows
import Derived.Test.YthnnmgiihpdblacLr
import Derived.WalkKit
import Derived.Below
namespace Go.Proofs.Ythnnmgiihpdblac
open Go.RowKit

theorem isLetter_any (c : Int) (w : World) : Calls Try.prog 12 #[.int .u8 c] w fun e w' => e = .returned (.bool (letterP c)) ∧ w' = w := by
  unfold letterP
  cases h0 : decide (97 ≤ c) <;> cases h1 : decide (c ≤ 122) <;> cases h2 : decide (65 ≤ c) <;> cases h3 : decide (c ≤ 90)
  all_goals (
    go_enter Try.func12, Try.ntmps12
    go_wp2
    go_ret
    exact ⟨rfl, rfl⟩)

theorem isDigit_any (c : Int) (w : World) : Calls Try.prog 19 #[.int .u8 c] w fun e w' => e = .returned (.bool (digitP c)) ∧ w' = w := by
  unfold digitP
  cases h0 : decide (48 ≤ c) <;> cases h1 : decide (c ≤ 57)
  all_goals (
    go_enter Try.func19, Try.ntmps19
    go_wp2
    go_ret
    exact ⟨rfl, rfl⟩)

theorem isRun_any (c : Int) (w : World) : Calls Try.prog 13 #[.int .u8 c] w fun e w' => e = .returned (.bool (runP c)) ∧ w' = w := by
  have H1 : Hid (∀ w, Calls Try.prog 12 #[.int .u8 c] w fun e w' => e = .returned (.bool (letterP c)) ∧ w' = w) := isLetter_any c
  have H2 : Hid (∀ w, Calls Try.prog 19 #[.int .u8 c] w fun e w' => e = .returned (.bool (digitP c)) ∧ w' = w) := isDigit_any c
  unfold runP
  generalize letterP c = l at *
  generalize digitP c = d at *
  cases l <;> cases d <;> cases h3 : c == 95
  all_goals (
    go_enter Try.func13, Try.ntmps13
    go_wp2_with (first | (go_at_call 12; refine (H1.out _).mono ?_; rintro e w' ⟨rfl, rfl⟩) | (go_at_call 19; refine (H2.out _).mono ?_; rintro e w' ⟨rfl, rfl⟩))
    go_ret
    exact ⟨rfl, rfl⟩)

end Go.Proofs.Ythnnmgiihpdblac
