/- Bytes: letters, digits, what may stand in a run. -/
import Derived.Test.YthnnmgiihpdblabRows
import Derived.Test.YthnnmgiihpdblabLr
import Derived.WalkKit
import Derived.Below
namespace Go.Proofs.Ythnnmgiihpdblab
open Go.RowKit

theorem isLetter_any (c : Int) (w : World) : Calls Try.prog 23 #[.int .u8 c] w fun e w' => e = .returned (.bool (letterP c)) ∧ w' = w := by
  unfold letterP
  cases h0 : decide (97 ≤ c) <;> cases h1 : decide (c ≤ 122) <;> cases h2 : decide (65 ≤ c) <;> cases h3 : decide (c ≤ 90)
  all_goals (
    go_enter Try.func23, Try.ntmps23
    go_wp2
    go_ret
    exact ⟨rfl, rfl⟩)

theorem isDigit_any (c : Int) (w : World) : Calls Try.prog 38 #[.int .u8 c] w fun e w' => e = .returned (.bool (digitP c)) ∧ w' = w := by
  unfold digitP
  cases h0 : decide (48 ≤ c) <;> cases h1 : decide (c ≤ 57)
  all_goals (
    go_enter Try.func38, Try.ntmps38
    go_wp2
    go_ret
    exact ⟨rfl, rfl⟩)

theorem isRun_any (c : Int) (w : World) : Calls Try.prog 24 #[.int .u8 c] w fun e w' => e = .returned (.bool (runP c)) ∧ w' = w := by
  have H1 : Hid (∀ w, Calls Try.prog 23 #[.int .u8 c] w fun e w' => e = .returned (.bool (letterP c)) ∧ w' = w) := isLetter_any c
  have H2 : Hid (∀ w, Calls Try.prog 38 #[.int .u8 c] w fun e w' => e = .returned (.bool (digitP c)) ∧ w' = w) := isDigit_any c
  unfold runP
  generalize letterP c = l at *
  generalize digitP c = d at *
  cases l <;> cases d <;> cases h3 : c == 95
  all_goals (
    go_enter Try.func24, Try.ntmps24
    go_wp2_with (first | (go_at_call 23; refine (H1.out _).mono ?_; rintro e w' ⟨rfl, rfl⟩) | (go_at_call 38; refine (H2.out _).mono ?_; rintro e w' ⟨rfl, rfl⟩))
    go_ret
    exact ⟨rfl, rfl⟩)

theorem rletter_any (c : Int) (w : World) : Calls Try.prog 25 #[.int .u8 c] w fun e w' => e = .returned (.bool (letterP c)) ∧ w' = w := by
  unfold letterP
  cases h0 : decide (97 ≤ c) <;> cases h1 : decide (c ≤ 122) <;> cases h2 : decide (65 ≤ c) <;> cases h3 : decide (c ≤ 90)
  all_goals (
    go_enter Try.func25, Try.ntmps25
    go_wp2
    go_ret
    exact ⟨rfl, rfl⟩)

theorem rdigit_any (c : Int) (w : World) : Calls Try.prog 29 #[.int .u8 c] w fun e w' => e = .returned (.bool (digitP c)) ∧ w' = w := by
  unfold digitP
  cases h0 : decide (48 ≤ c) <;> cases h1 : decide (c ≤ 57)
  all_goals (
    go_enter Try.func29, Try.ntmps29
    go_wp2
    go_ret
    exact ⟨rfl, rfl⟩)

theorem within_any (c : Int) (w : World) : Calls Try.prog 37 #[.int .u8 c] w fun e w' => e = .returned (.bool (runP c)) ∧ w' = w := by
  have H1 : Hid (∀ w, Calls Try.prog 25 #[.int .u8 c] w fun e w' => e = .returned (.bool (letterP c)) ∧ w' = w) := rletter_any c
  have H2 : Hid (∀ w, Calls Try.prog 29 #[.int .u8 c] w fun e w' => e = .returned (.bool (digitP c)) ∧ w' = w) := rdigit_any c
  unfold runP
  generalize letterP c = l at *
  generalize digitP c = d at *
  cases l <;> cases d <;> cases h3 : c == 95
  all_goals (
    go_enter Try.func37, Try.ntmps37
    go_wp2_with (first | (go_at_call 25; refine (H1.out _).mono ?_; rintro e w' ⟨rfl, rfl⟩) | (go_at_call 29; refine (H2.out _).mono ?_; rintro e w' ⟨rfl, rfl⟩))
    go_ret
    exact ⟨rfl, rfl⟩)

end Go.Proofs.Ythnnmgiihpdblab
