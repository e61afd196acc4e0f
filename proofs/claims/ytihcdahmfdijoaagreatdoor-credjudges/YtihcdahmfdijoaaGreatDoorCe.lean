/- The numbers of a mark. -/
import Derived.Test.YtihcdahmfdijoaaGreatDoorCd
namespace Go.Proofs.YtihcdahmfdijoaaGreatDoor
open Go.RowKit
def from1 (m n : Int) : Bool := decide (1 ≤ n) && decide (n ≤ m)
theorem isFrom1To_any (m n : Int) (w : World) : Calls Tryz.prog 71 #[.int .i64 m, .int .i64 n] w fun e w' => e = .returned (.bool (from1 m n)) ∧ w' = w := by
  unfold from1
  by_cases h0 : 1 ≤ n
  · by_cases h1 : n ≤ m
    · rw [decide_eq_true h0, decide_eq_true h1]
      have h2 : decide (1 ≤ n) = true := decide_eq_true h0
      have h3 : decide (n ≤ m) = true := decide_eq_true h1
      go_enter Tryz.func71, Tryz.ntmps71
      go_wp2
      go_ret
      exact ⟨rfl, rfl⟩
    · rw [decide_eq_true h0, decide_eq_false h1]
      have h2 : decide (1 ≤ n) = true := decide_eq_true h0
      have h3 : decide (n ≤ m) = false := decide_eq_false h1
      go_enter Tryz.func71, Tryz.ntmps71
      go_wp2
      go_ret
      exact ⟨rfl, rfl⟩
  · rw [decide_eq_false h0]
    have h2 : decide (1 ≤ n) = false := decide_eq_false h0
    go_enter Tryz.func71, Tryz.ntmps71
    go_wp2
    go_ret
    exact ⟨rfl, rfl⟩
def numsB (i q u : Int) : Bool := from1 4611686018427387904 i && (from1 4294967295 q && from1 4294967295 u)
theorem numsB_iff (i q u : Int) : numsB i q u = true ↔ (1 ≤ i ∧ i ≤ 4611686018427387904) ∧ (1 ≤ q ∧ q ≤ 4294967295) ∧ (1 ≤ u ∧ u ≤ 4294967295) := by
  unfold numsB from1
  simp only [Bool.and_eq_true, decide_eq_true_eq]
set_option maxRecDepth 4000 in
theorem nums_core (b : Nat) (i q u : Int) (x y z : Bool) (w : World) (c5 : w.cell? ⟨b, 5, none⟩ = some (.int .i64 i)) (c6 : w.cell? ⟨b, 6, none⟩ = some (.int .i64 q)) (c7 : w.cell? ⟨b, 7, none⟩ = some (.int .i64 u))
    (H1 : Hid (Calls Tryz.prog 71 #[.int .i64 4611686018427387904, .int .i64 i] w fun e w' => e = .returned (.bool x) ∧ w' = w)) (H2 : Hid (Calls Tryz.prog 71 #[.int .i64 4294967295, .int .i64 q] w fun e w' => e = .returned (.bool y) ∧ w' = w))
    (H3 : Hid (Calls Tryz.prog 71 #[.int .i64 4294967295, .int .i64 u] w fun e w' => e = .returned (.bool z) ∧ w' = w)) :
    Calls Tryz.prog 48 #[.pointer (some ⟨b, 0, none⟩)] w fun e w' => e = .returned (.bool (x && (y && z))) ∧ w' = w := by
  cases x
  · go_enter Tryz.func48, Tryz.ntmps48
    go_wp2_with fail
    refine H1.out.mono ?_
    rintro e w1 ⟨rfl, hw⟩
    rw [hw]
    clear hw
    go_wp2
    go_ret
    exact ⟨rfl, rfl⟩
  · cases y
    · go_enter Tryz.func48, Tryz.ntmps48
      go_wp2_with fail
      refine H1.out.mono ?_
      rintro e w1 ⟨rfl, hw⟩
      rw [hw]
      clear hw
      go_wp2_with fail
      refine H2.out.mono ?_
      rintro e w1 ⟨rfl, hw⟩
      rw [hw]
      clear hw
      go_wp2
      go_ret
      exact ⟨rfl, rfl⟩
    · go_enter Tryz.func48, Tryz.ntmps48
      go_wp2_with fail
      refine H1.out.mono ?_
      rintro e w1 ⟨rfl, hw⟩
      rw [hw]
      clear hw
      go_wp2_with fail
      refine H2.out.mono ?_
      rintro e w1 ⟨rfl, hw⟩
      rw [hw]
      clear hw
      go_wp2_with fail
      refine H3.out.mono ?_
      rintro e w1 ⟨rfl, hw⟩
      rw [hw]
      clear hw
      go_wp2
      go_ret
      exact ⟨by cases z <;> rfl, rfl⟩
theorem nums_any (b : Nat) (i q u : Int) (w : World) (c5 : w.cell? ⟨b, 5, none⟩ = some (.int .i64 i)) (c6 : w.cell? ⟨b, 6, none⟩ = some (.int .i64 q)) (c7 : w.cell? ⟨b, 7, none⟩ = some (.int .i64 u)) :
    Calls Tryz.prog 48 #[.pointer (some ⟨b, 0, none⟩)] w fun e w' => e = .returned (.bool (numsB i q u)) ∧ w' = w :=
  nums_core b i q u _ _ _ w c5 c6 c7 (isFrom1To_any _ _ w) (isFrom1To_any _ _ w) (isFrom1To_any _ _ w)
end Go.Proofs.YtihcdahmfdijoaaGreatDoor
