/- Small functions; what is put off and finds nothing wrong. -/
import Derived.Test.YtedbjceeakmjgaaGreatDoorYf
import Derived.Recover
import Derived.BigRegion
import Derived.Deep.QuietTactic
import Derived.BigQuiet
import Derived.Deep.RegionLaw
import Derived.Carry
namespace Go.Proofs.YtedbjceeakmjgaaGreatDoor
open Go.RowKit
theorem hid {T : Prop} (h : T) : Hid T := h
abbrev ptr (b : Nat) : Value := .pointer (some ⟨b, 0, none⟩)
theorem below_box (w : World) (o : Obj) : Below w.heap.size w (w.alloc o) := (Below.refl _ _).alloc (Nat.le_refl _) _
theorem idle_any (w : World) : CallsD Tryz.prog 115 #[] .returning w fun e u' w' => e = .returned (.tuple #[]) ∧ u' = .returning ∧ w' = w := by
  refine callsD_of_wpS Tryz.func115 rfl fun c₀ cs hu => ?_
  refine wpS_region ?_
  have hc : ({ c₀ with mode := .returning } : Frame) = c₀ := by rw [← hu]
  simp_all [wpOpsS, go_sem, recoverD, Tryz.ntmps115, bodyPostS, results, Tryz.results115]
def inB (n l h : Int) : Bool := decide (l ≤ n) && decide (n ≤ h)
theorem within_any (w : World) (n l h : Int) : Calls Tryz.prog 86 #[.int .i64 n, .int .i64 l, .int .i64 h] w fun e w' => e = .returned (.bool (inB n l h)) ∧ w' = w := by
  unfold inB
  cases h1 : decide (l ≤ n) <;> cases h2 : decide (n ≤ h)
  all_goals (
    go_enter Tryz.func86, Tryz.ntmps86
    go_wp2
    go_ret
    exact ⟨rfl, rfl⟩)
theorem isAddr_any (w : World) (n : Int) : Calls Tryz.prog 17 #[.int .i64 n] w fun e w' => e = .returned (.bool (inB n 1 16777215)) ∧ w' = w := by
  unfold inB
  cases h1 : decide (1 ≤ n) <;> cases h2 : decide (n ≤ 16777215)
  all_goals (
    go_enter Tryz.func17, Tryz.ntmps17
    go_wp2
    go_ret
    exact ⟨rfl, rfl⟩)
def mayB (c e b r : Int) : Bool := inB c 1 64 && inB e 1 64 && inB r 64 1100 && inB b r 1048576
end Go.Proofs.YtedbjceeakmjgaaGreatDoor
