/- The program's Writer: what lies in its blocks; what one laying does. -/
import Derived.Test.YthnnmgiihpdblaaDoorXk
import Derived.Test.YthnnmgiihpdblaaDoorXc
import Derived.Deep.RegionWith
namespace Go.Proofs.YthnnmgiihpdblaaDoor
open Go.RowKit Go.Lib

/-- A Writer of the program's: its block, the bytes that it owns, what was wrong first. -/
structure PW (w : World) (p : Nat) (v : Value) (M : Int) (xs : List Value) (E : Int) : Prop where
  m : w.cell? ⟨p, 0, none⟩ = some (.int .i64 M)
  s : w.cell? ⟨p, 1, none⟩ = some v
  e : w.cell? ⟨p, 2, none⟩ = some (trV E)
  f1 : w.frozen? ⟨p, 1, none⟩ = false
  f2 : w.frozen? ⟨p, 2, none⟩ = false
  own : w.ownsRow (p + 1) 5 1 v xs.length xs

theorem PW.lt {w : World} {p : Nat} {v : Value} {M E : Int} {xs : List Value} (h : PW w p v M xs E) : p < w.heap.size := by
  rcases Nat.lt_or_ge p w.heap.size with h1 | h1
  · exact h1
  · have := h.m
    simp [World.cell?, Array.getElem?_eq_none h1] at this

/-- The program's Fail: two calls in an order that is drawn. -/
theorem pfail_first (p : Nat) (v : Value) (M F : Int) (xs : List Value) (w : World) (h : PW w p v M xs 0) :
    Calls Tryd.prog 84 #[.pointer (some ⟨p, 0, none⟩), .int .i64 F] w fun e w' => e = .returned (.tuple #[]) ∧ ∃ k, w' = (w.drewN k).setCell ⟨p, 2, none⟩ (trV F) := by
  have h2 := h.e
  have h5 := h.f2
  have H1 : Hid (∀ w, Calls Tryd.prog 113 #[.int .i64 F] w fun r w' => r = .returned (trV F) ∧ w' = w) := fun w => faultOf_any F w
  have H2 : Hid (∀ k, Calls Tryd.prog 112 #[.pointer (some ⟨p, 2, none⟩), trV F] (w.drewN k) fun r w' => r = .returned (.tuple #[]) ∧ w' = (w.drewN k).setCell ⟨p, 2, none⟩ (trV F)) := fun k => note_first ⟨p, 2, none⟩ F (w.drewN k) h2 h5
  clear h h2 h5
  go_enter Tryd.func84, Tryd.ntmps84
  go_wp2_with fail
  go_region_with (first | (go_at_call 113; refine (H1.out _).mono ?_; rintro e w' ⟨rfl, rfl⟩) | (go_at_call 112; refine (H2.out 1).mono ?_; rintro e w' ⟨rfl, rfl⟩))
  go_wp2
  first | go_end0 | refine bodyPost_ret (results_none rfl _ _ _) rfl ?_
  exact ⟨rfl, 1, rfl⟩

theorem pfail_later (p : Nat) (v : Value) (M E F : Int) (xs : List Value) (w : World) (h : PW w p v M xs E) (hE : E ≠ 0) :
    Calls Tryd.prog 84 #[.pointer (some ⟨p, 0, none⟩), .int .i64 F] w fun e w' => e = .returned (.tuple #[]) ∧ ∃ k, w' = w.drewN k := by
  have h2 := h.e
  unfold trV at h2
  rw [if_neg hE] at h2
  have H1 : Hid (∀ w, Calls Tryd.prog 113 #[.int .i64 F] w fun r w' => r = .returned (trV F) ∧ w' = w) := fun w => faultOf_any F w
  have H2 : Hid (∀ k, Calls Tryd.prog 112 #[.pointer (some ⟨p, 2, none⟩), trV F] (w.drewN k) fun r w' => r = .returned (.tuple #[]) ∧ w' = w.drewN k) := fun k => note_later ⟨p, 2, none⟩ (trV F) _ (w.drewN k) h2
  clear h h2
  go_enter Tryd.func84, Tryd.ntmps84
  go_wp2_with fail
  go_region_with (first | (go_at_call 113; refine (H1.out _).mono ?_; rintro e w' ⟨rfl, rfl⟩) | (go_at_call 112; refine (H2.out 1).mono ?_; rintro e w' ⟨rfl, rfl⟩))
  go_wp2
  first | go_end0 | refine bodyPost_ret (results_none rfl _ _ _) rfl ?_
  exact ⟨rfl, 1, rfl⟩

end Go.Proofs.YthnnmgiihpdblaaDoor
