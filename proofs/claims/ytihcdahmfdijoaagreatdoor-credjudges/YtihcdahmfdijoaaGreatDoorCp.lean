/- Who is let in: small functions. -/
import Derived.Test.YtihcdahmfdijoaaGreatDoorCo
namespace Go.Proofs.YtihcdahmfdijoaaGreatDoor
open Go.RowKit
def bad (g : Bool) : Int := if g then 0 else 1
theorem badUnless_any (g : Bool) (w : World) : Calls Tryz.prog 54 #[.bool g] w fun e w' => e = .returned (.int .i64 (bad g)) ∧ w' = w := by
  cases g
  · go_enter Tryz.func54, Tryz.ntmps54
    go_wp2
    go_ret
    exact ⟨rfl, rfl⟩
  · go_enter Tryz.func54, Tryz.ntmps54
    go_wp2
    go_ret
    exact ⟨rfl, rfl⟩
def nob (f : Int) (s : ByteArray) : Bool := (f == 0) && (s.toList == [])
theorem isNobody_any (f : Int) (s : ByteArray) (w : World) : Calls Tryz.prog 32 #[.agg #[.int .i64 f, .string s]] w fun e w' => e = .returned (.bool (nob f s)) ∧ Below w.heap.size w w' := by
  unfold nob
  cases h0 : (f == 0)
  · have h1 : ¬ f = 0 := by simpa using h0
    go_enter Tryz.func32, Tryz.ntmps32
    go_wp2
    go_ret
    exact ⟨rfl, below_new _ _⟩
  · obtain rfl : f = 0 := by simpa using h0
    cases h1 : (s.toList == [])
    · go_enter Tryz.func32, Tryz.ntmps32
      go_wp2
      go_ret
      exact ⟨rfl, below_new _ _⟩
    · go_enter Tryz.func32, Tryz.ntmps32
      go_wp2
      go_ret
      exact ⟨rfl, below_new _ _⟩
end Go.Proofs.YtihcdahmfdijoaaGreatDoor
