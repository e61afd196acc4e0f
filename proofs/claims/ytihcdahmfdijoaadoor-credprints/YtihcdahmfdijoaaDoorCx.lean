/- How much a sys weighs. -/
import Derived.Test.YtihcdahmfdijoaaDoorCw
namespace Go.Proofs.YtihcdahmfdijoaaDoor
open Go.RowKit
set_option maxRecDepth 4000 in
theorem sysWeighs_any (st us gr : Int) (mc : List UInt8) (oa : Option Addr) (n cap : Nat) (w : World) :
    Calls Tryd.prog 6 #[.agg #[.int .i64 st, .string ⟨mc.toArray⟩, .int .i64 us, .int .i64 gr, .slice oa n cap]] w fun e w' => e = .returned (.int .i64 (addF mc.length n)) ∧ Below w.heap.size w w' := by
  have HA : Hid (∀ w, Calls Tryd.prog 5 #[.int .i64 (mc.length : Int), .int .i64 (n : Int)] w fun e w' => e = .returned (.int .i64 (addF mc.length n)) ∧ w' = w) := fun w => addsUp_any _ _ w (by omega) (by omega)
  generalize addF mc.length n = Y at HA ⊢
  go_enter Tryd.func6, Tryd.ntmps6
  go_wp2_with fail
  refine (HA.out _).mono ?_
  rintro e w1 ⟨rfl, hw⟩
  rw [hw]
  clear hw
  go_wp2
  go_ret
  exact ⟨rfl, below_new _ _⟩
end Go.Proofs.YtihcdahmfdijoaaDoor
