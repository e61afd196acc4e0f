/- The second printer's digits of ten. -/
import Derived.Test.YtbbikogpfpghbaaDoorW27
namespace Go.Proofs.YtbbikogpfpghbaaDoor
open Go.RowKit

def sixt : ByteArray := ⟨#[48, 49, 50, 51, 52, 53, 54, 55, 56, 57, 97, 98, 99, 100, 101, 102]⟩

set_option maxHeartbeats 400000 in
theorem digits_one (n : Nat) (w : World) (h : n < 10) :
    Calls Tryd.prog 89 #[.int .i64 n] w fun e w' => e = .returned (.string (sixt.extract n (n + 1))) ∧ w' = w := by
  have h' : (n : Int) < 10 := by omega
  go_enter Tryd.func89, Tryd.ntmps89
  go_wp2_with fail
  go_ret
  exact ⟨rfl, rfl⟩

end Go.Proofs.YtbbikogpfpghbaaDoor
