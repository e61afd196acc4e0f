/- gets, kind by kind: whatever the Reader's call tells. -/
import Derived.Test.YtlkhgnjljdbhnabDoorSq1
namespace Go.Proofs.YtlkhgnjljdbhnabDoor
open Go.RowKit

set_option maxRecDepth 4000 in
theorem gets_none (p : Nat) (K N MM : Int) (o : Bool) (s : ByteArray) (a b : Nat) (w : World) (h1 : (K == 1) = false) (h2 : (K == 2) = false) (h3 : (K == 3) = false) (h4 : (K == 4) = false) (h5 : (K == 5) = false) (h6 : (K == 6) = false) (h7 : (K == 7) = false) (h8 : (K == 8) = false) (h9 : (K == 9) = false) :
    Calls Tryd.prog 13 #[.pointer (some ⟨p, 0, none⟩), opcV K N MM o s a b] w fun e w' => e = .returned (.bool true) ∧ Below w.heap.size w w' := by
  unfold opcV
  go_enter Tryd.func13, Tryd.ntmps13
  go_wp2
  go_ret
  exact ⟨rfl, (Below.refl _ _).alloc (Nat.le_refl _) _⟩
end Go.Proofs.YtlkhgnjljdbhnabDoor
