/- gets, kind by kind: whatever the Reader's call tells. -/
import Derived.Test.YtlkhgnjljdbhnabDoorSq1
namespace Go.Proofs.YtlkhgnjljdbhnabDoor
open Go.RowKit

set_option maxRecDepth 4000 in
set_option maxHeartbeats 8000000 in
theorem gets_3 {Q : World → Prop} (p : Nat) (N MM : Int) (o : Bool) (s : ByteArray) (a b : Nat) (w : World) (z : Int)
    (HR : Hid (∀ w1, Below (w.alloc (.cells #[.int .i64 3, .int .i64 N, .int .i64 MM, .bool o, .string s, .int .u32 a, .int .u64 b] 32)).heap.size (w.alloc (.cells #[.int .i64 3, .int .i64 N, .int .i64 MM, .bool o, .string s, .int .u32 a, .int .u64 b] 32)) w1 → Calls Tryd.prog 37 #[.pointer (some ⟨p, 0, none⟩)] w1 fun e w' => e = .returned (.int .i64 z) ∧ Q w'))
    (HC : Hid (∀ w1, Q w1 → ∀ j, w1.cell? ⟨w.heap.size, j, none⟩ = (w.alloc (.cells #[.int .i64 3, .int .i64 N, .int .i64 MM, .bool o, .string s, .int .u32 a, .int .u64 b] 32)).cell? ⟨w.heap.size, j, none⟩))
    (HQB : Hid (∀ a c, Q a → Below a.heap.size a c → Q c))
    :
    Calls Tryd.prog 13 #[.pointer (some ⟨p, 0, none⟩), opcV 3 N MM o s a b] w fun e w' => e = .returned (.bool (z == N)) ∧ Q w' := by
  have HD : Hid (∀ w1 k, Q w1 → Q (w1.drewN k)) := fun w1 k h => HQB.out _ _ h (below_drew (Below.refl _ _) k)
  unfold opcV
  go_enter Tryd.func13, Tryd.ntmps13
  go_wp2_with fail
  go_region_with (first
    | (go_at_call 37; refine (HR.out _ (below_dr (Below.refl _ _))).mono ?_; rintro e w2 ⟨rfl, hQ⟩; have hc1 : w2.cell? ⟨w.heap.size, 1, none⟩ = some (.int .i64 N) := (by (rw [HC.out w2 hQ 1]; simp)); have HQ : Hid (Q w2) := hQ; clear hQ)
    )
  all_goals (
    go_wp2
    go_ret
    exact ⟨rfl, by first | exact HQ.out | exact HD.out _ _ HQ.out | exact HD.out _ _ (HD.out _ _ HQ.out)⟩)
end Go.Proofs.YtlkhgnjljdbhnabDoor
