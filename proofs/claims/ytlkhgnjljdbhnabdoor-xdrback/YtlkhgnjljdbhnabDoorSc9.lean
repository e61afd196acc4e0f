/- gets: a kind whose call draws its order. -/
import Derived.Test.YtlkhgnjljdbhnabDoorSq1
import Derived.Deep.RegionHeld
namespace Go.Proofs.YtlkhgnjljdbhnabDoor
open Go.RowKit

set_option maxRecDepth 4000 in
set_option maxHeartbeats 8000000 in
theorem gets_9 {Q : World → Prop} (p : Nat) (N MM : Int) (o : Bool) (s : ByteArray) (a b : Nat) (w : World) (y z x : Int)
    (H1 : Hid (∀ w, Calls Tryd.prog 26 #[.int .i64 N] w fun e w' => e = .returned (.int .i64 y) ∧ w' = w))
    (H2 : Hid (∀ w, Calls Tryd.prog 33 #[.int .i64 MM, .int .i64 (IntKind.i64.wrap (y + 1))] w fun e w' => e = .returned (.int .i64 z) ∧ w' = w))
    (HR : Hid (∀ w1, Below (w.alloc (.cells #[.int .i64 9, .int .i64 N, .int .i64 MM, .bool o, .string s, .int .u32 a, .int .u64 b] 32)).heap.size (w.alloc (.cells #[.int .i64 9, .int .i64 N, .int .i64 MM, .bool o, .string s, .int .u32 a, .int .u64 b] 32)) w1 → Calls Tryd.prog 44 #[.pointer (some ⟨p, 0, none⟩), .int .i64 y] w1 fun e w' => e = .returned (.int .i64 x) ∧ Q w'))
    (HC : Hid (∀ w1, Q w1 → ∀ j, w1.cell? ⟨w.heap.size, j, none⟩ = (w.alloc (.cells #[.int .i64 9, .int .i64 N, .int .i64 MM, .bool o, .string s, .int .u32 a, .int .u64 b] 32)).cell? ⟨w.heap.size, j, none⟩)) :
    Calls Tryd.prog 13 #[.pointer (some ⟨p, 0, none⟩), opcV 9 N MM o s a b] w fun e w' => e = .returned (.bool (x == z)) ∧ Q w' := by
  unfold opcV
  go_enter Tryd.func13, Tryd.ntmps13
  go_wp2_with fail
  go_region_held (fun w' => w'.cell? ⟨w.heap.size, 1, none⟩ = some (.int .i64 N) ∧ w'.cell? ⟨w.heap.size, 2, none⟩ = some (.int .i64 MM)) (go_keep) (first
    | (go_at_call 26; refine (H1.out _).mono ?_; rintro e w1 ⟨rfl, rfl⟩)
    | (go_at_call 33; refine (H2.out _).mono ?_; rintro e w1 ⟨rfl, rfl⟩)
    | (go_at_call 44; refine (HR.out _ (below_dr (Below.refl _ _))).mono ?_; rintro e w2 ⟨rfl, hQ⟩; have hc1 : w2.cell? ⟨w.heap.size, 1, none⟩ = some (.int .i64 N) := (by (rw [HC.out w2 hQ 1]; simp)); have hc2 : w2.cell? ⟨w.heap.size, 2, none⟩ = some (.int .i64 MM) := (by (rw [HC.out w2 hQ 2]; simp)); have HQ : Hid (Q w2) := hQ; clear hQ))
  all_goals (
    go_wp2
    go_ret
    exact ⟨rfl, HQ.out⟩)
end Go.Proofs.YtlkhgnjljdbhnabDoor
