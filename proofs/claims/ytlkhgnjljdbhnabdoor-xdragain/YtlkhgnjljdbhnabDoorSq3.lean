/- gets, kind by kind: whatever the Reader's call tells. gets, kind by kind: whatever the Reader's call tells. gets, kind by kind: whatever the Reader's call tells. gets, kind by kind: whatever the Reader's call tells. gets, kind by kind: whatever the Reader's call tells. -/
import Derived.Test.YtlkhgnjljdbhnabDoorSq1
namespace Go.Proofs.YtlkhgnjljdbhnabDoor
open Go.RowKit

set_option maxRecDepth 4000 in
theorem gets_none (p : Nat) (K N MM : Int) (o : Bool) (s : ByteArray) (a b : Nat) (w : World) (h1 : (K == 1) = false) (h2 : (K == 2) = false) (h3 : (K == 3) = false) (h4 : (K == 4) = false) (h5 : (K == 5) = false) (h6 : (K == 6) = false) (h7 : (K == 7) = false) (h8 : (K == 8) = false) (h9 : (K == 9) = false) :
    Calls Tryd.prog 13 #[.pointer (some ⟨p, 0, none⟩), opcV K N MM o s a b] w fun e w' => e = .returned (.bool true) ∧ Below w.heap.size w w' := by
  unfold opcV
  go_enter Tryd.func13, Tryd.ntmps13
  go_wp2
  go_ret
  exact ⟨rfl, (Below.refl _ _).alloc (Nat.le_refl _) _⟩
end Go.Proofs.YtlkhgnjljdbhnabDoor
namespace Go.Proofs.YtlkhgnjljdbhnabDoor
open Go.RowKit

set_option maxRecDepth 4000 in
set_option maxHeartbeats 8000000 in
theorem gets_1 {Q : World → Prop} (p : Nat) (N MM : Int) (o : Bool) (s : ByteArray) (a b : Nat) (w : World) (y z : Int) (hy0 : 0 ≤ y) (hy1 : y < 4294967296)
    (H1 : Hid (∀ w, Calls Tryd.prog 26 #[.int .i64 N] w fun e w' => e = .returned (.int .i64 y) ∧ w' = w))
    (HR : Hid (∀ w1, Below (w.alloc (.cells #[.int .i64 1, .int .i64 N, .int .i64 MM, .bool o, .string s, .int .u32 a, .int .u64 b] 32)).heap.size (w.alloc (.cells #[.int .i64 1, .int .i64 N, .int .i64 MM, .bool o, .string s, .int .u32 a, .int .u64 b] 32)) w1 → Calls Tryd.prog 18 #[.pointer (some ⟨p, 0, none⟩)] w1 fun e w' => e = .returned (.int .i64 z) ∧ Q w'))
    (HC : Hid (∀ w1, Q w1 → ∀ j, w1.cell? ⟨w.heap.size, j, none⟩ = (w.alloc (.cells #[.int .i64 1, .int .i64 N, .int .i64 MM, .bool o, .string s, .int .u32 a, .int .u64 b] 32)).cell? ⟨w.heap.size, j, none⟩))
    (HQB : Hid (∀ a c, Q a → Below a.heap.size a c → Q c))
    :
    Calls Tryd.prog 13 #[.pointer (some ⟨p, 0, none⟩), opcV 1 N MM o s a b] w fun e w' => e = .returned (.bool (z == y - 2147483648)) ∧ Q w' := by
  have HD : Hid (∀ w1 k, Q w1 → Q (w1.drewN k)) := fun w1 k h => HQB.out _ _ h (below_drew (Below.refl _ _) k)
  have HWR : Hid (IntKind.i64.wrap (y - 2147483648) = y - 2147483648) := by show IntKind.i64.wrap (y - 2147483648) = y - 2147483648; rw [IntKind.wrap_i64]; omega
  unfold opcV
  go_enter Tryd.func13, Tryd.ntmps13
  go_wp2_with fail
  go_region_with (first
    | (go_at_call 18; refine (HR.out _ (below_dr (Below.refl _ _))).mono ?_; rintro e w2 ⟨rfl, hQ⟩; have hc1 : w2.cell? ⟨w.heap.size, 1, none⟩ = some (.int .i64 N) := (by (rw [HC.out w2 hQ 1]; simp)); have HQ : Hid (Q w2) := hQ; clear hQ)
    | (go_at_call 26; refine (H1.out _).mono ?_; rintro e w1 ⟨rfl, rfl⟩)
    )
  all_goals (
    go_wp2
    go_ret
    exact ⟨by (show Ending.returned (.bool (z == IntKind.i64.wrap (y - 2147483648))) = _; rw [HWR.out]), by first | exact HQ.out | exact HD.out _ _ HQ.out | exact HD.out _ _ (HD.out _ _ HQ.out)⟩)
end Go.Proofs.YtlkhgnjljdbhnabDoor
namespace Go.Proofs.YtlkhgnjljdbhnabDoor
open Go.RowKit

set_option maxRecDepth 4000 in
set_option maxHeartbeats 8000000 in
theorem gets_2 {Q : World → Prop} (p : Nat) (N MM : Int) (o : Bool) (s : ByteArray) (a b : Nat) (w : World) (y z : Int)
    (H1 : Hid (∀ w, Calls Tryd.prog 26 #[.int .i64 N] w fun e w' => e = .returned (.int .i64 y) ∧ w' = w))
    (HR : Hid (∀ w1, Below (w.alloc (.cells #[.int .i64 2, .int .i64 N, .int .i64 MM, .bool o, .string s, .int .u32 a, .int .u64 b] 32)).heap.size (w.alloc (.cells #[.int .i64 2, .int .i64 N, .int .i64 MM, .bool o, .string s, .int .u32 a, .int .u64 b] 32)) w1 → Calls Tryd.prog 24 #[.pointer (some ⟨p, 0, none⟩)] w1 fun e w' => e = .returned (.int .i64 z) ∧ Q w'))
    (HC : Hid (∀ w1, Q w1 → ∀ j, w1.cell? ⟨w.heap.size, j, none⟩ = (w.alloc (.cells #[.int .i64 2, .int .i64 N, .int .i64 MM, .bool o, .string s, .int .u32 a, .int .u64 b] 32)).cell? ⟨w.heap.size, j, none⟩))
    (HQB : Hid (∀ a c, Q a → Below a.heap.size a c → Q c))
    :
    Calls Tryd.prog 13 #[.pointer (some ⟨p, 0, none⟩), opcV 2 N MM o s a b] w fun e w' => e = .returned (.bool (z == y)) ∧ Q w' := by
  have HD : Hid (∀ w1 k, Q w1 → Q (w1.drewN k)) := fun w1 k h => HQB.out _ _ h (below_drew (Below.refl _ _) k)
  unfold opcV
  go_enter Tryd.func13, Tryd.ntmps13
  go_wp2_with fail
  go_region_with (first
    | (go_at_call 24; refine (HR.out _ (below_dr (Below.refl _ _))).mono ?_; rintro e w2 ⟨rfl, hQ⟩; have hc1 : w2.cell? ⟨w.heap.size, 1, none⟩ = some (.int .i64 N) := (by (rw [HC.out w2 hQ 1]; simp)); have HQ : Hid (Q w2) := hQ; clear hQ)
    | (go_at_call 26; refine (H1.out _).mono ?_; rintro e w1 ⟨rfl, rfl⟩)
    )
  all_goals (
    go_wp2
    go_ret
    exact ⟨rfl, by first | exact HQ.out | exact HD.out _ _ HQ.out | exact HD.out _ _ (HD.out _ _ HQ.out)⟩)
end Go.Proofs.YtlkhgnjljdbhnabDoor
namespace Go.Proofs.YtlkhgnjljdbhnabDoor
open Go.RowKit

set_option maxRecDepth 4000 in
set_option maxHeartbeats 8000000 in
theorem gets_3 {Q : World → Prop} (p : Nat) (N MM : Int) (o : Bool) (s : ByteArray) (a b : Nat) (w : World) (z : Int)
    (HR : Hid (∀ w1, Below (w.alloc (.cells #[.int .i64 3, .int .i64 N, .int .i64 MM, .bool o, .string s, .int .u32 a, .int .u64 b] 32)).heap.size (w.alloc (.cells #[.int .i64 3, .int .i64 N, .int .i64 MM, .bool o, .string s, .int .u32 a, .int .u64 b] 32)) w1 → Calls Tryd.prog 37 #[.pointer (some ⟨p, 0, none⟩)] w1 fun e w' => e = .returned (.int .i64 z) ∧ Q w'))
    (HC : Hid (∀ w1, Q w1 → ∀ j, w1.cell? ⟨w.heap.size, j, none⟩ = (w.alloc (.cells #[.int .i64 3, .int .i64 N, .int .i64 MM, .bool o, .string s, .int .u32 a, .int .u64 b] 32)).cell? ⟨w.heap.size, j, none⟩))
    (HQB : Hid (∀ a c, Q a → Below a.heap.size a c → Q c))
    :
    Calls Tryd.prog 13 #[.pointer (some ⟨p, 0, none⟩), opcV 3 N MM o s a b] w fun e w' => e = .returned (.bool (z == N)) ∧ Q w' := by
  have HD : Hid (∀ w1 k, Q w1 → Q (w1.drewN k)) := fun w1 k h => HQB.out _ _ h (below_drew (Below.refl _ _) k)
  unfold opcV
  go_enter Tryd.func13, Tryd.ntmps13
  go_wp2_with fail
  go_region_with (first
    | (go_at_call 37; refine (HR.out _ (below_dr (Below.refl _ _))).mono ?_; rintro e w2 ⟨rfl, hQ⟩; have hc1 : w2.cell? ⟨w.heap.size, 1, none⟩ = some (.int .i64 N) := (by (rw [HC.out w2 hQ 1]; simp)); have HQ : Hid (Q w2) := hQ; clear hQ)
    )
  all_goals (
    go_wp2
    go_ret
    exact ⟨rfl, by first | exact HQ.out | exact HD.out _ _ HQ.out | exact HD.out _ _ (HD.out _ _ HQ.out)⟩)
end Go.Proofs.YtlkhgnjljdbhnabDoor
namespace Go.Proofs.YtlkhgnjljdbhnabDoor
open Go.RowKit

set_option maxRecDepth 4000 in
set_option maxHeartbeats 8000000 in
theorem gets_4 {Q : World → Prop} (p : Nat) (N MM : Int) (o : Bool) (s : ByteArray) (a b : Nat) (w : World) (t z : Bool) (ht : (N.tmod 2 != 0) = t)
    (HR : Hid (∀ w1, Below (w.alloc (.cells #[.int .i64 4, .int .i64 N, .int .i64 MM, .bool o, .string s, .int .u32 a, .int .u64 b] 32)).heap.size (w.alloc (.cells #[.int .i64 4, .int .i64 N, .int .i64 MM, .bool o, .string s, .int .u32 a, .int .u64 b] 32)) w1 → Calls Tryd.prog 38 #[.pointer (some ⟨p, 0, none⟩)] w1 fun e w' => e = .returned (.bool z) ∧ Q w'))
    (HC : Hid (∀ w1, Q w1 → ∀ j, w1.cell? ⟨w.heap.size, j, none⟩ = (w.alloc (.cells #[.int .i64 4, .int .i64 N, .int .i64 MM, .bool o, .string s, .int .u32 a, .int .u64 b] 32)).cell? ⟨w.heap.size, j, none⟩))
    (HQB : Hid (∀ a c, Q a → Below a.heap.size a c → Q c))
    :
    Calls Tryd.prog 13 #[.pointer (some ⟨p, 0, none⟩), opcV 4 N MM o s a b] w fun e w' => e = .returned (.bool (z == t)) ∧ Q w' := by
  have HD : Hid (∀ w1 k, Q w1 → Q (w1.drewN k)) := fun w1 k h => HQB.out _ _ h (below_drew (Below.refl _ _) k)
  unfold opcV
  go_enter Tryd.func13, Tryd.ntmps13
  go_wp2_with fail
  go_region_with (first
    | (go_at_call 38; refine (HR.out _ (below_dr (Below.refl _ _))).mono ?_; rintro e w2 ⟨rfl, hQ⟩; have hc1 : w2.cell? ⟨w.heap.size, 1, none⟩ = some (.int .i64 N) := (by (rw [HC.out w2 hQ 1]; simp)); have HQ : Hid (Q w2) := hQ; clear hQ)
    )
  all_goals (
    go_wp2
    go_ret
    exact ⟨rfl, by first | exact HQ.out | exact HD.out _ _ HQ.out | exact HD.out _ _ (HD.out _ _ HQ.out)⟩)
end Go.Proofs.YtlkhgnjljdbhnabDoor
