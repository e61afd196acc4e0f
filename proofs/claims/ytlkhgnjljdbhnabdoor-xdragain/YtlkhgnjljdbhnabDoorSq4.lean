/- gets, kind by kind: whatever the Reader's call tells. gets, kind by kind: whatever the Reader's call tells. gets, kind by kind: whatever the Reader's call tells. gets: a kind whose call draws its order. gets: a kind whose call draws its order. -/
import Derived.Test.YtlkhgnjljdbhnabDoorSq1
import Derived.Deep.RegionHeld
namespace Go.Proofs.YtlkhgnjljdbhnabDoor
open Go.RowKit

set_option maxRecDepth 4000 in
set_option maxHeartbeats 8000000 in
theorem gets_5 {Q : World → Prop} (p : Nat) (N MM : Int) (o : Bool) (s : ByteArray) (a b : Nat) (w : World) (z : Nat)
    (HR : Hid (∀ w1, Below (w.alloc (.cells #[.int .i64 5, .int .i64 N, .int .i64 MM, .bool o, .string s, .int .u32 a, .int .u64 b] 32)).heap.size (w.alloc (.cells #[.int .i64 5, .int .i64 N, .int .i64 MM, .bool o, .string s, .int .u32 a, .int .u64 b] 32)) w1 → Calls Tryd.prog 40 #[.pointer (some ⟨p, 0, none⟩)] w1 fun e w' => e = .returned (.float .f32 z) ∧ Q w'))
    (HC : Hid (∀ w1, Q w1 → ∀ j, w1.cell? ⟨w.heap.size, j, none⟩ = (w.alloc (.cells #[.int .i64 5, .int .i64 N, .int .i64 MM, .bool o, .string s, .int .u32 a, .int .u64 b] 32)).cell? ⟨w.heap.size, j, none⟩))
    (HQB : Hid (∀ a c, Q a → Below a.heap.size a c → Q c))
    (H1 : Hid (∀ w, Calls Tryd.prog 30 #[.int .u32 a] w (AsBits32 a w)))
    (H2 : Hid (∀ y, y < 4294967296 → c32 y = c32 a → ∀ w, Calls Tryd.prog 39 #[.float .f32 z, .float .f32 y] w fun e w' => e = .returned (.bool ((c32 z : Int) == (c32 a : Int))) ∧ w' = w))
    :
    Calls Tryd.prog 13 #[.pointer (some ⟨p, 0, none⟩), opcV 5 N MM o s a b] w fun e w' => e = .returned (.bool ((c32 z : Int) == (c32 a : Int))) ∧ Q w' := by
  have HD : Hid (∀ w1 k, Q w1 → Q (w1.drewN k)) := fun w1 k h => HQB.out _ _ h (below_drew (Below.refl _ _) k)
  unfold opcV
  go_enter Tryd.func13, Tryd.ntmps13
  go_wp2_with fail
  go_region_with (first
    | (go_at_call 40; refine (HR.out _ (below_dr (Below.refl _ _))).mono ?_; rintro e w2 ⟨rfl, hQ⟩; have hc5 : w2.cell? ⟨w.heap.size, 5, none⟩ = some (.int .u32 a) := (by (rw [HC.out w2 hQ 5]; simp)); have HQ : Hid (Q w2) := hQ; clear hQ)
    | (go_at_call 30; refine (H1.out _).mono ?_; rintro e w3 ⟨x, rfl, hx, hc, kk, rfl⟩; have HX : Hid (x < 4294967296 ∧ c32 x = c32 a) := ⟨hx, hc⟩; clear hx hc)
    | (go_at_call 39; refine (H2.out _ HX.out.1 HX.out.2 _).mono ?_; rintro e w4 ⟨rfl, rfl⟩)
    )
  all_goals (
    go_wp2
    go_ret
    exact ⟨rfl, by first | exact HQ.out | exact HD.out _ _ HQ.out | exact HD.out _ _ (HD.out _ _ HQ.out)⟩)
end Go.Proofs.YtlkhgnjljdbhnabDoor
namespace Go.Proofs.YtlkhgnjljdbhnabDoor
open Go.RowKit

set_option maxRecDepth 4000 in
set_option maxHeartbeats 8000000 in
theorem gets_6 {Q : World → Prop} (p : Nat) (N MM : Int) (o : Bool) (s : ByteArray) (a b : Nat) (w : World) (z : Nat)
    (HR : Hid (∀ w1, Below (w.alloc (.cells #[.int .i64 6, .int .i64 N, .int .i64 MM, .bool o, .string s, .int .u32 a, .int .u64 b] 32)).heap.size (w.alloc (.cells #[.int .i64 6, .int .i64 N, .int .i64 MM, .bool o, .string s, .int .u32 a, .int .u64 b] 32)) w1 → Calls Tryd.prog 42 #[.pointer (some ⟨p, 0, none⟩)] w1 fun e w' => e = .returned (.float .f64 z) ∧ Q w'))
    (HC : Hid (∀ w1, Q w1 → ∀ j, w1.cell? ⟨w.heap.size, j, none⟩ = (w.alloc (.cells #[.int .i64 6, .int .i64 N, .int .i64 MM, .bool o, .string s, .int .u32 a, .int .u64 b] 32)).cell? ⟨w.heap.size, j, none⟩))
    (HQB : Hid (∀ a c, Q a → Below a.heap.size a c → Q c))
    (H1 : Hid (∀ w, Calls Tryd.prog 32 #[.int .u64 b] w (AsBits64 b w)))
    (H2 : Hid (∀ y, y < 18446744073709551616 → c64 y = c64 b → ∀ w, Calls Tryd.prog 41 #[.float .f64 z, .float .f64 y] w fun e w' => e = .returned (.bool ((c64 z : Int) == (c64 b : Int))) ∧ w' = w))
    :
    Calls Tryd.prog 13 #[.pointer (some ⟨p, 0, none⟩), opcV 6 N MM o s a b] w fun e w' => e = .returned (.bool ((c64 z : Int) == (c64 b : Int))) ∧ Q w' := by
  have HD : Hid (∀ w1 k, Q w1 → Q (w1.drewN k)) := fun w1 k h => HQB.out _ _ h (below_drew (Below.refl _ _) k)
  unfold opcV
  go_enter Tryd.func13, Tryd.ntmps13
  go_wp2_with fail
  go_region_with (first
    | (go_at_call 42; refine (HR.out _ (below_dr (Below.refl _ _))).mono ?_; rintro e w2 ⟨rfl, hQ⟩; have hc6 : w2.cell? ⟨w.heap.size, 6, none⟩ = some (.int .u64 b) := (by (rw [HC.out w2 hQ 6]; simp)); have HQ : Hid (Q w2) := hQ; clear hQ)
    | (go_at_call 32; refine (H1.out _).mono ?_; rintro e w3 ⟨x, rfl, hx, hc, kk, rfl⟩; have HX : Hid (x < 18446744073709551616 ∧ c64 x = c64 b) := ⟨hx, hc⟩; clear hx hc)
    | (go_at_call 41; refine (H2.out _ HX.out.1 HX.out.2 _).mono ?_; rintro e w4 ⟨rfl, rfl⟩)
    )
  all_goals (
    go_wp2
    go_ret
    exact ⟨rfl, by first | exact HQ.out | exact HD.out _ _ HQ.out | exact HD.out _ _ (HD.out _ _ HQ.out)⟩)
end Go.Proofs.YtlkhgnjljdbhnabDoor
namespace Go.Proofs.YtlkhgnjljdbhnabDoor
open Go.RowKit

set_option maxRecDepth 4000 in
set_option maxHeartbeats 8000000 in
theorem gets_7 {Q : World → Prop} (p : Nat) (N MM : Int) (o : Bool) (s : ByteArray) (a b : Nat) (w : World) (t : ByteArray)
    (HR : Hid (∀ w1, Below (w.alloc (.cells #[.int .i64 7, .int .i64 N, .int .i64 MM, .bool o, .string s, .int .u32 a, .int .u64 b] 32)).heap.size (w.alloc (.cells #[.int .i64 7, .int .i64 N, .int .i64 MM, .bool o, .string s, .int .u32 a, .int .u64 b] 32)) w1 → Calls Tryd.prog 25 #[.pointer (some ⟨p, 0, none⟩), .int .i64 s.size] w1 fun e w' => e = .returned (.string t) ∧ Q w'))
    (HC : Hid (∀ w1, Q w1 → ∀ j, w1.cell? ⟨w.heap.size, j, none⟩ = (w.alloc (.cells #[.int .i64 7, .int .i64 N, .int .i64 MM, .bool o, .string s, .int .u32 a, .int .u64 b] 32)).cell? ⟨w.heap.size, j, none⟩))
    (HQB : Hid (∀ a c, Q a → Below a.heap.size a c → Q c))
    :
    Calls Tryd.prog 13 #[.pointer (some ⟨p, 0, none⟩), opcV 7 N MM o s a b] w fun e w' => e = .returned (.bool (t.toList == s.toList)) ∧ Q w' := by
  have HD : Hid (∀ w1 k, Q w1 → Q (w1.drewN k)) := fun w1 k h => HQB.out _ _ h (below_drew (Below.refl _ _) k)
  unfold opcV
  go_enter Tryd.func13, Tryd.ntmps13
  go_wp2_with fail
  go_region_with (first
    | (go_at_call 25; refine (HR.out _ (below_dr (Below.refl _ _))).mono ?_; rintro e w2 ⟨rfl, hQ⟩; have hc4 : w2.cell? ⟨w.heap.size, 4, none⟩ = some (.string s) := (by (rw [HC.out w2 hQ 4]; simp)); have HQ : Hid (Q w2) := hQ; clear hQ)
    )
  all_goals (
    go_wp2
    go_ret
    exact ⟨rfl, by first | exact HQ.out | exact HD.out _ _ HQ.out | exact HD.out _ _ (HD.out _ _ HQ.out)⟩)
end Go.Proofs.YtlkhgnjljdbhnabDoor
namespace Go.Proofs.YtlkhgnjljdbhnabDoor
open Go.RowKit

set_option maxRecDepth 4000 in
set_option maxHeartbeats 8000000 in
theorem gets_8 {Q : World → Prop} (p : Nat) (N MM : Int) (o : Bool) (s : ByteArray) (a b : Nat) (w : World) (t : ByteArray) (y : Int)
    (H1 : Hid (∀ w, Calls Tryd.prog 33 #[.int .i64 N, .int .i64 9] w fun e w' => e = .returned (.int .i64 y) ∧ w' = w))
    (HR : Hid (∀ w1, Below (w.alloc (.cells #[.int .i64 8, .int .i64 N, .int .i64 MM, .bool o, .string s, .int .u32 a, .int .u64 b] 32)).heap.size (w.alloc (.cells #[.int .i64 8, .int .i64 N, .int .i64 MM, .bool o, .string s, .int .u32 a, .int .u64 b] 32)) w1 → Calls Tryd.prog 43 #[.pointer (some ⟨p, 0, none⟩), .int .i64 (IntKind.i64.wrap ((s.size : Int) + y))] w1 fun e w' => e = .returned (.string t) ∧ Q w'))
    (HC : Hid (∀ w1, Q w1 → ∀ j, w1.cell? ⟨w.heap.size, j, none⟩ = (w.alloc (.cells #[.int .i64 8, .int .i64 N, .int .i64 MM, .bool o, .string s, .int .u32 a, .int .u64 b] 32)).cell? ⟨w.heap.size, j, none⟩)) :
    Calls Tryd.prog 13 #[.pointer (some ⟨p, 0, none⟩), opcV 8 N MM o s a b] w fun e w' => e = .returned (.bool (t.toList == s.toList)) ∧ Q w' := by
  unfold opcV
  go_enter Tryd.func13, Tryd.ntmps13
  go_wp2_with fail
  go_region_held (fun w' => w'.cell? ⟨w.heap.size, 1, none⟩ = some (.int .i64 N) ∧ w'.cell? ⟨w.heap.size, 4, none⟩ = some (.string s)) (go_keep) (first
    | (go_at_call 33; refine (H1.out _).mono ?_; rintro e w1 ⟨rfl, rfl⟩)
    | (go_at_call 43; refine (HR.out _ (below_dr (Below.refl _ _))).mono ?_; rintro e w2 ⟨rfl, hQ⟩; have hc1 : w2.cell? ⟨w.heap.size, 1, none⟩ = some (.int .i64 N) := (by (rw [HC.out w2 hQ 1]; simp)); have hc4 : w2.cell? ⟨w.heap.size, 4, none⟩ = some (.string s) := (by (rw [HC.out w2 hQ 4]; simp)); have HQ : Hid (Q w2) := hQ; clear hQ))
  all_goals (
    go_wp2
    go_ret
    exact ⟨rfl, HQ.out⟩)
end Go.Proofs.YtlkhgnjljdbhnabDoor
namespace Go.Proofs.YtlkhgnjljdbhnabDoor
open Go.RowKit

set_option maxRecDepth 4000 in
set_option maxHeartbeats 8000000 in
theorem gets_9 {Q : World → Prop} (p : Nat) (N MM : Int) (o : Bool) (s : ByteArray) (a b : Nat) (w : World) (y z x : Int)
    (H1 : Hid (∀ w, Calls Tryd.prog 26 #[.int .i64 N] w fun e w' => e = .returned (.int .i64 y) ∧ w' = w))
    (H2 : Hid (∀ w, Calls Tryd.prog 33 #[.int .i64 MM, .int .i64 (IntKind.i64.wrap (y + 1))] w fun e w' => e = .returned (.int .i64 z) ∧ w' = w))
    (HR : Hid (∀ w1, Below (w.alloc (.cells #[.int .i64 9, .int .i64 N, .int .i64 MM, .bool o, .string s, .int .u32 a, .int .u64 b] 32)).heap.size (w.alloc (.cells #[.int .i64 9, .int .i64 N, .int .i64 MM, .bool o, .string s, .int .u32 a, .int .u64 b] 32)) w1 → Calls Tryd.prog 44 #[.pointer (some ⟨p, 0, none⟩), .int .i64 y] w1 fun e w' => e = .returned (.int .i64 x) ∧ Q w'))
    (HC : Hid (∀ w1, Q w1 → ∀ j, w1.cell? ⟨w.heap.size, j, none⟩ = (w.alloc (.cells #[.int .i64 9, .int .i64 N, .int .i64 MM, .bool o, .string s, .int .u32 a, .int .u64 b] 32)).cell? ⟨w.heap.size, j, none⟩)) :
    Calls Tryd.prog 13 #[.pointer (some ⟨p, 0, none⟩), opcV 9 N MM o s a b] w fun e w' => e = .returned (.bool (x == z)) ∧ Q w' := by
  unfold opcV
  go_enter Tryd.func13, Tryd.ntmps13
  go_wp2_with fail
  go_region_held (fun w' => w'.cell? ⟨w.heap.size, 1, none⟩ = some (.int .i64 N) ∧ w'.cell? ⟨w.heap.size, 2, none⟩ = some (.int .i64 MM)) (go_keep) (first
    | (go_at_call 26; refine (H1.out _).mono ?_; rintro e w1 ⟨rfl, rfl⟩)
    | (go_at_call 33; refine (H2.out _).mono ?_; rintro e w1 ⟨rfl, rfl⟩)
    | (go_at_call 44; refine (HR.out _ (below_dr (Below.refl _ _))).mono ?_; rintro e w2 ⟨rfl, hQ⟩; have hc1 : w2.cell? ⟨w.heap.size, 1, none⟩ = some (.int .i64 N) := (by (rw [HC.out w2 hQ 1]; simp)); have hc2 : w2.cell? ⟨w.heap.size, 2, none⟩ = some (.int .i64 MM) := (by (rw [HC.out w2 hQ 2]; simp)); have HQ : Hid (Q w2) := hQ; clear hQ))
  all_goals (
    go_wp2
    go_ret
    exact ⟨rfl, HQ.out⟩)
end Go.Proofs.YtlkhgnjljdbhnabDoor
