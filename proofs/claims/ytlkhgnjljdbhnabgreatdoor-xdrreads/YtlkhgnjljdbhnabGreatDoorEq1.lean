/- reads, kind by kind: both Readers' calls tell the same. One call of both Readers: the same answer, and the same behind it. XdrReads: two Readers of any texts, every row of calls: the pairs behind some calls. -/
import Derived.Test.YtlkhgnjljdbhnabGreatDoorDq2
import Derived.Deep.RegionHeld
namespace Go.Proofs.YtlkhgnjljdbhnabGreatDoor
open Go.RowKit

set_option maxRecDepth 4000 in
set_option maxHeartbeats 4000000 in
theorem reads_1 {R Q : World → Prop} (r x : Nat) (N MM : Int) (o : Bool) (s : ByteArray) (a b : Nat) (z : Int) (w : World)
    (HR : Hid (∀ w1, Below (w.alloc (.cells #[.int .i64 1, .int .i64 N, .int .i64 MM, .bool o, .string s, .int .u32 a, .int .u64 b] 32)).heap.size (w.alloc (.cells #[.int .i64 1, .int .i64 N, .int .i64 MM, .bool o, .string s, .int .u32 a, .int .u64 b] 32)) w1 → Calls Tryz.prog 24 #[.pointer (some ⟨r, 0, none⟩)] w1 fun e w' => e = .returned (.int .i64 z) ∧ R w'))
    (HX : Hid (∀ w1, R w1 → Calls Tryz.prog 25 #[.pointer (some ⟨x, 0, none⟩)] w1 fun e w' => e = .returned (.int .i64 z) ∧ Q w')) :
    Calls Tryz.prog 8 #[.pointer (some ⟨r, 0, none⟩), .pointer (some ⟨x, 0, none⟩), opcV 1 N MM o s a b] w fun e w' => e = .returned (.bool true) ∧ Q w' := by
  have HA : Hid (Below (w.alloc (.cells #[.int .i64 1, .int .i64 N, .int .i64 MM, .bool o, .string s, .int .u32 a, .int .u64 b] 32)).heap.size (w.alloc (.cells #[.int .i64 1, .int .i64 N, .int .i64 MM, .bool o, .string s, .int .u32 a, .int .u64 b] 32)) (w.alloc (.cells #[.int .i64 1, .int .i64 N, .int .i64 MM, .bool o, .string s, .int .u32 a, .int .u64 b] 32))) := Below.refl _ _
  unfold opcV
  go_enter Tryz.func8, Tryz.ntmps8
  go_wp2_with fail
  refine (HR.out _ HA.out).mono ?_
  rintro e w1 ⟨rfl, hR⟩
  have HR1 : Hid (R w1) := hR
  clear hR
  go_wp2_with fail
  refine (HX.out _ HR1.out).mono ?_
  rintro e w2 ⟨rfl, hQ⟩
  have HQ : Hid (Q w2) := hQ
  clear hQ
  go_wp2
  go_ret
  refine ⟨?_, HQ.out⟩
  first | rfl | (show Ending.returned (.bool (_ == _)) = _; rw [beq_self_eq_true])

set_option maxRecDepth 4000 in
set_option maxHeartbeats 4000000 in
theorem reads_2 {R Q : World → Prop} (r x : Nat) (N MM : Int) (o : Bool) (s : ByteArray) (a b : Nat) (z : Int) (w : World)
    (HR : Hid (∀ w1, Below (w.alloc (.cells #[.int .i64 2, .int .i64 N, .int .i64 MM, .bool o, .string s, .int .u32 a, .int .u64 b] 32)).heap.size (w.alloc (.cells #[.int .i64 2, .int .i64 N, .int .i64 MM, .bool o, .string s, .int .u32 a, .int .u64 b] 32)) w1 → Calls Tryz.prog 21 #[.pointer (some ⟨r, 0, none⟩)] w1 fun e w' => e = .returned (.int .i64 z) ∧ R w'))
    (HX : Hid (∀ w1, R w1 → Calls Tryz.prog 26 #[.pointer (some ⟨x, 0, none⟩)] w1 fun e w' => e = .returned (.int .i64 z) ∧ Q w')) :
    Calls Tryz.prog 8 #[.pointer (some ⟨r, 0, none⟩), .pointer (some ⟨x, 0, none⟩), opcV 2 N MM o s a b] w fun e w' => e = .returned (.bool true) ∧ Q w' := by
  have HA : Hid (Below (w.alloc (.cells #[.int .i64 2, .int .i64 N, .int .i64 MM, .bool o, .string s, .int .u32 a, .int .u64 b] 32)).heap.size (w.alloc (.cells #[.int .i64 2, .int .i64 N, .int .i64 MM, .bool o, .string s, .int .u32 a, .int .u64 b] 32)) (w.alloc (.cells #[.int .i64 2, .int .i64 N, .int .i64 MM, .bool o, .string s, .int .u32 a, .int .u64 b] 32))) := Below.refl _ _
  unfold opcV
  go_enter Tryz.func8, Tryz.ntmps8
  go_wp2_with fail
  refine (HR.out _ HA.out).mono ?_
  rintro e w1 ⟨rfl, hR⟩
  have HR1 : Hid (R w1) := hR
  clear hR
  go_wp2_with fail
  refine (HX.out _ HR1.out).mono ?_
  rintro e w2 ⟨rfl, hQ⟩
  have HQ : Hid (Q w2) := hQ
  clear hQ
  go_wp2
  go_ret
  refine ⟨?_, HQ.out⟩
  first | rfl | (show Ending.returned (.bool (_ == _)) = _; rw [beq_self_eq_true])

set_option maxRecDepth 4000 in
set_option maxHeartbeats 4000000 in
theorem reads_3 {R Q : World → Prop} (r x : Nat) (N MM : Int) (o : Bool) (s : ByteArray) (a b : Nat) (z : Int) (w : World)
    (HR : Hid (∀ w1, Below (w.alloc (.cells #[.int .i64 3, .int .i64 N, .int .i64 MM, .bool o, .string s, .int .u32 a, .int .u64 b] 32)).heap.size (w.alloc (.cells #[.int .i64 3, .int .i64 N, .int .i64 MM, .bool o, .string s, .int .u32 a, .int .u64 b] 32)) w1 → Calls Tryz.prog 27 #[.pointer (some ⟨r, 0, none⟩)] w1 fun e w' => e = .returned (.int .i64 z) ∧ R w'))
    (HX : Hid (∀ w1, R w1 → Calls Tryz.prog 28 #[.pointer (some ⟨x, 0, none⟩)] w1 fun e w' => e = .returned (.int .i64 z) ∧ Q w')) :
    Calls Tryz.prog 8 #[.pointer (some ⟨r, 0, none⟩), .pointer (some ⟨x, 0, none⟩), opcV 3 N MM o s a b] w fun e w' => e = .returned (.bool true) ∧ Q w' := by
  have HA : Hid (Below (w.alloc (.cells #[.int .i64 3, .int .i64 N, .int .i64 MM, .bool o, .string s, .int .u32 a, .int .u64 b] 32)).heap.size (w.alloc (.cells #[.int .i64 3, .int .i64 N, .int .i64 MM, .bool o, .string s, .int .u32 a, .int .u64 b] 32)) (w.alloc (.cells #[.int .i64 3, .int .i64 N, .int .i64 MM, .bool o, .string s, .int .u32 a, .int .u64 b] 32))) := Below.refl _ _
  unfold opcV
  go_enter Tryz.func8, Tryz.ntmps8
  go_wp2_with fail
  refine (HR.out _ HA.out).mono ?_
  rintro e w1 ⟨rfl, hR⟩
  have HR1 : Hid (R w1) := hR
  clear hR
  go_wp2_with fail
  refine (HX.out _ HR1.out).mono ?_
  rintro e w2 ⟨rfl, hQ⟩
  have HQ : Hid (Q w2) := hQ
  clear hQ
  go_wp2
  go_ret
  refine ⟨?_, HQ.out⟩
  first | rfl | (show Ending.returned (.bool (_ == _)) = _; rw [beq_self_eq_true])

set_option maxRecDepth 4000 in
set_option maxHeartbeats 4000000 in
theorem reads_4 {R Q : World → Prop} (r x : Nat) (N MM : Int) (o : Bool) (s : ByteArray) (a b : Nat) (z : Bool) (w : World)
    (HR : Hid (∀ w1, Below (w.alloc (.cells #[.int .i64 4, .int .i64 N, .int .i64 MM, .bool o, .string s, .int .u32 a, .int .u64 b] 32)).heap.size (w.alloc (.cells #[.int .i64 4, .int .i64 N, .int .i64 MM, .bool o, .string s, .int .u32 a, .int .u64 b] 32)) w1 → Calls Tryz.prog 29 #[.pointer (some ⟨r, 0, none⟩)] w1 fun e w' => e = .returned (.bool z) ∧ R w'))
    (HX : Hid (∀ w1, R w1 → Calls Tryz.prog 30 #[.pointer (some ⟨x, 0, none⟩)] w1 fun e w' => e = .returned (.bool z) ∧ Q w')) :
    Calls Tryz.prog 8 #[.pointer (some ⟨r, 0, none⟩), .pointer (some ⟨x, 0, none⟩), opcV 4 N MM o s a b] w fun e w' => e = .returned (.bool true) ∧ Q w' := by
  have HA : Hid (Below (w.alloc (.cells #[.int .i64 4, .int .i64 N, .int .i64 MM, .bool o, .string s, .int .u32 a, .int .u64 b] 32)).heap.size (w.alloc (.cells #[.int .i64 4, .int .i64 N, .int .i64 MM, .bool o, .string s, .int .u32 a, .int .u64 b] 32)) (w.alloc (.cells #[.int .i64 4, .int .i64 N, .int .i64 MM, .bool o, .string s, .int .u32 a, .int .u64 b] 32))) := Below.refl _ _
  unfold opcV
  go_enter Tryz.func8, Tryz.ntmps8
  go_wp2_with fail
  refine (HR.out _ HA.out).mono ?_
  rintro e w1 ⟨rfl, hR⟩
  have HR1 : Hid (R w1) := hR
  clear hR
  go_wp2_with fail
  refine (HX.out _ HR1.out).mono ?_
  rintro e w2 ⟨rfl, hQ⟩
  have HQ : Hid (Q w2) := hQ
  clear hQ
  go_wp2
  go_ret
  refine ⟨?_, HQ.out⟩
  first | rfl | (show Ending.returned (.bool (_ == _)) = _; rw [beq_self_eq_true])

set_option maxRecDepth 4000 in
set_option maxHeartbeats 4000000 in
theorem reads_7 {R Q : World → Prop} (r x : Nat) (N MM : Int) (o : Bool) (s : ByteArray) (a b : Nat) (z : ByteArray) (w : World)
    (HR : Hid (∀ w1, Below (w.alloc (.cells #[.int .i64 7, .int .i64 N, .int .i64 MM, .bool o, .string s, .int .u32 a, .int .u64 b] 32)).heap.size (w.alloc (.cells #[.int .i64 7, .int .i64 N, .int .i64 MM, .bool o, .string s, .int .u32 a, .int .u64 b] 32)) w1 → Calls Tryz.prog 22 #[.pointer (some ⟨r, 0, none⟩), .int .i64 N] w1 fun e w' => e = .returned (.string z) ∧ R w'))
    (HC : Hid (∀ w1, R w1 → w1.cell? ⟨w.heap.size, 1, none⟩ = some (.int .i64 N)))
    (HX : Hid (∀ w1, R w1 → Calls Tryz.prog 37 #[.pointer (some ⟨x, 0, none⟩), .int .i64 N] w1 fun e w' => e = .returned (.string z) ∧ Q w')) :
    Calls Tryz.prog 8 #[.pointer (some ⟨r, 0, none⟩), .pointer (some ⟨x, 0, none⟩), opcV 7 N MM o s a b] w fun e w' => e = .returned (.bool true) ∧ Q w' := by
  have HA : Hid (Below (w.alloc (.cells #[.int .i64 7, .int .i64 N, .int .i64 MM, .bool o, .string s, .int .u32 a, .int .u64 b] 32)).heap.size (w.alloc (.cells #[.int .i64 7, .int .i64 N, .int .i64 MM, .bool o, .string s, .int .u32 a, .int .u64 b] 32)) (w.alloc (.cells #[.int .i64 7, .int .i64 N, .int .i64 MM, .bool o, .string s, .int .u32 a, .int .u64 b] 32))) := Below.refl _ _
  unfold opcV
  go_enter Tryz.func8, Tryz.ntmps8
  go_wp2_with fail
  refine (HR.out _ HA.out).mono ?_
  rintro e w1 ⟨rfl, hR⟩
  have hc1 := HC.out w1 hR
  have HR1 : Hid (R w1) := hR
  clear hR
  go_wp2_with fail
  refine (HX.out _ HR1.out).mono ?_
  rintro e w2 ⟨rfl, hQ⟩
  have HQ : Hid (Q w2) := hQ
  clear hQ
  go_wp2
  go_ret
  refine ⟨?_, HQ.out⟩
  first | rfl | (show Ending.returned (.bool (_ == _)) = _; rw [beq_self_eq_true])

set_option maxRecDepth 4000 in
set_option maxHeartbeats 4000000 in
theorem reads_8 {R Q : World → Prop} (r x : Nat) (N MM : Int) (o : Bool) (s : ByteArray) (a b : Nat) (z : ByteArray) (w : World)
    (HR : Hid (∀ w1, Below (w.alloc (.cells #[.int .i64 8, .int .i64 N, .int .i64 MM, .bool o, .string s, .int .u32 a, .int .u64 b] 32)).heap.size (w.alloc (.cells #[.int .i64 8, .int .i64 N, .int .i64 MM, .bool o, .string s, .int .u32 a, .int .u64 b] 32)) w1 → Calls Tryz.prog 38 #[.pointer (some ⟨r, 0, none⟩), .int .i64 N] w1 fun e w' => e = .returned (.string z) ∧ R w'))
    (HC : Hid (∀ w1, R w1 → w1.cell? ⟨w.heap.size, 1, none⟩ = some (.int .i64 N)))
    (HX : Hid (∀ w1, R w1 → Calls Tryz.prog 39 #[.pointer (some ⟨x, 0, none⟩), .int .i64 N] w1 fun e w' => e = .returned (.string z) ∧ Q w')) :
    Calls Tryz.prog 8 #[.pointer (some ⟨r, 0, none⟩), .pointer (some ⟨x, 0, none⟩), opcV 8 N MM o s a b] w fun e w' => e = .returned (.bool true) ∧ Q w' := by
  have HA : Hid (Below (w.alloc (.cells #[.int .i64 8, .int .i64 N, .int .i64 MM, .bool o, .string s, .int .u32 a, .int .u64 b] 32)).heap.size (w.alloc (.cells #[.int .i64 8, .int .i64 N, .int .i64 MM, .bool o, .string s, .int .u32 a, .int .u64 b] 32)) (w.alloc (.cells #[.int .i64 8, .int .i64 N, .int .i64 MM, .bool o, .string s, .int .u32 a, .int .u64 b] 32))) := Below.refl _ _
  unfold opcV
  go_enter Tryz.func8, Tryz.ntmps8
  go_wp2_with fail
  refine (HR.out _ HA.out).mono ?_
  rintro e w1 ⟨rfl, hR⟩
  have hc1 := HC.out w1 hR
  have HR1 : Hid (R w1) := hR
  clear hR
  go_wp2_with fail
  refine (HX.out _ HR1.out).mono ?_
  rintro e w2 ⟨rfl, hQ⟩
  have HQ : Hid (Q w2) := hQ
  clear hQ
  go_wp2
  go_ret
  refine ⟨?_, HQ.out⟩
  first | rfl | (show Ending.returned (.bool (_ == _)) = _; rw [beq_self_eq_true])

set_option maxRecDepth 4000 in
set_option maxHeartbeats 4000000 in
theorem reads_9 {R Q : World → Prop} (r x : Nat) (N MM : Int) (o : Bool) (s : ByteArray) (a b : Nat) (z : Int) (w : World)
    (HR : Hid (∀ w1, Below (w.alloc (.cells #[.int .i64 9, .int .i64 N, .int .i64 MM, .bool o, .string s, .int .u32 a, .int .u64 b] 32)).heap.size (w.alloc (.cells #[.int .i64 9, .int .i64 N, .int .i64 MM, .bool o, .string s, .int .u32 a, .int .u64 b] 32)) w1 → Calls Tryz.prog 40 #[.pointer (some ⟨r, 0, none⟩), .int .i64 N] w1 fun e w' => e = .returned (.int .i64 z) ∧ R w'))
    (HC : Hid (∀ w1, R w1 → w1.cell? ⟨w.heap.size, 1, none⟩ = some (.int .i64 N)))
    (HX : Hid (∀ w1, R w1 → Calls Tryz.prog 41 #[.pointer (some ⟨x, 0, none⟩), .int .i64 N] w1 fun e w' => e = .returned (.int .i64 z) ∧ Q w')) :
    Calls Tryz.prog 8 #[.pointer (some ⟨r, 0, none⟩), .pointer (some ⟨x, 0, none⟩), opcV 9 N MM o s a b] w fun e w' => e = .returned (.bool true) ∧ Q w' := by
  have HA : Hid (Below (w.alloc (.cells #[.int .i64 9, .int .i64 N, .int .i64 MM, .bool o, .string s, .int .u32 a, .int .u64 b] 32)).heap.size (w.alloc (.cells #[.int .i64 9, .int .i64 N, .int .i64 MM, .bool o, .string s, .int .u32 a, .int .u64 b] 32)) (w.alloc (.cells #[.int .i64 9, .int .i64 N, .int .i64 MM, .bool o, .string s, .int .u32 a, .int .u64 b] 32))) := Below.refl _ _
  unfold opcV
  go_enter Tryz.func8, Tryz.ntmps8
  go_wp2_with fail
  refine (HR.out _ HA.out).mono ?_
  rintro e w1 ⟨rfl, hR⟩
  have hc1 := HC.out w1 hR
  have HR1 : Hid (R w1) := hR
  clear hR
  go_wp2_with fail
  refine (HX.out _ HR1.out).mono ?_
  rintro e w2 ⟨rfl, hQ⟩
  have HQ : Hid (Q w2) := hQ
  clear hQ
  go_wp2
  go_ret
  refine ⟨?_, HQ.out⟩
  first | rfl | (show Ending.returned (.bool (_ == _)) = _; rw [beq_self_eq_true])

set_option maxRecDepth 4000 in
set_option maxHeartbeats 4000000 in
theorem reads_10 {R Q : World → Prop} (r x : Nat) (N MM : Int) (o : Bool) (s : ByteArray) (a b : Nat) (z : ByteArray) (w : World)
    (HR : Hid (∀ w1, Below (w.alloc (.cells #[.int .i64 10, .int .i64 N, .int .i64 MM, .bool o, .string s, .int .u32 a, .int .u64 b] 32)).heap.size (w.alloc (.cells #[.int .i64 10, .int .i64 N, .int .i64 MM, .bool o, .string s, .int .u32 a, .int .u64 b] 32)) w1 → Calls Tryz.prog 42 #[.pointer (some ⟨r, 0, none⟩)] w1 fun e w' => e = .returned (.string z) ∧ R w'))
    (HX : Hid (∀ w1, R w1 → Calls Tryz.prog 43 #[.pointer (some ⟨x, 0, none⟩)] w1 fun e w' => e = .returned (.string z) ∧ Q w')) :
    Calls Tryz.prog 8 #[.pointer (some ⟨r, 0, none⟩), .pointer (some ⟨x, 0, none⟩), opcV 10 N MM o s a b] w fun e w' => e = .returned (.bool true) ∧ Q w' := by
  have HA : Hid (Below (w.alloc (.cells #[.int .i64 10, .int .i64 N, .int .i64 MM, .bool o, .string s, .int .u32 a, .int .u64 b] 32)).heap.size (w.alloc (.cells #[.int .i64 10, .int .i64 N, .int .i64 MM, .bool o, .string s, .int .u32 a, .int .u64 b] 32)) (w.alloc (.cells #[.int .i64 10, .int .i64 N, .int .i64 MM, .bool o, .string s, .int .u32 a, .int .u64 b] 32))) := Below.refl _ _
  unfold opcV
  go_enter Tryz.func8, Tryz.ntmps8
  go_wp2_with fail
  refine (HR.out _ HA.out).mono ?_
  rintro e w1 ⟨rfl, hR⟩
  have HR1 : Hid (R w1) := hR
  clear hR
  go_wp2_with fail
  refine (HX.out _ HR1.out).mono ?_
  rintro e w2 ⟨rfl, hQ⟩
  have HQ : Hid (Q w2) := hQ
  clear hQ
  go_wp2
  go_ret
  refine ⟨?_, HQ.out⟩
  first | rfl | (show Ending.returned (.bool (_ == _)) = _; rw [beq_self_eq_true])

set_option maxRecDepth 4000 in
set_option maxHeartbeats 4000000 in
theorem reads_5 {R Q : World → Prop} (r x : Nat) (N MM : Int) (o : Bool) (s : ByteArray) (a b z : Nat) (G : Nat → Prop) (w : World)
    (HR : Hid (∀ w1, Below (w.alloc (.cells #[.int .i64 5, .int .i64 N, .int .i64 MM, .bool o, .string s, .int .u32 a, .int .u64 b] 32)).heap.size (w.alloc (.cells #[.int .i64 5, .int .i64 N, .int .i64 MM, .bool o, .string s, .int .u32 a, .int .u64 b] 32)) w1 → Calls Tryz.prog 31 #[.pointer (some ⟨r, 0, none⟩)] w1 fun e w' => e = .returned (.float .f32 z) ∧ R w'))
    (HX : Hid (∀ w1, R w1 → Calls Tryz.prog 33 #[.pointer (some ⟨x, 0, none⟩)] w1 fun e w' => ∃ y, e = .returned (.float .f32 y) ∧ G y ∧ Q w'))
    (HS : Hid (∀ y w, G y → Calls Tryz.prog 32 #[.float .f32 z, .float .f32 y] w fun e w' => e = .returned (.bool true) ∧ w' = w)) :
    Calls Tryz.prog 8 #[.pointer (some ⟨r, 0, none⟩), .pointer (some ⟨x, 0, none⟩), opcV 5 N MM o s a b] w fun e w' => e = .returned (.bool true) ∧ Q w' := by
  have HA : Hid (Below (w.alloc (.cells #[.int .i64 5, .int .i64 N, .int .i64 MM, .bool o, .string s, .int .u32 a, .int .u64 b] 32)).heap.size (w.alloc (.cells #[.int .i64 5, .int .i64 N, .int .i64 MM, .bool o, .string s, .int .u32 a, .int .u64 b] 32)) (w.alloc (.cells #[.int .i64 5, .int .i64 N, .int .i64 MM, .bool o, .string s, .int .u32 a, .int .u64 b] 32))) := Below.refl _ _
  unfold opcV
  go_enter Tryz.func8, Tryz.ntmps8
  go_wp2_with fail
  refine (HR.out _ HA.out).mono ?_
  rintro e w1 ⟨rfl, hR⟩
  have HR1 : Hid (R w1) := hR
  clear hR
  go_wp2_with fail
  refine (HX.out _ HR1.out).mono ?_
  rintro e w2 ⟨y, rfl, hG, hQ⟩
  have HQ : Hid (G y ∧ Q w2) := ⟨hG, hQ⟩
  clear hQ hG
  go_wp2_with fail
  refine (HS.out _ _ HQ.out.1).mono ?_
  rintro e w3 ⟨rfl, hw⟩
  have hw1 := hw.symm
  clear hw
  subst hw1
  go_wp2
  go_ret
  exact ⟨rfl, HQ.out.2⟩

set_option maxRecDepth 4000 in
set_option maxHeartbeats 4000000 in
theorem reads_6 {R Q : World → Prop} (r x : Nat) (N MM : Int) (o : Bool) (s : ByteArray) (a b z : Nat) (G : Nat → Prop) (w : World)
    (HR : Hid (∀ w1, Below (w.alloc (.cells #[.int .i64 6, .int .i64 N, .int .i64 MM, .bool o, .string s, .int .u32 a, .int .u64 b] 32)).heap.size (w.alloc (.cells #[.int .i64 6, .int .i64 N, .int .i64 MM, .bool o, .string s, .int .u32 a, .int .u64 b] 32)) w1 → Calls Tryz.prog 34 #[.pointer (some ⟨r, 0, none⟩)] w1 fun e w' => e = .returned (.float .f64 z) ∧ R w'))
    (HX : Hid (∀ w1, R w1 → Calls Tryz.prog 36 #[.pointer (some ⟨x, 0, none⟩)] w1 fun e w' => ∃ y, e = .returned (.float .f64 y) ∧ G y ∧ Q w'))
    (HS : Hid (∀ y w, G y → Calls Tryz.prog 35 #[.float .f64 z, .float .f64 y] w fun e w' => e = .returned (.bool true) ∧ w' = w)) :
    Calls Tryz.prog 8 #[.pointer (some ⟨r, 0, none⟩), .pointer (some ⟨x, 0, none⟩), opcV 6 N MM o s a b] w fun e w' => e = .returned (.bool true) ∧ Q w' := by
  have HA : Hid (Below (w.alloc (.cells #[.int .i64 6, .int .i64 N, .int .i64 MM, .bool o, .string s, .int .u32 a, .int .u64 b] 32)).heap.size (w.alloc (.cells #[.int .i64 6, .int .i64 N, .int .i64 MM, .bool o, .string s, .int .u32 a, .int .u64 b] 32)) (w.alloc (.cells #[.int .i64 6, .int .i64 N, .int .i64 MM, .bool o, .string s, .int .u32 a, .int .u64 b] 32))) := Below.refl _ _
  unfold opcV
  go_enter Tryz.func8, Tryz.ntmps8
  go_wp2_with fail
  refine (HR.out _ HA.out).mono ?_
  rintro e w1 ⟨rfl, hR⟩
  have HR1 : Hid (R w1) := hR
  clear hR
  go_wp2_with fail
  refine (HX.out _ HR1.out).mono ?_
  rintro e w2 ⟨y, rfl, hG, hQ⟩
  have HQ : Hid (G y ∧ Q w2) := ⟨hG, hQ⟩
  clear hQ hG
  go_wp2_with fail
  refine (HS.out _ _ HQ.out.1).mono ?_
  rintro e w3 ⟨rfl, hw⟩
  have hw1 := hw.symm
  clear hw
  subst hw1
  go_wp2
  go_ret
  exact ⟨rfl, HQ.out.2⟩

set_option maxRecDepth 4000 in
set_option maxHeartbeats 4000000 in
theorem reads_11 {R Q : World → Prop} (r x : Nat) (N MM : Int) (o : Bool) (s : ByteArray) (a b : Nat) (w : World)
    (HR : Hid (∀ w1, Below (w.alloc (.cells #[.int .i64 11, .int .i64 N, .int .i64 MM, .bool o, .string s, .int .u32 a, .int .u64 b] 32)).heap.size (w.alloc (.cells #[.int .i64 11, .int .i64 N, .int .i64 MM, .bool o, .string s, .int .u32 a, .int .u64 b] 32)) w1 → Calls Tryz.prog 44 #[.pointer (some ⟨r, 0, none⟩), .int .i64 N] w1 fun e w' => e = .returned (.tuple #[]) ∧ R w'))
    (HC : Hid (∀ w1, R w1 → w1.cell? ⟨w.heap.size, 1, none⟩ = some (.int .i64 N)))
    (HX : Hid (∀ w1, R w1 → Calls Tryz.prog 45 #[.pointer (some ⟨x, 0, none⟩), .int .i64 N] w1 fun e w' => e = .returned (.tuple #[]) ∧ Q w')) :
    Calls Tryz.prog 8 #[.pointer (some ⟨r, 0, none⟩), .pointer (some ⟨x, 0, none⟩), opcV 11 N MM o s a b] w fun e w' => e = .returned (.bool true) ∧ Q w' := by
  have HA : Hid (Below (w.alloc (.cells #[.int .i64 11, .int .i64 N, .int .i64 MM, .bool o, .string s, .int .u32 a, .int .u64 b] 32)).heap.size (w.alloc (.cells #[.int .i64 11, .int .i64 N, .int .i64 MM, .bool o, .string s, .int .u32 a, .int .u64 b] 32)) (w.alloc (.cells #[.int .i64 11, .int .i64 N, .int .i64 MM, .bool o, .string s, .int .u32 a, .int .u64 b] 32))) := Below.refl _ _
  unfold opcV
  go_enter Tryz.func8, Tryz.ntmps8
  go_wp2_with fail
  refine (HR.out _ HA.out).mono ?_
  rintro e w1 ⟨rfl, hR⟩
  have hc1 := HC.out w1 hR
  have HR1 : Hid (R w1) := hR
  clear hR
  go_wp2_with fail
  refine (HX.out _ HR1.out).mono ?_
  rintro e w2 ⟨rfl, hQ⟩
  have HQ : Hid (Q w2) := hQ
  clear hQ
  go_wp2
  go_ret
  exact ⟨rfl, HQ.out⟩

set_option maxRecDepth 4000 in
theorem reads_none (r x : Nat) (K N MM : Int) (o : Bool) (s : ByteArray) (a b : Nat) (w : World) (h1 : (K == 1) = false) (h2 : (K == 2) = false) (h3 : (K == 3) = false) (h4 : (K == 4) = false) (h5 : (K == 5) = false) (h6 : (K == 6) = false) (h7 : (K == 7) = false) (h8 : (K == 8) = false) (h9 : (K == 9) = false) (h10 : (K == 10) = false) (h11 : (K == 11) = false) :
    Calls Tryz.prog 8 #[.pointer (some ⟨r, 0, none⟩), .pointer (some ⟨x, 0, none⟩), opcV K N MM o s a b] w fun e w' => e = .returned (.bool true) ∧ Below w.heap.size w w' := by
  unfold opcV
  go_enter Tryz.func8, Tryz.ntmps8
  go_wp2
  go_ret
  exact ⟨rfl, (Below.refl _ _).alloc (Nat.le_refl _) _⟩
end Go.Proofs.YtlkhgnjljdbhnabGreatDoor
namespace Go.Proofs.YtlkhgnjljdbhnabGreatDoor
open Go.RowKit

theorem rfail_first_rd (p : Nat) (l : List UInt8) (F : Int) (w : World) (h : RR w p l 0) :
    Calls Tryz.prog 44 #[.pointer (some ⟨p, 0, none⟩), .int .i64 F] w fun e w' => e = .returned (.tuple #[]) ∧ ∃ k, w' = (w.drewN k).setCell ⟨p, 1, none⟩ (trW F) := by
  have h2 := h.e
  have h5 := h.f1
  have H1 : Hid (∀ w, Calls Tryz.prog 73 #[.int .i64 F] w fun r w' => r = .returned (trW F) ∧ w' = w) := fun w => faultOf_any_rd F w
  have H2 : Hid (∀ k, Calls Tryz.prog 72 #[.pointer (some ⟨p, 1, none⟩), trW F] (w.drewN k) fun r w' => r = .returned (.tuple #[]) ∧ w' = (w.drewN k).setCell ⟨p, 1, none⟩ (trW F)) := fun k => note_first_rd ⟨p, 1, none⟩ F (w.drewN k) h2 h5
  clear h h2 h5
  go_enter Tryz.func44, Tryz.ntmps44
  go_wp2_with fail
  go_region_with (first | (go_at_call 73; refine (H1.out _).mono ?_; rintro e w' ⟨rfl, rfl⟩) | (go_at_call 72; refine (H2.out 1).mono ?_; rintro e w' ⟨rfl, rfl⟩))
  go_wp2
  first | go_end0 | refine bodyPost_ret (results_none rfl _ _ _) rfl ?_
  exact ⟨rfl, 1, rfl⟩
theorem rfail_later_rd (p : Nat) (l : List UInt8) (E F : Int) (w : World) (h : RR w p l E) (hE : E ≠ 0) :
    Calls Tryz.prog 44 #[.pointer (some ⟨p, 0, none⟩), .int .i64 F] w fun e w' => e = .returned (.tuple #[]) ∧ ∃ k, w' = w.drewN k := by
  have h2 := h.e
  rw [trW_ne hE] at h2
  have H1 : Hid (∀ w, Calls Tryz.prog 73 #[.int .i64 F] w fun r w' => r = .returned (trW F) ∧ w' = w) := fun w => faultOf_any_rd F w
  have H2 : Hid (∀ k, Calls Tryz.prog 72 #[.pointer (some ⟨p, 1, none⟩), trW F] (w.drewN k) fun r w' => r = .returned (.tuple #[]) ∧ w' = w.drewN k) := fun k => note_later_rd ⟨p, 1, none⟩ (trW F) _ (w.drewN k) h2
  clear h h2
  go_enter Tryz.func44, Tryz.ntmps44
  go_wp2_with fail
  go_region_with (first | (go_at_call 73; refine (H1.out _).mono ?_; rintro e w' ⟨rfl, rfl⟩) | (go_at_call 72; refine (H2.out 1).mono ?_; rintro e w' ⟨rfl, rfl⟩))
  go_wp2
  first | go_end0 | refine bodyPost_ret (results_none rfl _ _ _) rfl ?_
  exact ⟨rfl, 1, rfl⟩
theorem rfail_rd (p : Nat) (l : List UInt8) (E F : Int) (w : World) (h : RR w p l E) : Calls Tryz.prog 44 #[.pointer (some ⟨p, 0, none⟩), .int .i64 F] w fun e w' => e = .returned (.tuple #[]) ∧ RR w' p l (if E = 0 then F else E) ∧ Sole p w w' := by
  by_cases hE : E = 0
  · subst hE
    refine (rfail_first_rd p l F w h).mono ?_
    rintro e w' ⟨rfl, k, rfl⟩
    exact ⟨rfl, (h.below (below_drew (Below.refl _ _) k)).setE F, (Sole.drewN p w k).trans (Sole.setCell _ 1 _)⟩
  · rw [if_neg hE]
    refine (rfail_later_rd p l E F w h hE).mono ?_
    rintro e w' ⟨rfl, k, rfl⟩
    exact ⟨rfl, h.below (below_drew (Below.refl _ _) k), Sole.drewN p w k⟩

/-- nothing but the two blocks changes -/
structure Duo (r x : Nat) (w w' : World) : Prop where
  os : w'.os = w.os
  tape : w'.tape = w.tape
  output : w'.output = w.output
  size : w.heap.size ≤ w'.heap.size
  block : ∀ b, b < w.heap.size → b ≠ r → b ≠ x → w'.heap[b]? = w.heap[b]?
theorem Duo.of {r x : Nat} {a b c : World} (h : Sole r a b) (k : Sole x b c) : Duo r x a c :=
  ⟨k.os.trans h.os, k.tape.trans h.tape, k.output.trans h.output, Nat.le_trans h.size k.size, fun i hi h1 h2 => (k.block i (Nat.lt_of_lt_of_le hi h.size) h2).trans (h.block i hi h1)⟩
theorem Duo.before {r x : Nat} {a b c : World} (h : Below a.heap.size a b) (k : Duo r x b c) : Duo r x a c :=
  ⟨k.os.trans h.os, k.tape.trans h.tape, k.output.trans h.output, Nat.le_trans h.size k.size, fun i hi h1 h2 => (k.block i (Nat.lt_of_lt_of_le hi h.size) h1 h2).trans (h.block i hi)⟩

/-- the program's Reader and the document's, alike -/
structure RX (w : World) (r x : Nat) (l : List UInt8) (E : Int) : Prop where
  rr : RR w r l E
  dr : DR w x l E
  ne : r ≠ x

theorem RX.below {w w' : World} {r x : Nat} {l : List UInt8} {E : Int} (h : RX w r x l E) (hB : Below w.heap.size w w') : RX w' r x l E := ⟨h.rr.below hB, h.dr.below hB, h.ne⟩
theorem RR.of_block {w w' : World} {p : Nat} {l : List UInt8} {E : Int} (h : RR w p l E) (hb : w'.heap[p]? = w.heap[p]?) : RR w' p l E :=
  ⟨(cells_same hb 0).1.trans h.l, (cells_same hb 1).1.trans h.e, (cells_same hb 0).2.trans h.f0, (cells_same hb 1).2.trans h.f1⟩
theorem DR.of_block {w w' : World} {p : Nat} {l : List UInt8} {E : Int} (h : DR w p l E) (hb : w'.heap[p]? = w.heap[p]?) : DR w' p l E :=
  ⟨(cells_same hb 0).1.trans h.l, (cells_same hb 1).1.trans h.e, (cells_same hb 0).2.trans h.f0, (cells_same hb 1).2.trans h.f1⟩

def ReadsPost (r x : Nat) (l : List UInt8) (w : World) (e : Ending) (w' : World) : Prop :=
  e = .returned (.bool true) ∧ ∃ l' E', RX w' r x l' E' ∧ Duo r x w w' ∧ l'.length ≤ l.length

/-- behind the program's call -/
structure RMid (r x : Nat) (l l' : List UInt8) (E E' : Int) (w w1 : World) : Prop where
  rr : RR w1 r l' E'
  dr : DR w1 x l E
  so : Sole r w w1

theorem rd_mid {α : Type} {r x : Nat} {l : List UInt8} {E : Int} {w w1 : World} (h : RX w r x l E) {d : α} {f : List UInt8 → Rd α} {v : α → Value} {fn : FuncId} {args : Array Value} (hB : Below w.heap.size w w1)
    (hc : Calls Tryz.prog fn args w1 (RPost r l E d f v w1)) : Calls Tryz.prog fn args w1 fun e w' => e = .returned (v ((⟨l, E⟩ : Rs).go d f).1) ∧ RMid r x l ((⟨l, E⟩ : Rs).go d f).2.l E ((⟨l, E⟩ : Rs).go d f).2.e w w' :=
  hc.mono fun _ _ hp => ⟨hp.1, hp.2.1, (h.dr.below hB).of_block (hp.2.2.block x (h.dr.below hB).lt (fun e => h.ne e.symm)), (Sole.of_below hB).trans hp.2.2⟩

theorem go_len {α : Type} (l : List UInt8) (E : Int) (d : α) (f : List UInt8 → Rd α) : ((⟨l, E⟩ : Rs).go d f).2.l.length ≤ l.length := by
  unfold Rs.go
  split
  · exact Nat.le_refl _
  · split
    · exact Nat.le_refl _
    · simp

theorem dx_end {α : Type} {r x : Nat} {l : List UInt8} {E : Int} {w w1 : World} (hne : r ≠ x) {d : α} {f : List UInt8 → Rd α} {v : α → Value} {fn : FuncId} {args : Array Value} (h1 : RMid r x l ((⟨l, E⟩ : Rs).go d f).2.l E ((⟨l, E⟩ : Rs).go d f).2.e w w1)
    (hc : Calls Tryz.prog fn args w1 (DPost x l E d f v w1)) : Calls Tryz.prog fn args w1 fun e w' => e = .returned (v ((⟨l, E⟩ : Rs).go d f).1) ∧ ∃ l' E', RX w' r x l' E' ∧ Duo r x w w' ∧ l'.length ≤ l.length :=
  hc.mono fun _ _ hp => ⟨hp.1, _, _, ⟨h1.rr.of_block (hp.2.2.block r h1.rr.lt hne), hp.2.1, hne⟩, Duo.of h1.so hp.2.2, go_len l E d f⟩

theorem reads_end {r x : Nat} {l : List UInt8} {w : World} {obj : Obj} {e : Ending} {w' : World} (h : e = .returned (.bool true) ∧ ∃ l' E', RX w' r x l' E' ∧ Duo r x (w.alloc obj) w' ∧ l'.length ≤ l.length) : ReadsPost r x l w e w' := by
  obtain ⟨he, l', E', h1, h2, h3⟩ := h
  exact ⟨he, l', E', h1, Duo.before ((Below.refl _ _).alloc (Nat.le_refl _) _) h2, h3⟩
theorem reads_hc {r x : Nat} {l l' : List UInt8} {E E' : Int} {w : World} {obj : Obj} {N : Int} (hr : r < w.heap.size) (hN : (w.alloc obj).cell? ⟨w.heap.size, 1, none⟩ = some (.int .i64 N)) : ∀ w1, RMid r x l l' E E' (w.alloc obj) w1 → w1.cell? ⟨w.heap.size, 1, none⟩ = some (.int .i64 N) := fun w1 h1 => by
  rw [(cells_same (h1.so.block w.heap.size (by simp) (by omega)) 1).1]
  exact hN
theorem RX.alloc {w : World} {r x : Nat} {l : List UInt8} {E : Int} (h : RX w r x l E) (o : Obj) : RX (w.alloc o) r x l E := h.below ((Below.refl _ _).alloc (Nat.le_refl _) _)

def ReadsAs (K N MM : Int) (o : Bool) (t : ByteArray) (a b : Nat) : Prop :=
  ∀ (w : World) (r x : Nat) (l : List UInt8) (E : Int), RX w r x l E → l.length ≤ 281474976710656 →
    Calls Tryz.prog 8 #[.pointer (some ⟨r, 0, none⟩), .pointer (some ⟨x, 0, none⟩), opcV K N MM o t a b] w (ReadsPost r x l w)

theorem rx_int (N MM : Int) (o : Bool) (t : ByteArray) (a b : Nat) : ReadsAs 1 N MM o t a b := by
  intro w r x l E h hl
  exact (reads_1 (R := RMid r x l ((⟨l, E⟩ : Rs).go 0 (rdWord)).2.l E ((⟨l, E⟩ : Rs).go 0 (rdWord)).2.e (w.alloc (.cells #[.int .i64 1, .int .i64 N, .int .i64 MM, .bool o, .string t, .int .u32 a, .int .u64 b] 32))) (Q := fun w' => ∃ l' E', RX w' r x l' E' ∧ Duo r x (w.alloc (.cells #[.int .i64 1, .int .i64 N, .int .i64 MM, .bool o, .string t, .int .u32 a, .int .u64 b] 32)) w' ∧ l'.length ≤ l.length) r x N MM o t a b (sgn32r ((⟨l, E⟩ : Rs).go 0 rdWord).1) w (fun w1 hB => rd_mid (d := 0) (f := rdWord) (v := fun n => .int .i64 (sgn32r n)) (h.alloc _) hB (rint_any r l E w1 ((h.alloc _).rr.below hB))) (fun w1 h1 => dx_end (d := 0) (f := rdWord) (v := fun n => .int .i64 (sgn32r n)) h.ne h1 (dint_any x l E w1 h1.dr))).mono fun _ _ hp => reads_end hp

theorem rx_uint (N MM : Int) (o : Bool) (t : ByteArray) (a b : Nat) : ReadsAs 2 N MM o t a b := by
  intro w r x l E h hl
  exact (reads_2 (R := RMid r x l ((⟨l, E⟩ : Rs).go 0 (rdWord)).2.l E ((⟨l, E⟩ : Rs).go 0 (rdWord)).2.e (w.alloc (.cells #[.int .i64 2, .int .i64 N, .int .i64 MM, .bool o, .string t, .int .u32 a, .int .u64 b] 32))) (Q := fun w' => ∃ l' E', RX w' r x l' E' ∧ Duo r x (w.alloc (.cells #[.int .i64 2, .int .i64 N, .int .i64 MM, .bool o, .string t, .int .u32 a, .int .u64 b] 32)) w' ∧ l'.length ≤ l.length) r x N MM o t a b (((⟨l, E⟩ : Rs).go 0 rdWord).1 : Nat) w (fun w1 hB => rd_mid (d := 0) (f := rdWord) (v := fun (n : Nat) => .int .i64 (n : Int)) (h.alloc _) hB (ruint_any r l E w1 ((h.alloc _).rr.below hB))) (fun w1 h1 => dx_end (d := 0) (f := rdWord) (v := fun (n : Nat) => .int .i64 (n : Int)) h.ne h1 (duint_any x l E w1 h1.dr))).mono fun _ _ hp => reads_end hp

theorem rx_hyper (N MM : Int) (o : Bool) (t : ByteArray) (a b : Nat) : ReadsAs 3 N MM o t a b := by
  intro w r x l E h hl
  exact (reads_3 (R := RMid r x l ((⟨l, E⟩ : Rs).go 0 (rdHyper)).2.l E ((⟨l, E⟩ : Rs).go 0 (rdHyper)).2.e (w.alloc (.cells #[.int .i64 3, .int .i64 N, .int .i64 MM, .bool o, .string t, .int .u32 a, .int .u64 b] 32))) (Q := fun w' => ∃ l' E', RX w' r x l' E' ∧ Duo r x (w.alloc (.cells #[.int .i64 3, .int .i64 N, .int .i64 MM, .bool o, .string t, .int .u32 a, .int .u64 b] 32)) w' ∧ l'.length ≤ l.length) r x N MM o t a b (sgn64r ((⟨l, E⟩ : Rs).go 0 rdHyper).1) w (fun w1 hB => rd_mid (d := 0) (f := rdHyper) (v := fun n => .int .i64 (sgn64r n)) (h.alloc _) hB (rhyper_any r l E w1 ((h.alloc _).rr.below hB))) (fun w1 h1 => dx_end (d := 0) (f := rdHyper) (v := fun n => .int .i64 (sgn64r n)) h.ne h1 (dhyper_any x l E w1 h1.dr))).mono fun _ _ hp => reads_end hp

theorem rx_bool (N MM : Int) (o : Bool) (t : ByteArray) (a b : Nat) : ReadsAs 4 N MM o t a b := by
  intro w r x l E h hl
  exact (reads_4 (R := RMid r x l ((⟨l, E⟩ : Rs).go false (rdBool)).2.l E ((⟨l, E⟩ : Rs).go false (rdBool)).2.e (w.alloc (.cells #[.int .i64 4, .int .i64 N, .int .i64 MM, .bool o, .string t, .int .u32 a, .int .u64 b] 32))) (Q := fun w' => ∃ l' E', RX w' r x l' E' ∧ Duo r x (w.alloc (.cells #[.int .i64 4, .int .i64 N, .int .i64 MM, .bool o, .string t, .int .u32 a, .int .u64 b] 32)) w' ∧ l'.length ≤ l.length) r x N MM o t a b ((⟨l, E⟩ : Rs).go false rdBool).1 w (fun w1 hB => rd_mid (d := false) (f := rdBool) (v := fun b => .bool b) (h.alloc _) hB (rbool_any r l E w1 ((h.alloc _).rr.below hB))) (fun w1 h1 => dx_end (d := false) (f := rdBool) (v := fun b => .bool b) h.ne h1 (dbool_any x l E w1 h1.dr))).mono fun _ _ hp => reads_end hp

theorem rx_fixed (N MM : Int) (o : Bool) (t : ByteArray) (a b : Nat) (h0 : -9223372036854775808 ≤ N) (hN1 : N ≤ 9223372036854775807) : ReadsAs 7 N MM o t a b := by
  intro w r x l E h hl
  exact (reads_7 (R := RMid r x l ((⟨l, E⟩ : Rs).go [] (rdFixed N)).2.l E ((⟨l, E⟩ : Rs).go [] (rdFixed N)).2.e (w.alloc (.cells #[.int .i64 7, .int .i64 N, .int .i64 MM, .bool o, .string t, .int .u32 a, .int .u64 b] 32))) (Q := fun w' => ∃ l' E', RX w' r x l' E' ∧ Duo r x (w.alloc (.cells #[.int .i64 7, .int .i64 N, .int .i64 MM, .bool o, .string t, .int .u32 a, .int .u64 b] 32)) w' ∧ l'.length ≤ l.length) r x N MM o t a b ⟨((⟨l, E⟩ : Rs).go [] (rdFixed N)).1.toArray⟩ w (fun w1 hB => rd_mid (d := []) (f := rdFixed N) (v := fun s => Bs s) (h.alloc _) hB (rfixed_any r N l E w1 ((h.alloc _).rr.below hB) h0 hN1)) (reads_hc h.rr.lt (by simp)) (fun w1 h1 => dx_end (d := []) (f := rdFixed N) (v := fun s => Bs s) h.ne h1 (dfixed_any x N l E w1 h1.dr))).mono fun _ _ hp => reads_end hp

theorem rx_opaque (N MM : Int) (o : Bool) (t : ByteArray) (a b : Nat) : ReadsAs 8 N MM o t a b := by
  intro w r x l E h hl
  exact (reads_8 (R := RMid r x l ((⟨l, E⟩ : Rs).go [] (rdOpaque N)).2.l E ((⟨l, E⟩ : Rs).go [] (rdOpaque N)).2.e (w.alloc (.cells #[.int .i64 8, .int .i64 N, .int .i64 MM, .bool o, .string t, .int .u32 a, .int .u64 b] 32))) (Q := fun w' => ∃ l' E', RX w' r x l' E' ∧ Duo r x (w.alloc (.cells #[.int .i64 8, .int .i64 N, .int .i64 MM, .bool o, .string t, .int .u32 a, .int .u64 b] 32)) w' ∧ l'.length ≤ l.length) r x N MM o t a b ⟨((⟨l, E⟩ : Rs).go [] (rdOpaque N)).1.toArray⟩ w (fun w1 hB => rd_mid (d := []) (f := rdOpaque N) (v := fun s => Bs s) (h.alloc _) hB (ropaque_any r N l E w1 ((h.alloc _).rr.below hB) hl)) (reads_hc h.rr.lt (by simp)) (fun w1 h1 => dx_end (d := []) (f := rdOpaque N) (v := fun s => Bs s) h.ne h1 (dopaque_any x N l E w1 h1.dr))).mono fun _ _ hp => reads_end hp

theorem rx_count (N MM : Int) (o : Bool) (t : ByteArray) (a b : Nat) : ReadsAs 9 N MM o t a b := by
  intro w r x l E h hl
  exact (reads_9 (R := RMid r x l ((⟨l, E⟩ : Rs).go 0 (rdCount N)).2.l E ((⟨l, E⟩ : Rs).go 0 (rdCount N)).2.e (w.alloc (.cells #[.int .i64 9, .int .i64 N, .int .i64 MM, .bool o, .string t, .int .u32 a, .int .u64 b] 32))) (Q := fun w' => ∃ l' E', RX w' r x l' E' ∧ Duo r x (w.alloc (.cells #[.int .i64 9, .int .i64 N, .int .i64 MM, .bool o, .string t, .int .u32 a, .int .u64 b] 32)) w' ∧ l'.length ≤ l.length) r x N MM o t a b (((⟨l, E⟩ : Rs).go 0 (rdCount N)).1 : Nat) w (fun w1 hB => rd_mid (d := 0) (f := rdCount N) (v := fun (n : Nat) => .int .i64 (n : Int)) (h.alloc _) hB (rcount_any r N l E w1 ((h.alloc _).rr.below hB))) (reads_hc h.rr.lt (by simp)) (fun w1 h1 => dx_end (d := 0) (f := rdCount N) (v := fun (n : Nat) => .int .i64 (n : Int)) h.ne h1 (dcount_any x N l E w1 h1.dr))).mono fun _ _ hp => reads_end hp

theorem rx_rest (N MM : Int) (o : Bool) (t : ByteArray) (a b : Nat) : ReadsAs 10 N MM o t a b := by
  intro w r x l E h hl
  exact (reads_10 (R := RMid r x l ((⟨l, E⟩ : Rs).go [] (rdRest)).2.l E ((⟨l, E⟩ : Rs).go [] (rdRest)).2.e (w.alloc (.cells #[.int .i64 10, .int .i64 N, .int .i64 MM, .bool o, .string t, .int .u32 a, .int .u64 b] 32))) (Q := fun w' => ∃ l' E', RX w' r x l' E' ∧ Duo r x (w.alloc (.cells #[.int .i64 10, .int .i64 N, .int .i64 MM, .bool o, .string t, .int .u32 a, .int .u64 b] 32)) w' ∧ l'.length ≤ l.length) r x N MM o t a b ⟨((⟨l, E⟩ : Rs).go [] rdRest).1.toArray⟩ w (fun w1 hB => rd_mid (d := []) (f := rdRest) (v := fun s => Bs s) (h.alloc _) hB (rrest_any r l E w1 ((h.alloc _).rr.below hB) hl)) (fun w1 h1 => dx_end (d := []) (f := rdRest) (v := fun s => Bs s) h.ne h1 (drest_any x l E w1 h1.dr))).mono fun _ _ hp => reads_end hp

theorem go_float_lt (l : List UInt8) (E : Int) : ((⟨l, E⟩ : Rs).go 0 rdFloat).1 < 4294967296 := by
  rw [go_case]
  split
  · show (rdFloat l).val < _
    unfold rdFloat
    split
    · show 0 < 4294967296; decide
    · split
      · decide
      · exact (rdWord_size l).2.2
  · show 0 < 4294967296; decide
theorem rx_float (N MM : Int) (o : Bool) (t : ByteArray) (a b : Nat) : ReadsAs 5 N MM o t a b := by
  intro w r x l E h hl
  refine (reads_5 (R := RMid r x l ((⟨l, E⟩ : Rs).go 0 rdFloat).2.l E ((⟨l, E⟩ : Rs).go 0 rdFloat).2.e (w.alloc (.cells #[.int .i64 5, .int .i64 N, .int .i64 MM, .bool o, .string t, .int .u32 a, .int .u64 b] 32))) (Q := fun w' => ∃ l' E', RX w' r x l' E' ∧ Duo r x (w.alloc (.cells #[.int .i64 5, .int .i64 N, .int .i64 MM, .bool o, .string t, .int .u32 a, .int .u64 b] 32)) w' ∧ l'.length ≤ l.length) r x N MM o t a b ((⟨l, E⟩ : Rs).go 0 rdFloat).1 (fun y => y < 4294967296 ∧ c32 y = c32 ((⟨l, E⟩ : Rs).go 0 rdFloat).1) w (fun w1 hB => rd_mid (d := 0) (f := rdFloat) (v := fun n => .float .f32 n) (h.alloc _) hB (rfloat_any r l E w1 ((h.alloc _).rr.below hB))) (fun w1 h1 => (dfloat_any x l E w1 h1.dr).mono ?_) (fun y w hy => ?_)).mono fun _ _ hp => reads_end hp
  · rintro e w' ⟨z, rfl, hz, hd, hs⟩
    exact ⟨z, rfl, hz, _, _, ⟨h1.rr.of_block (hs.block r h1.rr.lt h.ne), hd, h.ne⟩, Duo.of h1.so hs, go_len l E 0 rdFloat⟩
  · have := rsame32 ((⟨l, E⟩ : Rs).go 0 rdFloat).1 y w (go_float_lt l E) hy.1
    rwa [hy.2, beq_self_eq_true] at this

theorem go_double_lt (l : List UInt8) (E : Int) : ((⟨l, E⟩ : Rs).go 0 rdDouble).1 < 18446744073709551616 := by
  rw [go_case]
  split
  · show (rdDouble l).val < _
    unfold rdDouble
    split
    · show 0 < 18446744073709551616; decide
    · split
      · decide
      · exact (rdHyper_size l).2.2
  · show 0 < 18446744073709551616; decide
theorem rx_double (N MM : Int) (o : Bool) (t : ByteArray) (a b : Nat) : ReadsAs 6 N MM o t a b := by
  intro w r x l E h hl
  refine (reads_6 (R := RMid r x l ((⟨l, E⟩ : Rs).go 0 rdDouble).2.l E ((⟨l, E⟩ : Rs).go 0 rdDouble).2.e (w.alloc (.cells #[.int .i64 6, .int .i64 N, .int .i64 MM, .bool o, .string t, .int .u32 a, .int .u64 b] 32))) (Q := fun w' => ∃ l' E', RX w' r x l' E' ∧ Duo r x (w.alloc (.cells #[.int .i64 6, .int .i64 N, .int .i64 MM, .bool o, .string t, .int .u32 a, .int .u64 b] 32)) w' ∧ l'.length ≤ l.length) r x N MM o t a b ((⟨l, E⟩ : Rs).go 0 rdDouble).1 (fun y => y < 18446744073709551616 ∧ c64 y = c64 ((⟨l, E⟩ : Rs).go 0 rdDouble).1) w (fun w1 hB => rd_mid (d := 0) (f := rdDouble) (v := fun n => .float .f64 n) (h.alloc _) hB (rdouble_any r l E w1 ((h.alloc _).rr.below hB))) (fun w1 h1 => (ddouble_any x l E w1 h1.dr).mono ?_) (fun y w hy => ?_)).mono fun _ _ hp => reads_end hp
  · rintro e w' ⟨z, rfl, hz, hd, hs⟩
    exact ⟨z, rfl, hz, _, _, ⟨h1.rr.of_block (hs.block r h1.rr.lt h.ne), hd, h.ne⟩, Duo.of h1.so hs, go_len l E 0 rdDouble⟩
  · have := rsame64 ((⟨l, E⟩ : Rs).go 0 rdDouble).1 y w (go_double_lt l E) hy.1
    rwa [hy.2, beq_self_eq_true] at this

theorem rx_fail (N MM : Int) (o : Bool) (t : ByteArray) (a b : Nat) : ReadsAs 11 N MM o t a b := by
  intro w r x l E h hl
  refine (reads_11 (R := RMid r x l l E (if E = 0 then N else E) (w.alloc (.cells #[.int .i64 11, .int .i64 N, .int .i64 MM, .bool o, .string t, .int .u32 a, .int .u64 b] 32))) (Q := fun w' => ∃ l' E', RX w' r x l' E' ∧ Duo r x (w.alloc (.cells #[.int .i64 11, .int .i64 N, .int .i64 MM, .bool o, .string t, .int .u32 a, .int .u64 b] 32)) w' ∧ l'.length ≤ l.length) r x N MM o t a b w (fun w1 hB => ?_) (reads_hc h.rr.lt (by simp)) (fun w1 h1 => ?_)).mono fun _ _ hp => reads_end hp
  · exact (rfail_rd r l E N w1 ((h.alloc _).rr.below hB)).mono fun e w' hp => ⟨hp.1, hp.2.1, ((h.alloc _).dr.below hB).of_block (hp.2.2.block x ((h.alloc _).dr.below hB).lt (fun e => h.ne e.symm)), (Sole.of_below hB).trans hp.2.2⟩
  · exact (dfail_any x l E N w1 h1.dr).mono fun e w' hp => ⟨hp.1, _, _, ⟨h1.rr.of_block (hp.2.2.block r h1.rr.lt h.ne), hp.2.1, h.ne⟩, Duo.of h1.so hp.2.2, Nat.le_refl _⟩
theorem rx_none (K N MM : Int) (o : Bool) (t : ByteArray) (a b : Nat) (hK : ∀ j : Int, 1 ≤ j → j ≤ 11 → K ≠ j) : ReadsAs K N MM o t a b := by
  intro w r x l E h hl
  have hk : ∀ j : Int, 1 ≤ j → j ≤ 11 → (K == j) = false := fun j h0 h1 => beq_eq_false_iff_ne.2 (hK j h0 h1)
  refine (reads_none r x K N MM o t a b w (hk 1 (by decide) (by decide)) (hk 2 (by decide) (by decide)) (hk 3 (by decide) (by decide)) (hk 4 (by decide) (by decide)) (hk 5 (by decide) (by decide)) (hk 6 (by decide) (by decide)) (hk 7 (by decide) (by decide)) (hk 8 (by decide) (by decide)) (hk 9 (by decide) (by decide)) (hk 10 (by decide) (by decide)) (hk 11 (by decide) (by decide))).mono ?_
  rintro e w' ⟨rfl, hB⟩
  exact ⟨rfl, l, E, h.below hB, ⟨hB.os, hB.tape, hB.output, hB.size, fun i hi _ _ => hB.block i hi⟩, Nat.le_refl _⟩
theorem rx_any (K N MM : Int) (o : Bool) (t : ByteArray) (a b : Nat) (h0 : -9223372036854775808 ≤ N) (h1 : N ≤ 9223372036854775807) : ReadsAs K N MM o t a b := by
  by_cases k1 : K = 1
  · subst k1; exact rx_int N MM o t a b
  by_cases k2 : K = 2
  · subst k2; exact rx_uint N MM o t a b
  by_cases k3 : K = 3
  · subst k3; exact rx_hyper N MM o t a b
  by_cases k4 : K = 4
  · subst k4; exact rx_bool N MM o t a b
  by_cases k5 : K = 5
  · subst k5; exact rx_float N MM o t a b
  by_cases k6 : K = 6
  · subst k6; exact rx_double N MM o t a b
  by_cases k7 : K = 7
  · subst k7; exact rx_fixed N MM o t a b h0 h1
  by_cases k8 : K = 8
  · subst k8; exact rx_opaque N MM o t a b
  by_cases k9 : K = 9
  · subst k9; exact rx_count N MM o t a b
  by_cases k10 : K = 10
  · subst k10; exact rx_rest N MM o t a b
  by_cases k11 : K = 11
  · subst k11; exact rx_fail N MM o t a b
  exact rx_none K N MM o t a b (fun j h0 h1 => by omega)
end Go.Proofs.YtlkhgnjljdbhnabGreatDoor
namespace Go.Proofs.YtlkhgnjljdbhnabGreatDoor
open Go.RowKit

structure RYs (n0 : Nat) (w : World) (q r x y : Nat) (l : List UInt8) (E : Int) (l2 : List UInt8) (E2 : Int) (wr : World) : Prop where
  low : Below n0 w wr
  sz : n0 ≤ wr.heap.size
  a : RX wr q x l E
  b : RX wr r y l2 E2
  q0 : n0 ≤ q
  r0 : n0 ≤ r
  x0 : n0 ≤ x
  y0 : n0 ≤ y
  qr : q ≠ r
  qy : q ≠ y
  xr : x ≠ r
  xy : x ≠ y
  l1 : l.length ≤ 2147483647
  l2 : l2.length ≤ 2147483647

theorem RYs.below {n0 : Nat} {w : World} {q r x y : Nat} {l : List UInt8} {E : Int} {l2 : List UInt8} {E2 : Int} {wr wx : World} (h : RYs n0 w q r x y l E l2 E2 wr) (hB : Below wr.heap.size wr wx) : RYs n0 w q r x y l E l2 E2 wx :=
  ⟨h.low.trans (hB.mono h.sz), Nat.le_trans h.sz hB.size, h.a.below hB, h.b.below hB, h.q0, h.r0, h.x0, h.y0, h.qr, h.qy, h.xr, h.xy, h.l1, h.l2⟩
theorem RYs.swap {n0 : Nat} {w : World} {q r x y : Nat} {l : List UInt8} {E : Int} {l2 : List UInt8} {E2 : Int} {wr : World} (h : RYs n0 w q r x y l E l2 E2 wr) : RYs n0 w r q y x l2 E2 l E wr :=
  ⟨h.low, h.sz, h.b, h.a, h.r0, h.q0, h.y0, h.x0, fun e => h.qr e.symm, fun e => h.xr e.symm, fun e => h.qy e.symm, fun e => h.xy e.symm, h.l2, h.l1⟩
theorem RYs.step {n0 : Nat} {w : World} {q r x y : Nat} {l : List UInt8} {E : Int} {l2 : List UInt8} {E2 : Int} {wr : World} (h : RYs n0 w q r x y l E l2 E2 wr) {K N MM : Int} {o : Bool} {t : ByteArray} {a b : Nat} (hr : ReadsAs K N MM o t a b) :
    Calls Tryz.prog 8 #[.pointer (some ⟨q, 0, none⟩), .pointer (some ⟨x, 0, none⟩), opcV K N MM o t a b] wr fun e w' => e = .returned (.bool true) ∧ ∃ l' E', RYs n0 w q r x y l' E' l2 E2 w' := by
  refine (hr wr q x l E h.a (by have := h.l1; omega)).mono ?_
  rintro e w' ⟨rfl, l', E', hx, k, hl⟩
  have hsz := h.sz
  refine ⟨rfl, l', E', ⟨⟨k.os.trans h.low.os, k.tape.trans h.low.tape, k.output.trans h.low.output, Nat.le_trans h.low.size k.size, fun i hi => ?_⟩, Nat.le_trans hsz k.size, hx, ⟨h.b.rr.of_block (k.block r h.b.rr.lt (fun e => h.qr e.symm) (fun e => h.xr e.symm)), h.b.dr.of_block (k.block y h.b.dr.lt (fun e => h.qy e.symm) (fun e => h.xy e.symm)), h.b.ne⟩, h.q0, h.r0, h.x0, h.y0, h.qr, h.qy, h.xr, h.xy, Nat.le_trans hl h.l1, h.l2⟩⟩
  have h1 := h.q0
  have h2 := h.x0
  exact (k.block i (by omega) (by omega) (by omega)).trans (h.low.block i hi)

def RY (n0 : Nat) (w : World) (q r x y : Nat) (wr : World) : Prop := ∃ l E l2 E2, RYs n0 w q r x y l E l2 E2 wr

theorem RYs.left {n0 : Nat} {w : World} {q r x y : Nat} {l : List UInt8} {E : Int} {l2 : List UInt8} {E2 : Int} {wr : World} (h : RYs n0 w q r x y l E l2 E2 wr) : Calls Tryz.prog 9 #[.pointer (some ⟨q, 0, none⟩)] wr fun e w' => e = .returned (.int .i64 (l.length : Int)) ∧ RYs n0 w q r x y l E l2 E2 w' :=
  (rleft_any q _ wr h.a.rr.l).mono fun _ _ hp => ⟨by rw [hp.1, Bs_size], by rw [hp.2]; exact h⟩
theorem RYs.leftD {n0 : Nat} {w : World} {q r x y : Nat} {l : List UInt8} {E : Int} {l2 : List UInt8} {E2 : Int} {wr : World} (h : RYs n0 w q r x y l E l2 E2 wr) : Calls Tryz.prog 10 #[.pointer (some ⟨x, 0, none⟩)] wr fun e w' => e = .returned (.int .i64 (l.length : Int)) ∧ RYs n0 w q r x y l E l2 E2 w' :=
  (dleft_any x _ wr h.a.dr.l).mono fun _ _ hp => ⟨by rw [hp.1, Bs_size], by rw [hp.2]; exact h⟩
theorem RYs.wrong {w : World} {q r x y : Nat} {l : List UInt8} {E : Int} {l2 : List UInt8} {E2 : Int} {wr : World} (h : RYs w.heap.size w q r x y l E l2 E2 wr) (hE : ErrT w) : Calls Tryz.prog 11 #[.pointer (some ⟨q, 0, none⟩)] wr fun e w' => e = .returned (.int .i64 E) ∧ RYs w.heap.size w q r x y l E l2 E2 w' :=
  (rwrong_any q l E wr h.a.rr (hE.below h.low)).mono fun _ _ hp => ⟨hp.1, h.below hp.2⟩
theorem RYs.wrongD {n0 : Nat} {w : World} {q r x y : Nat} {l : List UInt8} {E : Int} {l2 : List UInt8} {E2 : Int} {wr : World} (h : RYs n0 w q r x y l E l2 E2 wr) : Calls Tryz.prog 12 #[.pointer (some ⟨x, 0, none⟩)] wr fun e w' => e = .returned (.int .i64 E) ∧ RYs n0 w q r x y l E l2 E2 w' :=
  (dwrong_any x E wr h.a.dr.e).mono fun _ _ hp => ⟨hp.1, by rw [hp.2]; exact h⟩
theorem RYs.done {w : World} {q r x y : Nat} {l : List UInt8} {E : Int} {l2 : List UInt8} {E2 : Int} {wr : World} (h : RYs w.heap.size w q r x y l E l2 E2 wr) (hE : ErrT w) : Calls Tryz.prog 13 #[.pointer (some ⟨q, 0, none⟩)] wr fun e w' => e = .returned (.int .i64 (rdDone l E)) ∧ RYs w.heap.size w q r x y l E l2 E2 w' :=
  (rdone_rd q l E wr h.a.rr (hE.below h.low)).mono fun _ _ hp => ⟨hp.1, h.below hp.2⟩
theorem RYs.doneD {n0 : Nat} {w : World} {q r x y : Nat} {l : List UInt8} {E : Int} {l2 : List UInt8} {E2 : Int} {wr : World} (h : RYs n0 w q r x y l E l2 E2 wr) : Calls Tryz.prog 14 #[.pointer (some ⟨x, 0, none⟩)] wr fun e w' => e = .returned (.int .i64 (rdDone l E)) ∧ RYs n0 w q r x y l E l2 E2 w' :=
  (ddone_any x l E wr h.a.dr).mono fun _ _ hp => ⟨hp.1, h.below hp.2⟩

theorem RYs.start {w w1 : World} (h : Below w.heap.size w w1) (s t : List UInt8) (hs : s.length ≤ 2147483647) (ht : t.length ≤ 2147483647) :
    RYs w.heap.size w w1.heap.size (w1.heap.size + 1) (w1.heap.size + 2) (w1.heap.size + 3) s 0 t 0
      ((((w1.alloc (.cells #[.string ⟨s.toArray⟩, .nilIface] 52)).alloc (.cells #[.string ⟨t.toArray⟩, .nilIface] 52)).alloc (.cells #[.string ⟨s.toArray⟩, .int .i64 0] 54)).alloc (.cells #[.string ⟨t.toArray⟩, .int .i64 0] 54)) := by
  have hsz := h.size
  generalize hA : w1.alloc (.cells #[.string ⟨s.toArray⟩, .nilIface] 52) = wa
  have sA : wa.heap.size = w1.heap.size + 1 := by rw [← hA]; simp
  have rA : RR wa w1.heap.size s 0 := by rw [← hA]; exact RR.new s w1
  have bA : Below w.heap.size w wa := by rw [← hA]; exact h.alloc hsz _
  generalize hB : wa.alloc (.cells #[.string ⟨t.toArray⟩, .nilIface] 52) = wb
  have sB : wb.heap.size = w1.heap.size + 2 := by rw [← hB]; simp [sA]
  have kB : Below wa.heap.size wa wb := by rw [← hB]; exact (Below.refl _ _).alloc (Nat.le_refl _) _
  have rB : RR wb (w1.heap.size + 1) t 0 := by rw [← hB, ← sA]; exact RR.new t wa
  generalize hC : wb.alloc (.cells #[.string ⟨s.toArray⟩, .int .i64 0] 54) = wc
  have sC : wc.heap.size = w1.heap.size + 3 := by rw [← hC]; simp [sB]
  have kC : Below wb.heap.size wb wc := by rw [← hC]; exact (Below.refl _ _).alloc (Nat.le_refl _) _
  have dC : DR wc (w1.heap.size + 2) s 0 := by rw [← hC, ← sB]; exact DR.new s wb
  have kD : Below wc.heap.size wc (wc.alloc (.cells #[.string ⟨t.toArray⟩, .int .i64 0] 54)) := (Below.refl _ _).alloc (Nat.le_refl _) _
  have dD : DR (wc.alloc (.cells #[.string ⟨t.toArray⟩, .int .i64 0] 54)) (w1.heap.size + 3) t 0 := by rw [← sC]; exact DR.new t wc
  have bB := bA.trans (kB.mono (by omega))
  have bC := bB.trans (kC.mono (by omega))
  have bD := bC.trans (kD.mono (by omega))
  exact ⟨bD, by simp; omega, ⟨((rA.below kB).below kC).below kD, dC.below kD, by omega⟩, ⟨(rB.below kC).below kD, dD, by omega⟩, by omega, by omega, by omega, by omega, by omega, by omega, by omega, by omega, hs, ht⟩
end Go.Proofs.YtlkhgnjljdbhnabGreatDoor
