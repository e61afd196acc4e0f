/- again, kind by kind: a Reader's call, and the Writer's of what it told. again, kind by kind: a Reader's call, and the Writer's of what it told. A Reader and a Writer of what it tells: what stays true of both. again, each kind: a Reader's call and the Writer's of what it told. XdrAgain: what is read is laid down as just the bytes that were taken: the walk's own notions. XdrAgain: the notions' laws. -/
import Derived.Test.YtlkhgnjljdbhnabDoorSq1
import Derived.Deep.RegionHeld
import Derived.Test.YtlkhgnjljdbhnabDoorSq2
import Derived.Test.YtlkhgnjljdbhnabDoorYq2
import Derived.Deep.AppendLies
namespace Go.Proofs.YtlkhgnjljdbhnabDoor
open Go.RowKit

set_option maxRecDepth 4000 in
set_option maxHeartbeats 8000000 in
theorem again_1 {R Q : World → Prop} (q p : Nat) (N MM : Int) (o : Bool) (s : ByteArray) (a b : Nat) (z : Int) (w : World)
    (HR : Hid (∀ w1, Below (w.alloc (.cells #[.int .i64 1, .int .i64 N, .int .i64 MM, .bool o, .string s, .int .u32 a, .int .u64 b] 32)).heap.size (w.alloc (.cells #[.int .i64 1, .int .i64 N, .int .i64 MM, .bool o, .string s, .int .u32 a, .int .u64 b] 32)) w1 → Calls Tryd.prog 18 #[.pointer (some ⟨q, 0, none⟩)] w1 fun e w' => e = .returned (.int .i64 z) ∧ R w'))
    (HW : Hid (∀ w1, R w1 → Calls Tryd.prog 20 #[.pointer (some ⟨p, 0, none⟩), .int .i64 z] w1 fun e w' => e = .returned (.tuple #[]) ∧ Q w')) :
    Calls Tryd.prog 15 #[.pointer (some ⟨q, 0, none⟩), .pointer (some ⟨p, 0, none⟩), opcV 1 N MM o s a b] w fun e w' => e = .returned (.tuple #[]) ∧ Q w' := by
  unfold opcV
  have HA : Hid (Below (w.alloc (.cells #[.int .i64 1, .int .i64 N, .int .i64 MM, .bool o, .string s, .int .u32 a, .int .u64 b] 32)).heap.size (w.alloc (.cells #[.int .i64 1, .int .i64 N, .int .i64 MM, .bool o, .string s, .int .u32 a, .int .u64 b] 32)) (w.alloc (.cells #[.int .i64 1, .int .i64 N, .int .i64 MM, .bool o, .string s, .int .u32 a, .int .u64 b] 32))) := Below.refl _ _
  go_enter Tryd.func15, Tryd.ntmps15
  go_wp2_with fail
  refine (HR.out _ HA.out).mono ?_
  rintro e w1 ⟨rfl, hR⟩
  have HR1 : Hid (R w1) := hR
  clear hR
  go_wp2_with fail
  refine (HW.out _ HR1.out).mono ?_
  rintro e w2 ⟨rfl, hQ⟩
  have HQ : Hid (Q w2) := hQ
  clear hQ
  go_wp2
  first | go_end0 | refine bodyPost_ret (results_none rfl _ _ _) rfl ?_
  exact ⟨rfl, HQ.out⟩

set_option maxRecDepth 4000 in
set_option maxHeartbeats 8000000 in
theorem again_2 {R Q : World → Prop} (q p : Nat) (N MM : Int) (o : Bool) (s : ByteArray) (a b : Nat) (z : Int) (w : World)
    (HR : Hid (∀ w1, Below (w.alloc (.cells #[.int .i64 2, .int .i64 N, .int .i64 MM, .bool o, .string s, .int .u32 a, .int .u64 b] 32)).heap.size (w.alloc (.cells #[.int .i64 2, .int .i64 N, .int .i64 MM, .bool o, .string s, .int .u32 a, .int .u64 b] 32)) w1 → Calls Tryd.prog 24 #[.pointer (some ⟨q, 0, none⟩)] w1 fun e w' => e = .returned (.int .i64 z) ∧ R w'))
    (HW : Hid (∀ w1, R w1 → Calls Tryd.prog 27 #[.pointer (some ⟨p, 0, none⟩), .int .i64 z] w1 fun e w' => e = .returned (.tuple #[]) ∧ Q w')) :
    Calls Tryd.prog 15 #[.pointer (some ⟨q, 0, none⟩), .pointer (some ⟨p, 0, none⟩), opcV 2 N MM o s a b] w fun e w' => e = .returned (.tuple #[]) ∧ Q w' := by
  unfold opcV
  have HA : Hid (Below (w.alloc (.cells #[.int .i64 2, .int .i64 N, .int .i64 MM, .bool o, .string s, .int .u32 a, .int .u64 b] 32)).heap.size (w.alloc (.cells #[.int .i64 2, .int .i64 N, .int .i64 MM, .bool o, .string s, .int .u32 a, .int .u64 b] 32)) (w.alloc (.cells #[.int .i64 2, .int .i64 N, .int .i64 MM, .bool o, .string s, .int .u32 a, .int .u64 b] 32))) := Below.refl _ _
  go_enter Tryd.func15, Tryd.ntmps15
  go_wp2_with fail
  refine (HR.out _ HA.out).mono ?_
  rintro e w1 ⟨rfl, hR⟩
  have HR1 : Hid (R w1) := hR
  clear hR
  go_wp2_with fail
  refine (HW.out _ HR1.out).mono ?_
  rintro e w2 ⟨rfl, hQ⟩
  have HQ : Hid (Q w2) := hQ
  clear hQ
  go_wp2
  first | go_end0 | refine bodyPost_ret (results_none rfl _ _ _) rfl ?_
  exact ⟨rfl, HQ.out⟩

set_option maxRecDepth 4000 in
set_option maxHeartbeats 8000000 in
theorem again_3 {R Q : World → Prop} (q p : Nat) (N MM : Int) (o : Bool) (s : ByteArray) (a b : Nat) (z : Int) (w : World)
    (HR : Hid (∀ w1, Below (w.alloc (.cells #[.int .i64 3, .int .i64 N, .int .i64 MM, .bool o, .string s, .int .u32 a, .int .u64 b] 32)).heap.size (w.alloc (.cells #[.int .i64 3, .int .i64 N, .int .i64 MM, .bool o, .string s, .int .u32 a, .int .u64 b] 32)) w1 → Calls Tryd.prog 37 #[.pointer (some ⟨q, 0, none⟩)] w1 fun e w' => e = .returned (.int .i64 z) ∧ R w'))
    (HW : Hid (∀ w1, R w1 → Calls Tryd.prog 28 #[.pointer (some ⟨p, 0, none⟩), .int .i64 z] w1 fun e w' => e = .returned (.tuple #[]) ∧ Q w')) :
    Calls Tryd.prog 15 #[.pointer (some ⟨q, 0, none⟩), .pointer (some ⟨p, 0, none⟩), opcV 3 N MM o s a b] w fun e w' => e = .returned (.tuple #[]) ∧ Q w' := by
  unfold opcV
  have HA : Hid (Below (w.alloc (.cells #[.int .i64 3, .int .i64 N, .int .i64 MM, .bool o, .string s, .int .u32 a, .int .u64 b] 32)).heap.size (w.alloc (.cells #[.int .i64 3, .int .i64 N, .int .i64 MM, .bool o, .string s, .int .u32 a, .int .u64 b] 32)) (w.alloc (.cells #[.int .i64 3, .int .i64 N, .int .i64 MM, .bool o, .string s, .int .u32 a, .int .u64 b] 32))) := Below.refl _ _
  go_enter Tryd.func15, Tryd.ntmps15
  go_wp2_with fail
  refine (HR.out _ HA.out).mono ?_
  rintro e w1 ⟨rfl, hR⟩
  have HR1 : Hid (R w1) := hR
  clear hR
  go_wp2_with fail
  refine (HW.out _ HR1.out).mono ?_
  rintro e w2 ⟨rfl, hQ⟩
  have HQ : Hid (Q w2) := hQ
  clear hQ
  go_wp2
  first | go_end0 | refine bodyPost_ret (results_none rfl _ _ _) rfl ?_
  exact ⟨rfl, HQ.out⟩

set_option maxRecDepth 4000 in
set_option maxHeartbeats 8000000 in
theorem again_4 {R Q : World → Prop} (q p : Nat) (N MM : Int) (o : Bool) (s : ByteArray) (a b : Nat) (z : Bool) (w : World)
    (HR : Hid (∀ w1, Below (w.alloc (.cells #[.int .i64 4, .int .i64 N, .int .i64 MM, .bool o, .string s, .int .u32 a, .int .u64 b] 32)).heap.size (w.alloc (.cells #[.int .i64 4, .int .i64 N, .int .i64 MM, .bool o, .string s, .int .u32 a, .int .u64 b] 32)) w1 → Calls Tryd.prog 38 #[.pointer (some ⟨q, 0, none⟩)] w1 fun e w' => e = .returned (.bool z) ∧ R w'))
    (HW : Hid (∀ w1, R w1 → Calls Tryd.prog 29 #[.pointer (some ⟨p, 0, none⟩), .bool z] w1 fun e w' => e = .returned (.tuple #[]) ∧ Q w')) :
    Calls Tryd.prog 15 #[.pointer (some ⟨q, 0, none⟩), .pointer (some ⟨p, 0, none⟩), opcV 4 N MM o s a b] w fun e w' => e = .returned (.tuple #[]) ∧ Q w' := by
  unfold opcV
  have HA : Hid (Below (w.alloc (.cells #[.int .i64 4, .int .i64 N, .int .i64 MM, .bool o, .string s, .int .u32 a, .int .u64 b] 32)).heap.size (w.alloc (.cells #[.int .i64 4, .int .i64 N, .int .i64 MM, .bool o, .string s, .int .u32 a, .int .u64 b] 32)) (w.alloc (.cells #[.int .i64 4, .int .i64 N, .int .i64 MM, .bool o, .string s, .int .u32 a, .int .u64 b] 32))) := Below.refl _ _
  go_enter Tryd.func15, Tryd.ntmps15
  go_wp2_with fail
  refine (HR.out _ HA.out).mono ?_
  rintro e w1 ⟨rfl, hR⟩
  have HR1 : Hid (R w1) := hR
  clear hR
  go_wp2_with fail
  refine (HW.out _ HR1.out).mono ?_
  rintro e w2 ⟨rfl, hQ⟩
  have HQ : Hid (Q w2) := hQ
  clear hQ
  go_wp2
  first | go_end0 | refine bodyPost_ret (results_none rfl _ _ _) rfl ?_
  exact ⟨rfl, HQ.out⟩

set_option maxRecDepth 4000 in
set_option maxHeartbeats 8000000 in
theorem again_5 {R Q : World → Prop} (q p : Nat) (N MM : Int) (o : Bool) (s : ByteArray) (a b : Nat) (z : Nat) (w : World)
    (HR : Hid (∀ w1, Below (w.alloc (.cells #[.int .i64 5, .int .i64 N, .int .i64 MM, .bool o, .string s, .int .u32 a, .int .u64 b] 32)).heap.size (w.alloc (.cells #[.int .i64 5, .int .i64 N, .int .i64 MM, .bool o, .string s, .int .u32 a, .int .u64 b] 32)) w1 → Calls Tryd.prog 40 #[.pointer (some ⟨q, 0, none⟩)] w1 fun e w' => e = .returned (.float .f32 z) ∧ R w'))
    (HW : Hid (∀ w1, R w1 → Calls Tryd.prog 23 #[.pointer (some ⟨p, 0, none⟩), .float .f32 z] w1 fun e w' => e = .returned (.tuple #[]) ∧ Q w')) :
    Calls Tryd.prog 15 #[.pointer (some ⟨q, 0, none⟩), .pointer (some ⟨p, 0, none⟩), opcV 5 N MM o s a b] w fun e w' => e = .returned (.tuple #[]) ∧ Q w' := by
  unfold opcV
  have HA : Hid (Below (w.alloc (.cells #[.int .i64 5, .int .i64 N, .int .i64 MM, .bool o, .string s, .int .u32 a, .int .u64 b] 32)).heap.size (w.alloc (.cells #[.int .i64 5, .int .i64 N, .int .i64 MM, .bool o, .string s, .int .u32 a, .int .u64 b] 32)) (w.alloc (.cells #[.int .i64 5, .int .i64 N, .int .i64 MM, .bool o, .string s, .int .u32 a, .int .u64 b] 32))) := Below.refl _ _
  go_enter Tryd.func15, Tryd.ntmps15
  go_wp2_with fail
  refine (HR.out _ HA.out).mono ?_
  rintro e w1 ⟨rfl, hR⟩
  have HR1 : Hid (R w1) := hR
  clear hR
  go_wp2_with fail
  refine (HW.out _ HR1.out).mono ?_
  rintro e w2 ⟨rfl, hQ⟩
  have HQ : Hid (Q w2) := hQ
  clear hQ
  go_wp2
  first | go_end0 | refine bodyPost_ret (results_none rfl _ _ _) rfl ?_
  exact ⟨rfl, HQ.out⟩

set_option maxRecDepth 4000 in
set_option maxHeartbeats 8000000 in
theorem again_6 {R Q : World → Prop} (q p : Nat) (N MM : Int) (o : Bool) (s : ByteArray) (a b : Nat) (z : Nat) (w : World)
    (HR : Hid (∀ w1, Below (w.alloc (.cells #[.int .i64 6, .int .i64 N, .int .i64 MM, .bool o, .string s, .int .u32 a, .int .u64 b] 32)).heap.size (w.alloc (.cells #[.int .i64 6, .int .i64 N, .int .i64 MM, .bool o, .string s, .int .u32 a, .int .u64 b] 32)) w1 → Calls Tryd.prog 42 #[.pointer (some ⟨q, 0, none⟩)] w1 fun e w' => e = .returned (.float .f64 z) ∧ R w'))
    (HW : Hid (∀ w1, R w1 → Calls Tryd.prog 31 #[.pointer (some ⟨p, 0, none⟩), .float .f64 z] w1 fun e w' => e = .returned (.tuple #[]) ∧ Q w')) :
    Calls Tryd.prog 15 #[.pointer (some ⟨q, 0, none⟩), .pointer (some ⟨p, 0, none⟩), opcV 6 N MM o s a b] w fun e w' => e = .returned (.tuple #[]) ∧ Q w' := by
  unfold opcV
  have HA : Hid (Below (w.alloc (.cells #[.int .i64 6, .int .i64 N, .int .i64 MM, .bool o, .string s, .int .u32 a, .int .u64 b] 32)).heap.size (w.alloc (.cells #[.int .i64 6, .int .i64 N, .int .i64 MM, .bool o, .string s, .int .u32 a, .int .u64 b] 32)) (w.alloc (.cells #[.int .i64 6, .int .i64 N, .int .i64 MM, .bool o, .string s, .int .u32 a, .int .u64 b] 32))) := Below.refl _ _
  go_enter Tryd.func15, Tryd.ntmps15
  go_wp2_with fail
  refine (HR.out _ HA.out).mono ?_
  rintro e w1 ⟨rfl, hR⟩
  have HR1 : Hid (R w1) := hR
  clear hR
  go_wp2_with fail
  refine (HW.out _ HR1.out).mono ?_
  rintro e w2 ⟨rfl, hQ⟩
  have HQ : Hid (Q w2) := hQ
  clear hQ
  go_wp2
  first | go_end0 | refine bodyPost_ret (results_none rfl _ _ _) rfl ?_
  exact ⟨rfl, HQ.out⟩

set_option maxRecDepth 4000 in
theorem again_none (q p : Nat) (K N MM : Int) (o : Bool) (s : ByteArray) (a b : Nat) (w : World) (h1 : (K == 1) = false) (h2 : (K == 2) = false) (h3 : (K == 3) = false) (h4 : (K == 4) = false) (h5 : (K == 5) = false) (h6 : (K == 6) = false) (h7 : (K == 7) = false) (h8 : (K == 8) = false) (h9 : (K == 9) = false) :
    Calls Tryd.prog 15 #[.pointer (some ⟨q, 0, none⟩), .pointer (some ⟨p, 0, none⟩), opcV K N MM o s a b] w fun e w' => e = .returned (.tuple #[]) ∧ Below w.heap.size w w' := by
  unfold opcV
  go_enter Tryd.func15, Tryd.ntmps15
  go_wp2
  first | go_end0 | refine bodyPost_ret (results_none rfl _ _ _) rfl ?_
  exact ⟨rfl, (Below.refl _ _).alloc (Nat.le_refl _) _⟩
end Go.Proofs.YtlkhgnjljdbhnabDoor
namespace Go.Proofs.YtlkhgnjljdbhnabDoor
open Go.RowKit

set_option maxRecDepth 4000 in
set_option maxHeartbeats 8000000 in
theorem again_7 {R Q : World → Prop} (q p : Nat) (N MM : Int) (o : Bool) (s : ByteArray) (a b : Nat) (z : ByteArray) (w : World)
    (HR : Hid (∀ w1, Below (w.alloc (.cells #[.int .i64 7, .int .i64 N, .int .i64 MM, .bool o, .string s, .int .u32 a, .int .u64 b] 32)).heap.size (w.alloc (.cells #[.int .i64 7, .int .i64 N, .int .i64 MM, .bool o, .string s, .int .u32 a, .int .u64 b] 32)) w1 → Calls Tryd.prog 25 #[.pointer (some ⟨q, 0, none⟩), .int .i64 N] w1 fun e w' => e = .returned (.string z) ∧ R w'))
    (HW : Hid (∀ w1, R w1 → Calls Tryd.prog 21 #[.pointer (some ⟨p, 0, none⟩), .int .i64 N, .string z] w1 fun e w' => e = .returned (.tuple #[]) ∧ Q w'))
    (HC : Hid (∀ w1, R w1 → w1.cell? ⟨w.heap.size, 1, none⟩ = some (.int .i64 N)))
    (HC2 : Hid (∀ w1, Q w1 → w1.cell? ⟨w.heap.size, 1, none⟩ = some (.int .i64 N))) :
    Calls Tryd.prog 15 #[.pointer (some ⟨q, 0, none⟩), .pointer (some ⟨p, 0, none⟩), opcV 7 N MM o s a b] w fun e w' => e = .returned (.tuple #[]) ∧ Q w' := by
  unfold opcV
  have hc0 : (w.alloc (.cells #[.int .i64 7, .int .i64 N, .int .i64 MM, .bool o, .string s, .int .u32 a, .int .u64 b] 32)).drew.cell? ⟨w.heap.size, 1, none⟩ = some (.int .i64 N) := by simp
  go_enter Tryd.func15, Tryd.ntmps15
  go_wp2_with fail
  go_region_held (fun w' => w'.cell? ⟨w.heap.size, 1, none⟩ = some (.int .i64 N)) (first | exact hc2 | exact hc1 | exact hc0) (first
    | (go_at_call 25; refine (HR.out _ (below_dr (Below.refl _ _))).mono ?_; rintro e w1 ⟨rfl, hR⟩; have hc1 := HC.out w1 hR; have HR1 : Hid (R w1) := hR; clear hR)
    | (go_at_call 21; refine (HW.out _ HR1.out).mono ?_; rintro e w2 ⟨rfl, hQ⟩; have hc2 := HC2.out w2 hQ; have HQ : Hid (Q w2) := hQ; clear hQ))
  all_goals (
    go_wp2
    first | go_end0 | refine bodyPost_ret (results_none rfl _ _ _) rfl ?_
    exact ⟨rfl, HQ.out⟩)

set_option maxRecDepth 4000 in
set_option maxHeartbeats 8000000 in
theorem again_8 {R Q : World → Prop} (q p : Nat) (N MM : Int) (o : Bool) (s : ByteArray) (a b : Nat) (z : ByteArray) (w : World)
    (HR : Hid (∀ w1, Below (w.alloc (.cells #[.int .i64 8, .int .i64 N, .int .i64 MM, .bool o, .string s, .int .u32 a, .int .u64 b] 32)).heap.size (w.alloc (.cells #[.int .i64 8, .int .i64 N, .int .i64 MM, .bool o, .string s, .int .u32 a, .int .u64 b] 32)) w1 → Calls Tryd.prog 43 #[.pointer (some ⟨q, 0, none⟩), .int .i64 N] w1 fun e w' => e = .returned (.string z) ∧ R w'))
    (HW : Hid (∀ w1, R w1 → Calls Tryd.prog 22 #[.pointer (some ⟨p, 0, none⟩), .int .i64 N, .string z] w1 fun e w' => e = .returned (.tuple #[]) ∧ Q w'))
    (HC : Hid (∀ w1, R w1 → w1.cell? ⟨w.heap.size, 1, none⟩ = some (.int .i64 N)))
    (HC2 : Hid (∀ w1, Q w1 → w1.cell? ⟨w.heap.size, 1, none⟩ = some (.int .i64 N))) :
    Calls Tryd.prog 15 #[.pointer (some ⟨q, 0, none⟩), .pointer (some ⟨p, 0, none⟩), opcV 8 N MM o s a b] w fun e w' => e = .returned (.tuple #[]) ∧ Q w' := by
  unfold opcV
  have hc0 : (w.alloc (.cells #[.int .i64 8, .int .i64 N, .int .i64 MM, .bool o, .string s, .int .u32 a, .int .u64 b] 32)).drew.cell? ⟨w.heap.size, 1, none⟩ = some (.int .i64 N) := by simp
  go_enter Tryd.func15, Tryd.ntmps15
  go_wp2_with fail
  go_region_held (fun w' => w'.cell? ⟨w.heap.size, 1, none⟩ = some (.int .i64 N)) (first | exact hc2 | exact hc1 | exact hc0) (first
    | (go_at_call 43; refine (HR.out _ (below_dr (Below.refl _ _))).mono ?_; rintro e w1 ⟨rfl, hR⟩; have hc1 := HC.out w1 hR; have HR1 : Hid (R w1) := hR; clear hR)
    | (go_at_call 22; refine (HW.out _ HR1.out).mono ?_; rintro e w2 ⟨rfl, hQ⟩; have hc2 := HC2.out w2 hQ; have HQ : Hid (Q w2) := hQ; clear hQ))
  all_goals (
    go_wp2
    first | go_end0 | refine bodyPost_ret (results_none rfl _ _ _) rfl ?_
    exact ⟨rfl, HQ.out⟩)

set_option maxRecDepth 4000 in
set_option maxHeartbeats 8000000 in
theorem again_9 {R Q : World → Prop} (q p : Nat) (N MM : Int) (o : Bool) (s : ByteArray) (a b : Nat) (z : Int) (w : World)
    (HR : Hid (∀ w1, Below (w.alloc (.cells #[.int .i64 9, .int .i64 N, .int .i64 MM, .bool o, .string s, .int .u32 a, .int .u64 b] 32)).heap.size (w.alloc (.cells #[.int .i64 9, .int .i64 N, .int .i64 MM, .bool o, .string s, .int .u32 a, .int .u64 b] 32)) w1 → Calls Tryd.prog 44 #[.pointer (some ⟨q, 0, none⟩), .int .i64 N] w1 fun e w' => e = .returned (.int .i64 z) ∧ R w'))
    (HW : Hid (∀ w1, R w1 → Calls Tryd.prog 34 #[.pointer (some ⟨p, 0, none⟩), .int .i64 N, .int .i64 z] w1 fun e w' => e = .returned (.tuple #[]) ∧ Q w'))
    (HC : Hid (∀ w1, R w1 → w1.cell? ⟨w.heap.size, 1, none⟩ = some (.int .i64 N)))
    (HC2 : Hid (∀ w1, Q w1 → w1.cell? ⟨w.heap.size, 1, none⟩ = some (.int .i64 N))) :
    Calls Tryd.prog 15 #[.pointer (some ⟨q, 0, none⟩), .pointer (some ⟨p, 0, none⟩), opcV 9 N MM o s a b] w fun e w' => e = .returned (.tuple #[]) ∧ Q w' := by
  unfold opcV
  have hc0 : (w.alloc (.cells #[.int .i64 9, .int .i64 N, .int .i64 MM, .bool o, .string s, .int .u32 a, .int .u64 b] 32)).drew.cell? ⟨w.heap.size, 1, none⟩ = some (.int .i64 N) := by simp
  go_enter Tryd.func15, Tryd.ntmps15
  go_wp2_with fail
  go_region_held (fun w' => w'.cell? ⟨w.heap.size, 1, none⟩ = some (.int .i64 N)) (first | exact hc2 | exact hc1 | exact hc0) (first
    | (go_at_call 44; refine (HR.out _ (below_dr (Below.refl _ _))).mono ?_; rintro e w1 ⟨rfl, hR⟩; have hc1 := HC.out w1 hR; have HR1 : Hid (R w1) := hR; clear hR)
    | (go_at_call 34; refine (HW.out _ HR1.out).mono ?_; rintro e w2 ⟨rfl, hQ⟩; have hc2 := HC2.out w2 hQ; have HQ : Hid (Q w2) := hQ; clear hQ))
  all_goals (
    go_wp2
    first | go_end0 | refine bodyPost_ret (results_none rfl _ _ _) rfl ?_
    exact ⟨rfl, HQ.out⟩)
end Go.Proofs.YtlkhgnjljdbhnabDoor
namespace Go.Proofs.YtlkhgnjljdbhnabDoor
open Go.RowKit

/-- a Reader and a Writer; as long as nothing is wrong with the Reader, the Writer has what was taken -/
structure AG (s : List UInt8) (w : World) (q p : Nat) (v : Value) (l : List UInt8) (E : Int) (S : ByteArray) (F : Int) : Prop where
  rr : RR w q l E
  pw : PW w p v (s.length : Int) (Lib.strCells S) F
  qp : q ≠ p
  qv : some q ≠ v.ownBlock
  sz : S.size ≤ s.length
  ll : l.length ≤ s.length
  ok : E = 0 → F = 0 ∧ S.data.toList ++ l = s

def AgPost (s : List UInt8) (q p : Nat) (v : Value) (w : World) (e : Ending) (w' : World) : Prop :=
  e = .returned (.tuple #[]) ∧ ∃ v' l' E' S' F', AG s w' q p v' l' E' S' F' ∧ KB p q v v' w w'

def AgainAs (s : List UInt8) (K N MM : Int) (o : Bool) (t : ByteArray) (a b : Nat) : Prop :=
  ∀ (w : World) (q p : Nat) (v : Value) (l : List UInt8) (E : Int) (S : ByteArray) (F : Int), AG s w q p v l E S F →
    Calls Tryd.prog 15 #[.pointer (some ⟨q, 0, none⟩), .pointer (some ⟨p, 0, none⟩), opcV K N MM o t a b] w (AgPost s q p v w)

theorem rlay_le (M : Nat) (S J : ByteArray) (F : Int) (h : S.size ≤ M) : (rlay M S F J).1.size ≤ M := by
  unfold rlay
  split
  · exact h
  · split
    · exact h
    · rename_i h2
      rw [ByteArray.size_append]
      omega

theorem Sole.only {q : Nat} {w w' : World} (h : Sole q w w') : Only q w w' := ⟨h.os, h.tape, h.output, h.size, h.block⟩

/-- the Reader's call was carried out -/
structure RdOut (s : List UInt8) {α : Type} (d : α) (f : List UInt8 → Rd α) (l : List UInt8) (E : Int) (q : Nat) (w w1 : World) : Prop where
  rr : RR w1 q ((⟨l, E⟩ : Rs).go d f).2.l ((⟨l, E⟩ : Rs).go d f).2.e
  so : Sole q w w1

theorem go_len {α : Type} (l : List UInt8) (E : Int) (d : α) (f : List UInt8 → Rd α) : ((⟨l, E⟩ : Rs).go d f).2.l.length ≤ l.length := by
  unfold Rs.go
  split
  · exact Nat.le_refl _
  · split
    · exact Nat.le_refl _
    · simp

/-- the Writer's call behind it -/
theorem AG.step {s : List UInt8} {w w1 : World} {q p : Nat} {v : Value} {l : List UInt8} {E : Int} {S : ByteArray} {F : Int} (h : AG s w q p v l E S F) {α : Type} {d : α} {f : List UInt8 → Rd α} (h1 : RdOut s d f l E q w w1) {lay : α → List UInt8} {P : α → Prop} (ho : One f lay P)
    {r : ByteArray × Int} {e : Ending} {w' : World} (hW : PWrote p v (s.length : Int) r w1 e w') (hr1 : r.1.size ≤ s.length)
    (hr2 : ∀ x, P x → x = ((⟨l, E⟩ : Rs).go d f).1 → S.size + (lay x).length ≤ s.length → F = 0 → r = (S ++ ⟨(lay x).toArray⟩, 0)) : AgPost s q p v w e w' := by
  obtain ⟨he, v', hp', hk⟩ := hW
  have hq := h.rr.lt
  have hq1 := Nat.lt_of_lt_of_le hq h1.so.size
  have hbq := hk.block q hq1 h.qp h.qv
  refine ⟨he, v', _, _, _, _, ⟨⟨(cells_same hbq 0).1.trans h1.rr.l, (cells_same hbq 1).1.trans h1.rr.e, (cells_same hbq 0).2.trans h1.rr.f0, (cells_same hbq 1).2.trans h1.rr.f1⟩, hp', h.qp, ?_, hr1, Nat.le_trans (go_len l E d f) h.ll, ?_⟩, ?_⟩
  · rcases hk.row with e1 | ⟨g, hg, e1⟩
    · rw [e1]; exact h.qv
    · rw [e1]; intro e2; cases e2; omega
  · intro hE'
    rw [go_case] at hE'
    by_cases hb : decide (E = 0 ∧ (f l).wrong = 0) = true
    · obtain ⟨hE0, hw0⟩ := of_decide_eq_true hb
      obtain ⟨hF, hs⟩ := h.ok hE0
      obtain ⟨o1, o2, o3⟩ := ho l hw0
      have e1 : (⟨l, E⟩ : Rs).go d f = ((f l).val, ⟨l.drop (f l).size, if E = 0 then (f l).wrong else E⟩) := by rw [go_case, if_pos hb]
      have hll : S.size + l.length = s.length := by have h9 := congrArg List.length hs; rwa [List.length_append, size_list] at h9
      have hlen : (lay (f l).val).length = (f l).size := by rw [o2, List.length_take]; omega
      have hr := hr2 (f l).val o3 (by rw [e1]) (by rw [hlen]; omega) hF
      rw [hr, e1]
      refine ⟨rfl, ?_⟩
      rw [bytes_app]
      simp only [List.append_assoc]
      rw [o2, List.take_append_drop]
      exact hs
    · exfalso
      rw [if_neg hb] at hE'
      apply hb
      rw [decide_eq_true_eq]
      replace hE' : (if E = 0 then (f l).wrong else E) = 0 := hE'
      by_cases hE0 : E = 0
      · rw [if_pos hE0] at hE'; exact ⟨hE0, hE'⟩
      · rw [if_neg hE0] at hE'; exact absurd hE' hE0
  · refine ⟨hk.os.trans h1.so.os, hk.tape.trans h1.so.tape, hk.output.trans h1.so.output, Nat.le_trans h1.so.size hk.size, fun i hi hip hiq hiv => (hk.block i (Nat.lt_of_lt_of_le hi h1.so.size) hip hiv).trans (h1.so.block i hi hiq), ?_⟩
    rcases hk.row with e1 | ⟨g, hg, e1⟩
    · exact .inl e1
    · exact .inr ⟨g, Nat.le_trans h1.so.size hg, e1⟩

theorem AG.alloc {s : List UInt8} {w : World} {q p : Nat} {v : Value} {l : List UInt8} {E : Int} {S : ByteArray} {F : Int} (h : AG s w q p v l E S F) (x : Obj) : AG s (w.alloc x) q p v l E S F :=
  have hB : Below w.heap.size w (w.alloc x) := (Below.refl _ _).alloc (Nat.le_refl _) _
  ⟨h.rr.below hB, h.pw.below hB, h.qp, h.qv, h.sz, h.ll, h.ok⟩
theorem AG.below {s : List UInt8} {w w1 : World} {q p : Nat} {v : Value} {l : List UInt8} {E : Int} {S : ByteArray} {F : Int} (h : AG s w q p v l E S F) (hB : Below w.heap.size w w1) : AG s w1 q p v l E S F :=
  ⟨h.rr.below hB, h.pw.below hB, h.qp, h.qv, h.sz, h.ll, h.ok⟩
theorem KB.before {p q : Nat} {v v' : Value} {w w1 w2 : World} (hB : Below w.heap.size w w1) (k : KB p q v v' w1 w2) : KB p q v v' w w2 :=
  ⟨k.os.trans hB.os, k.tape.trans hB.tape, k.output.trans hB.output, Nat.le_trans hB.size k.size, fun i hi h1 h2 h3 => (k.block i (Nat.lt_of_lt_of_le hi hB.size) h1 h2 h3).trans (hB.block i hi), by
    rcases k.row with e | ⟨g, hg, e⟩
    · exact .inl e
    · exact .inr ⟨g, Nat.le_trans hB.size hg, e⟩⟩

/-- a Reader's call behind the operation's own cells -/
theorem again_hr {s : List UInt8} {w : World} {q p : Nat} {v : Value} {l : List UInt8} {E : Int} {S : ByteArray} {F : Int} (h : AG s w q p v l E S F) (obj : Obj) {α : Type} {d : α} {f : List UInt8 → Rd α} {vv : α → Value} {fn : FuncId} {args : Array Value}
    (hc : ∀ w1, RR w1 q l E → Calls Tryd.prog fn args w1 (RPost q l E d f vv w1)) : ∀ w1, Below (w.alloc obj).heap.size (w.alloc obj) w1 → Calls Tryd.prog fn args w1 fun e w' => e = .returned (vv ((⟨l, E⟩ : Rs).go d f).1) ∧ RdOut s d f l E q (w.alloc obj) w' :=
  fun w1 hB => (hc w1 ((h.alloc obj).rr.below hB)).mono fun _ _ hp => ⟨hp.1, ⟨hp.2.1, (Sole.of_below hB).trans hp.2.2⟩⟩

theorem RdOut.pw {s : List UInt8} {w w1 : World} {q p : Nat} {v : Value} {l : List UInt8} {E : Int} {S : ByteArray} {F : Int} (h : AG s w q p v l E S F) {α : Type} {d : α} {f : List UInt8 → Rd α} (h1 : RdOut s d f l E q w w1) : PW w1 p v (s.length : Int) (Lib.strCells S) F :=
  h.pw.only h1.so.only (fun e => h.qp e.symm) h.qv

/-- the operation's own cells behind the calls -/
theorem again_hc {s : List UInt8} {w : World} {q p : Nat} {v : Value} {l : List UInt8} {E : Int} {S : ByteArray} {F : Int} (h : AG s w q p v l E S F) (obj : Obj) (N : Int) (hN : (w.alloc obj).cell? ⟨w.heap.size, 1, none⟩ = some (.int .i64 N)) {α : Type} {d : α} {f : List UInt8 → Rd α} :
    ∀ w1, RdOut s d f l E q (w.alloc obj) w1 → w1.cell? ⟨w.heap.size, 1, none⟩ = some (.int .i64 N) := fun w1 h1 => by
  have hq := h.rr.lt
  rw [(cells_same (h1.so.block w.heap.size (by simp) (by omega)) 1).1]
  exact hN
theorem again_hc2 {s : List UInt8} {w : World} {q p : Nat} {v : Value} {l : List UInt8} {E : Int} {S : ByteArray} {F : Int} (h : AG s w q p v l E S F) (obj : Obj) (N : Int) (hN : (w.alloc obj).cell? ⟨w.heap.size, 1, none⟩ = some (.int .i64 N)) :
    ∀ w1 : World, (∃ v' l' E' S' F', AG s w1 q p v' l' E' S' F' ∧ KB p q v v' (w.alloc obj) w1) → w1.cell? ⟨w.heap.size, 1, none⟩ = some (.int .i64 N) := by
  rintro w1 ⟨v', l', E', S', F', _, k⟩
  have hq := h.rr.lt
  have hp := h.pw.lt
  rw [(cells_same (k.block w.heap.size (by simp) (by omega) (by omega) (fun e => by have := (h.pw.own.lt _ e.symm).2; omega)) 1).1]
  exact hN
theorem again_end {s : List UInt8} {w : World} {q p : Nat} {v : Value} {obj : Obj} {e : Ending} {w' : World}
    (h : e = .returned (.tuple #[]) ∧ ∃ v' l' E' S' F', AG s w' q p v' l' E' S' F' ∧ KB p q v v' (w.alloc obj) w') : AgPost s q p v w e w' := by
  obtain ⟨he, v', l', E', S', F', h1, k⟩ := h
  exact ⟨he, v', l', E', S', F', h1, KB.before ((Below.refl _ _).alloc (Nat.le_refl _) _) k⟩
end Go.Proofs.YtlkhgnjljdbhnabDoor
namespace Go.Proofs.YtlkhgnjljdbhnabDoor
open Go.RowKit

theorem room_eq (n : Nat) (S : ByteArray) (l : List UInt8) (h : S.size + l.length ≤ n) : rlay (n : Int) S 0 ⟨l.toArray⟩ = (S ++ ⟨l.toArray⟩, 0) := rlay_room _ _ _ (by rw [Bs_size l]; omega)

theorem by4_sgn (n : Nat) (h : n < 4294967296) : byL 4 (sgn32r n) = nbL 4 n := by
  rw [byL_nb, show ((256 ^ 4 : Nat) : Int) = 4294967296 by decide]
  congr 1
  unfold sgn32r; split <;> omega
theorem by8_sgn (n : Nat) (h : n < 18446744073709551616) : byL 8 (sgn64r n) = nbL 8 n := by
  rw [byL_nb, show ((256 ^ 8 : Nat) : Int) = 18446744073709551616 by decide]
  congr 1
  unfold sgn64r; split <;> omega
theorem by4_nat (n : Nat) (h : n < 4294967296) : byL 4 (n : Int) = nbL 4 n := by
  rw [byL_nb, show ((256 ^ 4 : Nat) : Int) = 4294967296 by decide, show (n : Int) % 4294967296 = (n : Int) by omega, Int.toNat_natCast]

theorem go_lt {f : List UInt8 → Rd Nat} {m : Nat} (hm : 0 < m) (h : ∀ l, (f l).val < m) (l : List UInt8) (E : Int) : ((⟨l, E⟩ : Rs).go 0 f).1 < m := by
  rw [go_case]
  split
  · exact h l
  · exact hm

theorem ag_int (s : List UInt8) (hs : s.length ≤ 2147483647) (N MM : Int) (o : Bool) (t : ByteArray) (a b : Nat) : AgainAs s 1 N MM o t a b := by
  intro w q p v l E S F h
  have hsz := h.sz
  have hlt : ((⟨l, E⟩ : Rs).go 0 rdWord).1 < 4294967296 := go_lt (by decide) (fun l => (rdWord_size l).2.2) l E
  refine (again_1 (Q := fun w' => ∃ v' l' E' S' F', AG s w' q p v' l' E' S' F' ∧ KB p q v v' (w.alloc (.cells #[.int .i64 1, .int .i64 N, .int .i64 MM, .bool o, .string t, .int .u32 a, .int .u64 b] 32)) w') q p N MM o t a b (sgn32r ((⟨l, E⟩ : Rs).go 0 rdWord).1) w (again_hr h _ (vv := fun n => .int .i64 (sgn32r n)) (fun w1 h1 => rint_any q l E w1 h1)) (fun w1 h1 => ?_)).mono fun _ _ hp => again_end hp
  refine (pint_ok p v _ s.length F S w1 (h1.pw (h.alloc _)) (by omega) (by omega) (by omega) (by unfold sgn32r; split <;> simp <;> omega)).mono fun e w' hp => ?_
  refine (h.alloc _).step h1 one_word hp (rlay_le _ _ _ _ hsz) fun x hx e hr hF => ?_
  rw [by4_sgn _ hlt, ← e, hF, room_eq _ _ _ hr]
theorem ag_uint (s : List UInt8) (hs : s.length ≤ 2147483647) (N MM : Int) (o : Bool) (t : ByteArray) (a b : Nat) : AgainAs s 2 N MM o t a b := by
  intro w q p v l E S F h
  have hsz := h.sz
  have hlt : ((⟨l, E⟩ : Rs).go 0 rdWord).1 < 4294967296 := go_lt (by decide) (fun l => (rdWord_size l).2.2) l E
  refine (again_2 (Q := fun w' => ∃ v' l' E' S' F', AG s w' q p v' l' E' S' F' ∧ KB p q v v' (w.alloc (.cells #[.int .i64 2, .int .i64 N, .int .i64 MM, .bool o, .string t, .int .u32 a, .int .u64 b] 32)) w') q p N MM o t a b (((⟨l, E⟩ : Rs).go 0 rdWord).1 : Nat) w (again_hr h _ (vv := fun (n : Nat) => .int .i64 (n : Int)) (fun w1 h1 => ruint_any q l E w1 h1)) (fun w1 h1 => ?_)).mono fun _ _ hp => again_end hp
  refine (puint_ok p v _ s.length F S w1 (h1.pw (h.alloc _)) (by omega) (by omega) (by omega) (by simp; omega)).mono fun e w' hp => ?_
  refine (h.alloc _).step h1 one_word hp (rlay_le _ _ _ _ hsz) fun x hx e hr hF => ?_
  rw [by4_nat _ hlt, ← e, hF, room_eq _ _ _ hr]
theorem ag_hyper (s : List UInt8) (hs : s.length ≤ 2147483647) (N MM : Int) (o : Bool) (t : ByteArray) (a b : Nat) : AgainAs s 3 N MM o t a b := by
  intro w q p v l E S F h
  have hsz := h.sz
  have hlt : ((⟨l, E⟩ : Rs).go 0 rdHyper).1 < 18446744073709551616 := go_lt (by decide) (fun l => (rdHyper_size l).2.2) l E
  refine (again_3 (Q := fun w' => ∃ v' l' E' S' F', AG s w' q p v' l' E' S' F' ∧ KB p q v v' (w.alloc (.cells #[.int .i64 3, .int .i64 N, .int .i64 MM, .bool o, .string t, .int .u32 a, .int .u64 b] 32)) w') q p N MM o t a b (sgn64r ((⟨l, E⟩ : Rs).go 0 rdHyper).1) w (again_hr h _ (vv := fun n => .int .i64 (sgn64r n)) (fun w1 h1 => rhyper_any q l E w1 h1)) (fun w1 h1 => ?_)).mono fun _ _ hp => again_end hp
  refine (phyper p v _ s.length F S w1 (h1.pw (h.alloc _)) (by omega) (by omega) (by omega)).mono fun e w' hp => ?_
  refine (h.alloc _).step h1 one_hyper hp (rlay_le _ _ _ _ hsz) fun x hx e hr hF => ?_
  rw [by8_sgn _ hlt, ← e, hF, room_eq _ _ _ hr]

theorem one_bool : One rdBool (fun b => nbL 4 (if b then 1 else 0)) (fun _ => True) := by
  intro l h
  unfold rdBool at h ⊢
  split at h
  · rename_i h1; exact absurd h h1
  · rename_i h1
    rw [if_neg h1]
    split at h
    · cases h
    · rename_i h2
      rw [if_neg h2]
      have h0 : (rdWord l).wrong = 0 := Decidable.not_not.1 h1
      obtain ⟨o1, o2, o3⟩ := one_word l h0
      rw [(rdWord_size l).1] at o1 o2
      refine ⟨o1, ?_, trivial⟩
      show nbL 4 (if ((rdWord l).val == 1) = true then 1 else 0) = l.take 4
      rw [← o2]
      congr 1
      rcases (by omega : (rdWord l).val = 0 ∨ (rdWord l).val = 1) with e | e <;> rw [e] <;> rfl
theorem ag_bool (s : List UInt8) (hs : s.length ≤ 2147483647) (N MM : Int) (o : Bool) (t : ByteArray) (a b : Nat) : AgainAs s 4 N MM o t a b := by
  intro w q p v l E S F h
  have hsz := h.sz
  refine (again_4 (Q := fun w' => ∃ v' l' E' S' F', AG s w' q p v' l' E' S' F' ∧ KB p q v v' (w.alloc (.cells #[.int .i64 4, .int .i64 N, .int .i64 MM, .bool o, .string t, .int .u32 a, .int .u64 b] 32)) w') q p N MM o t a b ((⟨l, E⟩ : Rs).go false rdBool).1 w (again_hr h _ (vv := fun b => .bool b) (fun w1 h1 => rbool_any q l E w1 h1)) (fun w1 h1 => ?_)).mono fun _ _ hp => again_end hp
  obtain ⟨z, hz⟩ : ∃ z, ((⟨l, E⟩ : Rs).go false rdBool).1 = z := ⟨_, rfl⟩
  rw [hz]
  cases z
  · refine (pbool_false p v s.length F S w1 (h1.pw (h.alloc _)) (by omega) (by omega) (by omega)).mono fun e w' hp => ?_
    refine (h.alloc _).step h1 one_bool hp (rlay_le _ _ _ _ hsz) fun x hx e hr hF => ?_
    rw [e, hz, hF] at *
    exact room_eq _ _ (nbL 4 0) hr
  · refine (pbool_true p v s.length F S w1 (h1.pw (h.alloc _)) (by omega) (by omega) (by omega)).mono fun e w' hp => ?_
    refine (h.alloc _).step h1 one_bool hp (rlay_le _ _ _ _ hsz) fun x hx e hr hF => ?_
    rw [e, hz, hF] at *
    exact room_eq _ _ (nbL 4 1) hr

theorem one_float : One rdFloat (nbL 4) (fun n => n < 4294967296 ∧ c32 n = n) := by
  intro l h
  unfold rdFloat at h ⊢
  split at h
  · rename_i h1; exact absurd h h1
  · rename_i h1
    rw [if_neg h1]
    split at h
    · cases h
    · rename_i h2
      rw [if_neg h2]
      have h0 : (rdWord l).wrong = 0 := Decidable.not_not.1 h1
      obtain ⟨o1, o2, o3⟩ := one_word l h0
      rw [(rdWord_size l).1] at o1 o2
      refine ⟨o1, o2, o3, ?_⟩
      show c32 (rdWord l).val = (rdWord l).val
      cases hn : nan32 (rdWord l).val
      · exact c32_num _ hn
      · rw [c32_nan _ hn]
        by_cases hq : (rdWord l).val = 2143289344
        · exact hq.symm
        · exact absurd ⟨hn, hq⟩ h2
theorem one_double : One rdDouble (nbL 8) (fun n => n < 18446744073709551616 ∧ c64 n = n) := by
  intro l h
  unfold rdDouble at h ⊢
  split at h
  · rename_i h1; exact absurd h h1
  · rename_i h1
    rw [if_neg h1]
    split at h
    · cases h
    · rename_i h2
      rw [if_neg h2]
      have h0 : (rdHyper l).wrong = 0 := Decidable.not_not.1 h1
      obtain ⟨o1, o2, o3⟩ := one_hyper l h0
      rw [(rdHyper_size l).1] at o1 o2
      refine ⟨o1, o2, o3, ?_⟩
      show c64 (rdHyper l).val = (rdHyper l).val
      unfold c64
      cases hn : nan64 (rdHyper l).val
      · rfl
      · by_cases hq : (rdHyper l).val = 9221120237041090560
        · exact hq.symm
        · exact absurd ⟨hn, hq⟩ h2
theorem ag_float (s : List UInt8) (hs : s.length ≤ 2147483647) (N MM : Int) (o : Bool) (t : ByteArray) (a b : Nat) : AgainAs s 5 N MM o t a b := by
  intro w q p v l E S F h
  have hsz := h.sz
  have hlt := rdFloat_lt l E
  refine (again_5 (Q := fun w' => ∃ v' l' E' S' F', AG s w' q p v' l' E' S' F' ∧ KB p q v v' (w.alloc (.cells #[.int .i64 5, .int .i64 N, .int .i64 MM, .bool o, .string t, .int .u32 a, .int .u64 b] 32)) w') q p N MM o t a b ((⟨l, E⟩ : Rs).go 0 rdFloat).1 w (again_hr h _ (vv := fun n => .float .f32 n) (fun w1 h1 => rfloat_any q l E w1 h1)) (fun w1 h1 => ?_)).mono fun _ _ hp => again_end hp
  refine (pfloat p _ v s.length F S w1 (h1.pw (h.alloc _)) (by omega) (by omega) (by omega) hlt (c32_lt _ hlt)).mono fun e w' hp => ?_
  refine (h.alloc _).step h1 one_float hp (rlay_le _ _ _ _ hsz) fun x hx e hr hF => ?_
  rw [← e, hx.2, hF, beL_nb, room_eq _ _ _ hr]
theorem ag_double (s : List UInt8) (hs : s.length ≤ 2147483647) (N MM : Int) (o : Bool) (t : ByteArray) (a b : Nat) : AgainAs s 6 N MM o t a b := by
  intro w q p v l E S F h
  have hsz := h.sz
  have hlt := rdDouble_lt l E
  refine (again_6 (Q := fun w' => ∃ v' l' E' S' F', AG s w' q p v' l' E' S' F' ∧ KB p q v v' (w.alloc (.cells #[.int .i64 6, .int .i64 N, .int .i64 MM, .bool o, .string t, .int .u32 a, .int .u64 b] 32)) w') q p N MM o t a b ((⟨l, E⟩ : Rs).go 0 rdDouble).1 w (again_hr h _ (vv := fun n => .float .f64 n) (fun w1 h1 => rdouble_any q l E w1 h1)) (fun w1 h1 => ?_)).mono fun _ _ hp => again_end hp
  refine (pdouble p _ v s.length F S w1 (h1.pw (h.alloc _)) (by omega) (by omega) (by omega) hlt (c64_lt _ hlt)).mono fun e w' hp => ?_
  refine (h.alloc _).step h1 one_double hp (rlay_le _ _ _ _ hsz) fun x hx e hr hF => ?_
  rw [← e, hx.2, hF, beL_nb, room_eq _ _ _ hr]

theorem word_no {N : Int} (h : ¬ (0 ≤ N ∧ N ≤ 4294967295)) : (decide (0 ≤ N) && decide (N ≤ 4294967295)) = false := by
  rw [Bool.eq_false_iff]; intro c; apply h; simpa using c
theorem word_yes {N : Int} (h : 0 ≤ N ∧ N ≤ 4294967295) : (decide (0 ≤ N) && decide (N ≤ 4294967295)) = true := by simpa using h

theorem text_len {f : List UInt8 → Rd (List UInt8)} (hf : ∀ l, (f l).val.length ≤ l.length) (l : List UInt8) (E : Int) : ((⟨l, E⟩ : Rs).go [] f).1.length ≤ l.length := by
  rw [go_case]
  split
  · exact hf l
  · exact Nat.zero_le _
theorem rdText_val (n : Nat) (l : List UInt8) : (rdText n l).val.length ≤ l.length := by
  unfold rdText
  split
  · exact Nat.zero_le _
  · split
    · exact Nat.zero_le _
    · rw [List.length_take]; omega
theorem rdFixed_val (n : Int) (l : List UInt8) : (rdFixed n l).val.length ≤ l.length := by
  unfold rdFixed
  split
  · exact Nat.zero_le _
  · exact rdText_val _ l
theorem rdOpaque_val (n : Int) (l : List UInt8) : (rdOpaque n l).val.length ≤ l.length := by
  unfold rdOpaque
  split
  · exact Nat.zero_le _
  · have := rdText_val (rdCount n l).val (l.drop 4)
    rw [List.length_drop] at this
    exact Nat.le_trans this (by omega)

theorem ag_fixed (s : List UInt8) (hs : s.length ≤ 2147483647) (N MM : Int) (o : Bool) (t : ByteArray) (a b : Nat) (h0 : -9223372036854775808 ≤ N) (h1 : N ≤ 9223372036854775807) : AgainAs s 7 N MM o t a b := by
  intro w q p v l E S F h
  have hsz := h.sz
  have hll := h.ll
  have hzl := text_len (rdFixed_val N) l E
  refine (again_7 (Q := fun w' => ∃ v' l' E' S' F', AG s w' q p v' l' E' S' F' ∧ KB p q v v' (w.alloc (.cells #[.int .i64 7, .int .i64 N, .int .i64 MM, .bool o, .string t, .int .u32 a, .int .u64 b] 32)) w') q p N MM o t a b ⟨((⟨l, E⟩ : Rs).go [] (rdFixed N)).1.toArray⟩ w (again_hr h _ (vv := fun s => Bs s) (fun w1 h9 => rfixed_any q N l E w1 h9 h0 h1)) (fun w1 hr => ?_) (again_hc h _ N (by simp)) (again_hc2 h _ N (by simp))).mono fun _ _ hp => again_end hp
  by_cases hw : 0 ≤ N ∧ N ≤ 4294967295
  · by_cases hN : N = ((⟨((⟨l, E⟩ : Rs).go [] (rdFixed N)).1.toArray⟩ : ByteArray).size : Int)
    · refine (pfixed_ok p v N s.length F S _ w1 (hr.pw (h.alloc _)) (by omega) (by omega) (by rw [Bs_size ((⟨l, E⟩ : Rs).go [] (rdFixed N)).1]; omega) (word_yes hw) hN).mono fun e w' hp => ?_
      refine (h.alloc _).step hr (one_fixed N) hp (rlay_le _ _ _ _ hsz) fun x hx e hrm hF => ?_
      rw [Bs_size, padL_padB, bapp, ← e, hF, room_eq _ _ _ hrm]
    · refine (pfixed_long p v N s.length F S _ w1 (hr.pw (h.alloc _)) (word_yes hw) (by rw [bne_iff_ne]; exact fun c => hN c.symm)).mono fun e w' hp => ?_
      refine (h.alloc _).step hr (one_fixed N) hp hsz fun x hx e hrm hF => ?_
      exfalso; apply hN; rw [Bs_size, ← e]; exact hx.1.symm
  · refine (pfixed_range p v N s.length F S _ w1 (hr.pw (h.alloc _)) (word_no hw)).mono fun e w' hp => ?_
    refine (h.alloc _).step hr (one_fixed N) hp hsz fun x hx e hrm hF => ?_
    exfalso; apply hw; have := hx.1; have := hx.2; omega

theorem ag_opaque (s : List UInt8) (hs : s.length ≤ 2147483647) (N MM : Int) (o : Bool) (t : ByteArray) (a b : Nat) : AgainAs s 8 N MM o t a b := by
  intro w q p v l E S F h
  have hsz := h.sz
  have hll := h.ll
  have hzl := text_len (rdOpaque_val N) l E
  refine (again_8 (Q := fun w' => ∃ v' l' E' S' F', AG s w' q p v' l' E' S' F' ∧ KB p q v v' (w.alloc (.cells #[.int .i64 8, .int .i64 N, .int .i64 MM, .bool o, .string t, .int .u32 a, .int .u64 b] 32)) w') q p N MM o t a b ⟨((⟨l, E⟩ : Rs).go [] (rdOpaque N)).1.toArray⟩ w (again_hr h _ (vv := fun s => Bs s) (fun w1 h9 => ropaque_any q N l E w1 h9 (by omega))) (fun w1 hr => ?_) (again_hc h _ N (by simp)) (again_hc2 h _ N (by simp))).mono fun _ _ hp => again_end hp
  by_cases hw : 0 ≤ N ∧ N ≤ 4294967295
  · by_cases hN : ((⟨((⟨l, E⟩ : Rs).go [] (rdOpaque N)).1.toArray⟩ : ByteArray).size : Int) ≤ N
    · refine (popaque_ok p v N s.length F S _ w1 (hr.pw (h.alloc _)) (by omega) (by omega) (by rw [Bs_size ((⟨l, E⟩ : Rs).go [] (rdOpaque N)).1]; omega) (word_yes hw) hN).mono fun e w' hp => ?_
      refine (h.alloc _).step hr (one_opaque N) hp (rlay_le _ _ _ _ hsz) fun x hx e hrm hF => ?_
      rw [Bs_size, padL_padB, bapp, bapp, by4_nat _ (by omega), ← e, hF, List.append_assoc, room_eq _ _ _ hrm]
    · refine (popaque_long p v N s.length F S _ w1 (hr.pw (h.alloc _)) (word_yes hw) (by omega)).mono fun e w' hp => ?_
      refine (h.alloc _).step hr (one_opaque N) hp hsz fun x hx e hrm hF => ?_
      exfalso; apply hN; rw [Bs_size, ← e]; exact hx.2.2
  · refine (popaque_range p v N s.length F S _ w1 (hr.pw (h.alloc _)) (word_no hw)).mono fun e w' hp => ?_
    refine (h.alloc _).step hr (one_opaque N) hp hsz fun x hx e hrm hF => ?_
    exfalso; exact hw ⟨hx.1, hx.2.1⟩

theorem ag_count (s : List UInt8) (hs : s.length ≤ 2147483647) (N MM : Int) (o : Bool) (t : ByteArray) (a b : Nat) : AgainAs s 9 N MM o t a b := by
  intro w q p v l E S F h
  have hsz := h.sz
  have hlt : ((⟨l, E⟩ : Rs).go 0 (rdCount N)).1 < 4294967296 := go_lt (by decide) (fun l => (rdCount_size N l).2.2) l E
  refine (again_9 (Q := fun w' => ∃ v' l' E' S' F', AG s w' q p v' l' E' S' F' ∧ KB p q v v' (w.alloc (.cells #[.int .i64 9, .int .i64 N, .int .i64 MM, .bool o, .string t, .int .u32 a, .int .u64 b] 32)) w') q p N MM o t a b (((⟨l, E⟩ : Rs).go 0 (rdCount N)).1 : Nat) w (again_hr h _ (vv := fun (n : Nat) => .int .i64 (n : Int)) (fun w1 h9 => rcount_any q N l E w1 h9)) (fun w1 hr => ?_) (again_hc h _ N (by simp)) (again_hc2 h _ N (by simp))).mono fun _ _ hp => again_end hp
  by_cases hw : 0 ≤ N ∧ N ≤ 4294967295
  · by_cases hN : ((((⟨l, E⟩ : Rs).go 0 (rdCount N)).1 : Nat) : Int) ≤ N
    · refine (pcount_ok p v N _ s.length F S w1 (hr.pw (h.alloc _)) (by omega) (by omega) (by omega) (word_yes hw) (by omega) hN).mono fun e w' hp => ?_
      refine (h.alloc _).step hr (one_count N) hp (rlay_le _ _ _ _ hsz) fun x hx e hrm hF => ?_
      rw [by4_nat _ hlt, ← e, hF, room_eq _ _ _ hrm]
    · refine (pcount_long p v N _ s.length F S w1 (hr.pw (h.alloc _)) (word_yes hw) (by omega) (by omega)).mono fun e w' hp => ?_
      refine (h.alloc _).step hr (one_count N) hp hsz fun x hx e hrm hF => ?_
      exfalso; apply hN; rw [← e]; exact hx.2.2
  · refine (pcount_most p v N _ s.length F S w1 (hr.pw (h.alloc _)) (word_no hw)).mono fun e w' hp => ?_
    refine (h.alloc _).step hr (one_count N) hp hsz fun x hx e hrm hF => ?_
    exfalso; exact hw ⟨hx.1, hx.2.1⟩

theorem ag_none (s : List UInt8) (K N MM : Int) (o : Bool) (t : ByteArray) (a b : Nat) (hK : ∀ j : Int, 1 ≤ j → j ≤ 9 → K ≠ j) : AgainAs s K N MM o t a b := by
  intro w q p v l E S F h
  have hk : ∀ j : Int, 1 ≤ j → j ≤ 9 → (K == j) = false := fun j h0 h1 => beq_eq_false_iff_ne.2 (hK j h0 h1)
  refine (again_none q p K N MM o t a b w (hk 1 (by decide) (by decide)) (hk 2 (by decide) (by decide)) (hk 3 (by decide) (by decide)) (hk 4 (by decide) (by decide)) (hk 5 (by decide) (by decide)) (hk 6 (by decide) (by decide)) (hk 7 (by decide) (by decide)) (hk 8 (by decide) (by decide)) (hk 9 (by decide) (by decide))).mono ?_
  rintro e w' ⟨rfl, hB⟩
  exact ⟨rfl, v, l, E, S, F, h.below hB, ⟨hB.os, hB.tape, hB.output, hB.size, fun i hi _ _ _ => hB.block i hi, .inl rfl⟩⟩

theorem ag_any (s : List UInt8) (hs : s.length ≤ 2147483647) (K N MM : Int) (o : Bool) (t : ByteArray) (a b : Nat) (h0 : -9223372036854775808 ≤ N) (h1 : N ≤ 9223372036854775807) : AgainAs s K N MM o t a b := by
  by_cases k1 : K = 1
  · subst k1; exact ag_int s hs N MM o t a b
  by_cases k2 : K = 2
  · subst k2; exact ag_uint s hs N MM o t a b
  by_cases k3 : K = 3
  · subst k3; exact ag_hyper s hs N MM o t a b
  by_cases k4 : K = 4
  · subst k4; exact ag_bool s hs N MM o t a b
  by_cases k5 : K = 5
  · subst k5; exact ag_float s hs N MM o t a b
  by_cases k6 : K = 6
  · subst k6; exact ag_double s hs N MM o t a b
  by_cases k7 : K = 7
  · subst k7; exact ag_fixed s hs N MM o t a b h0 h1
  by_cases k8 : K = 8
  · subst k8; exact ag_opaque s hs N MM o t a b
  by_cases k9 : K = 9
  · subst k9; exact ag_count s hs N MM o t a b
  exact ag_none s K N MM o t a b (fun j h0 h1 => by omega)
end Go.Proofs.YtlkhgnjljdbhnabDoor
namespace Go.Proofs.YtlkhgnjljdbhnabDoor
open Go.RowKit

/-- the cells of the first calls of a script -/
def opL (K N MM : Nat → Int) (O : Nat → Bool) (T : Nat → ByteArray) (A B : Nat → Nat) (i : Nat) : List Value :=
  [.int .i64 (K i), .int .i64 (N i), .int .i64 (MM i), .bool (O i), .string (T i), .int .u32 (A i), .int .u64 (B i)]
def opsL (K N MM : Nat → Int) (O : Nat → Bool) (T : Nat → ByteArray) (A B : Nat → Nat) : Nat → List Value
  | 0 => []
  | k + 1 => opsL K N MM O T A B k ++ opL K N MM O T A B k

theorem opsL_len (K N MM : Nat → Int) (O : Nat → Bool) (T : Nat → ByteArray) (A B : Nat → Nat) (k : Nat) : (opsL K N MM O T A B k).length = k * 7 := by
  induction k with
  | zero => rfl
  | succ k ih => rw [opsL, List.length_append, ih]; simp [opL]; omega

theorem opsL_get (K N MM : Nat → Int) (O : Nat → Bool) (T : Nat → ByteArray) (A B : Nat → Nat) (k i c : Nat) (hi : i < k) (hc : c < 7) : (opsL K N MM O T A B k)[i * 7 + c]? = (opL K N MM O T A B i)[c]? := by
  induction k with
  | zero => omega
  | succ k ih =>
    rw [opsL]
    by_cases h : i < k
    · rw [List.getElem?_append_left (by rw [opsL_len]; omega)]
      exact ih h
    · obtain rfl : i = k := by omega
      rw [List.getElem?_append_right (by rw [opsL_len]; omega), opsL_len]
      congr 1; omega

theorem opsL_one (K N MM : Nat → Int) (O : Nat → Bool) (T : Nat → ByteArray) (A B : Nat → Nat) (i : Nat) : ∀ u ∈ opL K N MM O T A B i, u.oneCell' = true := by
  intro u hu
  simp only [opL, List.mem_cons, List.not_mem_nil, or_false] at hu
  rcases hu with rfl | rfl | rfl | rfl | rfl | rfl | rfl <;> rfl

/-- a row of calls that the law owns, as a script in memory -/
theorem ops_of_row {w : World} {base k g cap : Nat} {K N MM : Nat → Int} {O : Nat → Bool} {T : Nat → ByteArray} {A B : Nat → Nat} (h : w.ownsRow base 32 7 (.slice (some ⟨g, 0, none⟩) k cap) k (opsL K N MM O T A B k))
    (hn : ∀ i, i < k → -9223372036854775808 ≤ N i ∧ N i ≤ 9223372036854775807) (hm : ∀ i, i < k → -9223372036854775808 ≤ MM i ∧ MM i ≤ 9223372036854775807) (ha : ∀ i, i < k → A i < 4294967296) (hb : ∀ i, i < k → B i < 18446744073709551616) : Ops w g 0 k K N MM O T A B := by
  have hc : ∀ i c v, i < k → c < 7 → (opL K N MM O T A B i)[c]? = some v → w.cell? ⟨g, 0 + (i * 7 + c), none⟩ = some v := fun i c v hi hc hv => by
    have h1 := h.cells (g := g) rfl (i * 7 + c) v (by rw [opsL_get _ _ _ _ _ _ _ k i c hi hc]; exact hv)
    rwa [Lib.add_plain] at h1
  refine ⟨fun i hi => ?_, fun i hi => ?_, fun i hi => ?_, fun i hi => ?_, fun i hi => ?_, fun i hi => ?_, fun i hi => ?_, hn, hm, ha, hb⟩
  · exact hc i 0 _ hi (by omega) rfl
  · rw [Nat.add_assoc]; exact hc i 1 _ hi (by omega) rfl
  · rw [Nat.add_assoc]; exact hc i 2 _ hi (by omega) rfl
  · rw [Nat.add_assoc]; exact hc i 3 _ hi (by omega) rfl
  · rw [Nat.add_assoc]; exact hc i 4 _ hi (by omega) rfl
  · rw [Nat.add_assoc]; exact hc i 5 _ hi (by omega) rfl
  · rw [Nat.add_assoc]; exact hc i 6 _ hi (by omega) rfl

/-- between two rounds: the calls so far in a row of the law's own -/
structure DN (n0 : Nat) (w : World) (ops : List Value) (dv : Value) (k : Nat) (wr : World) : Prop where
  low : Below n0 w wr
  sz : n0 ≤ wr.heap.size
  own : wr.ownsRow n0 32 7 dv k ops

/-- within a round -/
structure DK (n0 : Nat) (w : World) (s : List UInt8) (ops : List Value) (g cap k q p : Nat) (wr : World) : Prop where
  dn : DN n0 w ops (.slice (some ⟨g, 0, none⟩) k cap) k wr
  q0 : n0 ≤ q
  p0 : n0 ≤ p
  gq : g ≠ q
  gp : g ≠ p
  gl : g < wr.heap.size
  ag : ∃ v l E S F, AG s wr q p v l E S F ∧ some g ≠ v.ownBlock
end Go.Proofs.YtlkhgnjljdbhnabDoor
namespace Go.Proofs.YtlkhgnjljdbhnabDoor
open Go.RowKit
theorem DN.start {w w1 : World} (h : Below w.heap.size w w1) (x : Obj) : DN w.heap.size w [] (.slice none 0 0) 0 (w1.alloc x) :=
  ⟨h.alloc h.size _, by simp; have := h.size; omega, World.ownsRow_nil _ _ _ _⟩

theorem slice_to (w : World) (s : ByteArray) (h : Int) (h0 : 0 ≤ h) (h2 : h ≤ (s.size : Int)) :
    (Instr.slice 9 (.string s) none (some (.int .i64 h)) none).run Tryd.prog w = .ok (.string (s.extract 0 h.toNat)) w := by
  have hu := Tryd.underlying9
  simp [go_sem, h0, h2]
theorem slice_front (w : World) (s l : List UInt8) (S : ByteArray) (h : S.data.toList ++ l = s) : (Instr.slice 9 (.string ⟨s.toArray⟩) none (some (.int .i64 ((s.length : Int) - (l.length : Int)))) none).run Tryd.prog w = .ok (.string S) w := by
  have hl : S.size + l.length = s.length := by have h9 := congrArg List.length h; rwa [List.length_append, size_list] at h9
  rw [slice_to w _ _ (by omega) (by rw [Bs_size s]; omega), show ((s.length : Int) - (l.length : Int)).toNat = S.size by omega, Bs_extract]
  have e : (s.drop 0).take (S.size - 0) = S.data.toList := by
    rw [List.drop_zero, Nat.sub_zero, ← h, List.take_left' (size_list S)]
  rw [e]

theorem info32_ex : ∃ i : TypeInfo, Tryd.prog.info? 32 = some i ∧ i.zero = some (.agg #[.int .i64 0, .int .i64 0, .int .i64 0, .bool false, .string ⟨#[]⟩, .int .u32 0, .int .u64 0]) ∧ i.size = 7 ∧ i.bytes = 64 :=
  ⟨(Tryd.prog.info? 32).getD default, by kernel_rfl, by kernel_rfl, by kernel_rfl, by kernel_rfl⟩

/-- a round begins: a Writer, a Reader, one call more in the row -/
theorem DN.round {n0 : Nat} {w wr w4 : World} {s : List UInt8} {ops : List Value} {dv : Value} {k g cap : Nat} (h : DN n0 w ops dv k wr) (x : Obj) (news : List Value)
    (ho : w4.ownsRow n0 32 7 (.slice (some ⟨g, 0, none⟩) (k + 1) cap) (k + 1) (ops ++ news))
    (hg : (((wr.alloc (.cells #[.int .i64 (s.length : Int), .slice none 0 0, .nilIface] 58)).alloc (.cells #[.string ⟨s.toArray⟩, .nilIface] 67)).alloc x).grownBy w4 dv.ownBlock)
    (hat : dv.ownBlock = some g ∨ g = (((wr.alloc (.cells #[.int .i64 (s.length : Int), .slice none 0 0, .nilIface] 58)).alloc (.cells #[.string ⟨s.toArray⟩, .nilIface] 67)).alloc x).heap.size) (hlt : g < w4.heap.size) :
    DK n0 w s (ops ++ news) g cap (k + 1) (wr.heap.size + 1) wr.heap.size w4 := by
  have hsz := h.sz
  have hd : ∀ j, dv.ownBlock = some j → n0 ≤ j ∧ j < wr.heap.size := fun j hj => h.own.lt j hj
  have hb : ∀ j, j < wr.heap.size + 3 → (wr.heap.size ≤ j) → w4.heap[j]? = (((wr.alloc (.cells #[.int .i64 (s.length : Int), .slice none 0 0, .nilIface] 58)).alloc (.cells #[.string ⟨s.toArray⟩, .nilIface] 67)).alloc x).heap[j]? := fun j hj hj2 =>
    hg.block j (by simp; omega) (fun e => by have := (hd j e.symm).2; omega)
  have hb1 : ∀ j, j < wr.heap.size + 2 → (wr.heap.size ≤ j) → w4.heap[j]? = ((wr.alloc (.cells #[.int .i64 (s.length : Int), .slice none 0 0, .nilIface] 58)).alloc (.cells #[.string ⟨s.toArray⟩, .nilIface] 67)).heap[j]? := fun j hj hj2 =>
    (hb j (by omega) hj2).trans (Below.heap_alloc _ _ _ (by simp; omega))
  have hB : Below n0 w (((wr.alloc (.cells #[.int .i64 (s.length : Int), .slice none 0 0, .nilIface] 58)).alloc (.cells #[.string ⟨s.toArray⟩, .nilIface] 67)).alloc x) :=
    ((h.low.alloc hsz _).alloc (by simp; omega) _).alloc (by simp; omega) _
  have hR := RR.new s (wr.alloc (.cells #[.int .i64 (s.length : Int), .slice none 0 0, .nilIface] 58))
  have hq : (wr.alloc (.cells #[.int .i64 (s.length : Int), .slice none 0 0, .nilIface] 58)).heap.size = wr.heap.size + 1 := by simp
  rw [hq] at hR
  have hP0 := PW.new (s.length : Int) wr
  rw [Int.max_eq_left (by omega)] at hP0
  have hP := hP0.below (((Below.refl _ _).alloc (Nat.le_refl _) (.cells #[.string ⟨s.toArray⟩, .nilIface] 67)))
  have hgs := hg.size
  simp at hgs
  refine ⟨⟨Below.grown hB hg (by simp; omega) (fun j hj => (hd j hj).1), by omega, ho⟩, by omega, hsz, ?_, ?_, hlt, .slice none 0 0, s, 0, ⟨#[]⟩, 0, ⟨⟨?_, ?_, ?_, ?_⟩, hP.of_blocks (hb1 wr.heap.size (by omega) (Nat.le_refl _)) (fun j hj => by cases hj), by omega, by simp [Value.ownBlock], Nat.zero_le _, Nat.le_refl _, fun _ => ⟨rfl, by simp⟩⟩, by simp [Value.ownBlock]⟩
  · rcases hat with e | e
    · have := (hd g e).2; omega
    · simp at e; omega
  · rcases hat with e | e
    · have := (hd g e).2; omega
    · simp at e; omega
  · exact (cells_same (hb1 (wr.heap.size + 1) (by omega) (by omega)) 0).1.trans hR.l
  · exact (cells_same (hb1 (wr.heap.size + 1) (by omega) (by omega)) 1).1.trans hR.e
  · exact (cells_same (hb1 (wr.heap.size + 1) (by omega) (by omega)) 0).2.trans hR.f0
  · exact (cells_same (hb1 (wr.heap.size + 1) (by omega) (by omega)) 1).2.trans hR.f1

/-- one call more of both -/
theorem DK.step {n0 : Nat} {w wr : World} {s : List UInt8} {ops : List Value} {g cap k q p : Nat} (h : DK n0 w s ops g cap k q p wr) {K N MM : Int} {o : Bool} {t : ByteArray} {a b : Nat} (ha : AgainAs s K N MM o t a b) :
    Calls Tryd.prog 15 #[.pointer (some ⟨q, 0, none⟩), .pointer (some ⟨p, 0, none⟩), opcV K N MM o t a b] wr fun e w' => e = .returned (.tuple #[]) ∧ DK n0 w s ops g cap k q p w' := by
  obtain ⟨v, l, E, S, F, hA, hgv⟩ := h.ag
  refine (ha wr q p v l E S F hA).mono ?_
  rintro e w' ⟨rfl, v', l', E', S', F', hA', kb⟩
  have hgl := h.gl
  have hsz := h.dn.sz
  have hgb : w'.heap[g]? = wr.heap[g]? := kb.block g hgl h.gp h.gq hgv
  refine ⟨rfl, ⟨⟨⟨kb.os.trans h.dn.low.os, kb.tape.trans h.dn.low.tape, kb.output.trans h.dn.low.output, Nat.le_trans h.dn.low.size kb.size, fun i hi => ?_⟩, Nat.le_trans hsz kb.size, ownsRow_of_block h.dn.own (fun j hj => ?_)⟩, h.q0, h.p0, h.gq, h.gp, Nat.lt_of_lt_of_le hgl kb.size, v', l', E', S', F', hA', ?_⟩⟩
  · have hp := h.p0
    have hq := h.q0
    exact (kb.block i (by omega) (by omega) (by omega) (fun e => by have := (hA.pw.own.lt i e.symm).1; omega)).trans (h.dn.low.block i hi)
  · have : g = j := by simpa [Value.ownBlock] using hj
    subst this
    exact hgb
  · rcases kb.row with e | ⟨j, hj, e⟩
    · rw [e]; exact hgv
    · rw [e]; intro e2; cases e2; omega

/-- behind the calls: both, and what else stays -/
structure PH (n0 : Nat) (w : World) (s : List UInt8) (q p : Nat) (v : Value) (l : List UInt8) (E : Int) (S : ByteArray) (F : Int) (dv : Value) (ops : List Value) (k : Nat) (wx : World) : Prop where
  dn : DN n0 w ops dv k wx
  q0 : n0 ≤ q
  dq : dv.ownBlock ≠ some q
  ag : AG s wx q p v l E S F

theorem DK.ph {n0 : Nat} {w wr : World} {s : List UInt8} {ops : List Value} {g cap k q p : Nat} (h : DK n0 w s ops g cap k q p wr) : ∃ v l E S F, PH n0 w s q p v l E S F (.slice (some ⟨g, 0, none⟩) k cap) ops k wr := by
  obtain ⟨v, l, E, S, F, hA, hgv⟩ := h.ag
  exact ⟨v, l, E, S, F, ⟨h.dn, h.q0, by simp [Value.ownBlock]; exact h.gq, hA⟩⟩
theorem PH.sole {n0 : Nat} {w : World} {s : List UInt8} {q p : Nat} {v : Value} {l : List UInt8} {E : Int} {S : ByteArray} {F : Int} {dv : Value} {ops : List Value} {k : Nat} {wx wy : World} (h : PH n0 w s q p v l E S F dv ops k wx) (k2 : Sole q wx wy) (hR : RR wy q l E) : PH n0 w s q p v l E S F dv ops k wy :=
  ⟨⟨sole_below h.dn.low h.dn.sz k2 h.q0, Nat.le_trans h.dn.sz k2.size, ownsRow_of_block h.dn.own (fun j hj => k2.block j (h.dn.own.lt j hj).2 (fun e => h.dq (by rw [hj, e])))⟩, h.q0, h.dq,
   ⟨hR, h.ag.pw.only k2.only (fun e => h.ag.qp e.symm) h.ag.qv, h.ag.qp, h.ag.qv, h.ag.sz, h.ag.ll, h.ag.ok⟩⟩
theorem PH.below {n0 : Nat} {w : World} {s : List UInt8} {q p : Nat} {v : Value} {l : List UInt8} {E : Int} {S : ByteArray} {F : Int} {dv : Value} {ops : List Value} {k : Nat} {wx wy : World} (h : PH n0 w s q p v l E S F dv ops k wx) (hB : Below wx.heap.size wx wy) : PH n0 w s q p v l E S F dv ops k wy :=
  h.sole (Sole.of_below hB) (h.ag.rr.below hB)
theorem PH.err {w : World} {s : List UInt8} {q p : Nat} {v : Value} {l : List UInt8} {E : Int} {S : ByteArray} {F : Int} {dv : Value} {ops : List Value} {k : Nat} {wx : World} (h : PH w.heap.size w s q p v l E S F dv ops k wx) (hE : ErrT w) : ErrT wx := hE.below h.dn.low

theorem PH.wrong {w : World} {s : List UInt8} {q p : Nat} {v : Value} {l : List UInt8} {E : Int} {S : ByteArray} {F : Int} {dv : Value} {ops : List Value} {k : Nat} {wx : World} (h : PH w.heap.size w s q p v l E S F dv ops k wx) (hE : ErrT w) :
    Calls Tryd.prog 16 #[.pointer (some ⟨q, 0, none⟩)] wx fun e w' => e = .returned (.int .i64 E) ∧ PH w.heap.size w s q p v l E S F dv ops k w' :=
  (rwrong_any q l E wx h.ag.rr (h.err hE)).mono fun _ _ hp => ⟨hp.1, h.below hp.2⟩
theorem PH.left {n0 : Nat} {w : World} {s : List UInt8} {q p : Nat} {v : Value} {l : List UInt8} {E : Int} {S : ByteArray} {F : Int} {dv : Value} {ops : List Value} {k : Nat} {wx : World} (h : PH n0 w s q p v l E S F dv ops k wx) :
    Calls Tryd.prog 17 #[.pointer (some ⟨q, 0, none⟩)] wx fun e w' => e = .returned (.int .i64 (l.length : Int)) ∧ PH n0 w s q p v l E S F dv ops k w' :=
  (rleft_any q _ wx h.ag.rr.l).mono fun _ _ hp => ⟨by rw [hp.1, Bs_size], by rw [hp.2]; exact h⟩
theorem PH.done {w : World} {s : List UInt8} {q p : Nat} {v : Value} {l : List UInt8} {E : Int} {S : ByteArray} {F : Int} {dv : Value} {ops : List Value} {k : Nat} {wx : World} (h : PH w.heap.size w s q p v l E S F dv ops k wx) (hE : ErrT w) (h0 : E ≠ 0) :
    Calls Tryd.prog 14 #[.pointer (some ⟨q, 0, none⟩)] wx fun e w' => e = .returned (.int .i64 E) ∧ PH w.heap.size w s q p v l E S F dv ops k w' :=
  (rdone_rd q l E wx h.ag.rr (h.err hE)).mono fun _ _ hp => ⟨by rw [hp.1]; unfold rdDone; rw [if_neg (fun c => h0 c.1)], h.below hp.2⟩
theorem go_was {α : Type} (l : List UInt8) (E : Int) (d : α) (f : List UInt8 → Rd α) (h0 : E ≠ 0) : (⟨l, E⟩ : Rs).go d f = (d, ⟨l, E⟩) := by
  unfold Rs.go; rw [if_pos h0]
theorem PH.int {n0 : Nat} {w : World} {s : List UInt8} {q p : Nat} {v : Value} {l : List UInt8} {E : Int} {S : ByteArray} {F : Int} {dv : Value} {ops : List Value} {k : Nat} {wx : World} (h : PH n0 w s q p v l E S F dv ops k wx) (h0 : E ≠ 0) :
    Calls Tryd.prog 18 #[.pointer (some ⟨q, 0, none⟩)] wx fun e w' => e = .returned (.int .i64 0) ∧ PH n0 w s q p v l E S F dv ops k w' :=
  (rint_any q l E wx h.ag.rr).mono fun e w' hp => by
    unfold RPost at hp
    rw [go_was l E 0 rdWord h0] at hp
    exact ⟨hp.1, h.sole hp.2.2 hp.2.1⟩
theorem PH.rest {n0 : Nat} {w : World} {s : List UInt8} {q p : Nat} {v : Value} {l : List UInt8} {E : Int} {S : ByteArray} {F : Int} {dv : Value} {ops : List Value} {k : Nat} {wx : World} (h : PH n0 w s q p v l E S F dv ops k wx) (h0 : E ≠ 0) (hs : s.length ≤ 2147483647) :
    Calls Tryd.prog 19 #[.pointer (some ⟨q, 0, none⟩)] wx fun e w' => e = .returned (.string ⟨#[]⟩) ∧ PH n0 w s q p v l E S F dv ops k w' :=
  (rrest_any q l E wx h.ag.rr (by have := h.ag.ll; omega)).mono fun e w' hp => by
    unfold RPost at hp
    rw [go_was l E [] rdRest h0] at hp
    exact ⟨hp.1, h.sole hp.2.2 hp.2.1⟩
theorem PH.wdone {w : World} {s : List UInt8} {q p : Nat} {v : Value} {l : List UInt8} {E : Int} {S : ByteArray} {F : Int} {dv : Value} {ops : List Value} {k : Nat} {wx : World} (h : PH w.heap.size w s q p v l E S F dv ops k wx) (hE : ErrT w) (h0 : F = 0) :
    Calls Tryd.prog 10 #[.pointer (some ⟨p, 0, none⟩)] wx fun e w' => e = .returned (.tuple #[.string S, .int .i64 0]) ∧ PH w.heap.size w s q p v l E S F dv ops k w' :=
  (pdone_any p v s.length F S wx h.ag.pw (h.err hE)).mono fun e w' hp => by
    rw [if_pos h0, h0] at hp
    exact ⟨hp.1, h.below hp.2⟩
end Go.Proofs.YtlkhgnjljdbhnabDoor
