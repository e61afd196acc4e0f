/- The client: what a reply says. The client: Hear. The client: Waiting; rows of numbers; two rows compared. ClientOnce, plainly: the book of what was issued, and the calls that wait. ClientOnce, plainly: what each step does to the book. ClientOnce: the book in memory; of. -/
import Derived.Test.YtfcbjcebkahehaaGreatDoorZbp
import Derived.Test.YtfcbjcebkahehaaGreatDoorZbs
import Derived.Test.YtfcbjcebkahehaaGreatDoorZbr
namespace Go.Proofs.YtfcbjcebkahehaaGreatDoor.Cl
open Go.RowKit
/-- what a reply says, as an outcome -/
def outOf (r : ReplyP) : Oc := if r.denied then ⟨0, 5, 0, r.reject, r.why, r.low, r.high, [], 0⟩ else if r.accept = 0 then ⟨0, 1, 0, 0, 0, 0, 0, r.results, 0⟩ else if r.accept = 5 then ⟨0, 3, 0, 0, 0, 0, 0, [], 0⟩ else ⟨0, 4, r.accept, 0, 0, r.low, r.high, [], 0⟩
theorem bld80_den (rej : Int) (why : Int) (low : Int) (high : Int) (w : World) : (Instr.build 80 #[(1, .int .i64 5), (3, .int .i64 rej), (4, .int .i64 why), (5, .int .i64 low), (6, .int .i64 high)]).run Tryz.prog w = .ok (.agg #[.int .i64 0, .int .i64 5, .int .i64 0, .int .i64 rej, .int .i64 why, .int .i64 low, .int .i64 high, .string ⟨#[]⟩, .int .i64 0]) w := by kernel_rfl
theorem bld80_suc (res : ByteArray) (w : World) : (Instr.build 80 #[(1, .int .i64 1), (7, .string res)]).run Tryz.prog w = .ok (.agg #[.int .i64 0, .int .i64 1, .int .i64 0, .int .i64 0, .int .i64 0, .int .i64 0, .int .i64 0, .string res, .int .i64 0]) w := by kernel_rfl
theorem bld80_ref (w : World) : (Instr.build 80 #[(1, .int .i64 3)]).run Tryz.prog w = .ok (.agg #[.int .i64 0, .int .i64 3, .int .i64 0, .int .i64 0, .int .i64 0, .int .i64 0, .int .i64 0, .string ⟨#[]⟩, .int .i64 0]) w := by kernel_rfl
theorem bld80_acc (low : Int) (high : Int) (acc : Int) (w : World) : (Instr.build 80 #[(1, .int .i64 4), (2, .int .i64 acc), (5, .int .i64 low), (6, .int .i64 high)]).run Tryz.prog w = .ok (.agg #[.int .i64 0, .int .i64 4, .int .i64 acc, .int .i64 0, .int .i64 0, .int .i64 low, .int .i64 high, .string ⟨#[]⟩, .int .i64 0]) w := by kernel_rfl
theorem outcome_den (xid fl acc rej why low high : Int) (dn : Bool) (bo res : ByteArray) (w : World) (h0 : dn = true) :
    Calls Tryz.prog 87 #[.agg #[.int .i64 xid, .bool dn, .int .i64 fl, .string bo, .int .i64 acc, .int .i64 rej, .int .i64 why, .int .i64 low, .int .i64 high, .string res]] w fun e w' => e = .returned (.agg #[.int .i64 0, .int .i64 5, .int .i64 0, .int .i64 rej, .int .i64 why, .int .i64 low, .int .i64 high, .string ⟨#[]⟩, .int .i64 0]) ∧ Below w.heap.size w w' := by
  subst h0
  obtain ⟨S1, hS1⟩ : ∃ y, w.heap.size = y := ⟨_, rfl⟩
  obtain ⟨w1, hw1⟩ : ∃ y, w.alloc (.cells #[.int .i64 xid, .bool true, .int .i64 fl, .string bo, .int .i64 acc, .int .i64 rej, .int .i64 why, .int .i64 low, .int .i64 high, .string res] 46) = y := ⟨_, rfl⟩
  have B1 : Below w.heap.size w w1 := by rw [← hw1]; exact (Below.refl _ _).alloc (Nat.le_refl _) _
  have k1 : w1.heap[S1]? = some (.cells #[.int .i64 xid, .bool true, .int .i64 fl, .string bo, .int .i64 acc, .int .i64 rej, .int .i64 why, .int .i64 low, .int .i64 high, .string res] 46) := by rw [← hw1, ← hS1]; exact (MapKept.heap_alloc w _).1
  obtain ⟨S2, hS2⟩ : ∃ y, w1.heap.size = y := ⟨_, rfl⟩
  obtain ⟨w2, hw2⟩ : ∃ y, w1.alloc (.cells #[.int .i64 0, .int .i64 0, .int .i64 0, .int .i64 0, .int .i64 0, .int .i64 0, .int .i64 0, .string ⟨#[]⟩, .int .i64 0] 80) = y := ⟨_, rfl⟩
  have B2 : Below w.heap.size w w2 := by rw [← hw2]; exact B1.alloc B1.size _
  have k2 : w2.heap[S2]? = some (.cells #[.int .i64 0, .int .i64 0, .int .i64 0, .int .i64 0, .int .i64 0, .int .i64 0, .int .i64 0, .string ⟨#[]⟩, .int .i64 0] 80) := by rw [← hw2, ← hS2]; exact (MapKept.heap_alloc w1 _).1
  have hlt1 : S1 < S2 := by rw [← hS2]; exact (Array.getElem?_eq_some_iff.1 k1).1
  have k21 : w2.heap[S1]? = some (.cells #[.int .i64 xid, .bool true, .int .i64 fl, .string bo, .int .i64 acc, .int .i64 rej, .int .i64 why, .int .i64 low, .int .i64 high, .string res] 46) := by rw [← hw2]; exact (Below.heap_alloc _ _ _ (by omega)).trans k1
  have hleS : w.heap.size ≤ S2 := by omega
  have a1 : w2.cell? ⟨S1, 1, none⟩ = some (.bool true) := cell_at k21 rfl
  have a4 : w2.cell? ⟨S1, 4, none⟩ = some (.int .i64 acc) := cell_at k21 rfl
  have a5 : w2.cell? ⟨S1, 5, none⟩ = some (.int .i64 rej) := cell_at k21 rfl
  have a6 : w2.cell? ⟨S1, 6, none⟩ = some (.int .i64 why) := cell_at k21 rfl
  have a7 : w2.cell? ⟨S1, 7, none⟩ = some (.int .i64 low) := cell_at k21 rfl
  have a8 : w2.cell? ⟨S1, 8, none⟩ = some (.int .i64 high) := cell_at k21 rfl
  have a9 : w2.cell? ⟨S1, 9, none⟩ = some (.string res) := cell_at k21 rfl
  obtain ⟨v1, hv1⟩ : ∃ y, w2.setCell ⟨S2, 0, none⟩ (.int .i64 0) = y := ⟨_, rfl⟩
  have z0 : w2.cell? ⟨S2, 0, none⟩ = some (.int .i64 0) := cell_at k2 rfl
  have f0 : w2.frozen? ⟨S2, 0, none⟩ = false := frozen_at k2 0
  have kv1 : v1.heap[S2]? = some (.cells #[.int .i64 0, .int .i64 0, .int .i64 0, .int .i64 0, .int .i64 0, .int .i64 0, .int .i64 0, .string ⟨#[]⟩, .int .i64 0] 80) := by rw [← hv1]; exact set_at k2 0 _
  have Bv1 : Below w.heap.size w v1 := by rw [← hv1]; exact below_set B2 hleS
  obtain ⟨v2, hv2⟩ : ∃ y, v1.setCell ⟨S2, 1, none⟩ (.int .i64 5) = y := ⟨_, rfl⟩
  have z1 : v1.cell? ⟨S2, 1, none⟩ = some (.int .i64 0) := cell_at kv1 rfl
  have f1 : v1.frozen? ⟨S2, 1, none⟩ = false := frozen_at kv1 1
  have kv2 : v2.heap[S2]? = some (.cells #[.int .i64 0, .int .i64 5, .int .i64 0, .int .i64 0, .int .i64 0, .int .i64 0, .int .i64 0, .string ⟨#[]⟩, .int .i64 0] 80) := by rw [← hv2]; exact set_at kv1 1 _
  have Bv2 : Below w.heap.size w v2 := by rw [← hv2]; exact below_set Bv1 hleS
  clear kv1 Bv1
  obtain ⟨v3, hv3⟩ : ∃ y, v2.setCell ⟨S2, 2, none⟩ (.int .i64 0) = y := ⟨_, rfl⟩
  have z2 : v2.cell? ⟨S2, 2, none⟩ = some (.int .i64 0) := cell_at kv2 rfl
  have f2 : v2.frozen? ⟨S2, 2, none⟩ = false := frozen_at kv2 2
  have kv3 : v3.heap[S2]? = some (.cells #[.int .i64 0, .int .i64 5, .int .i64 0, .int .i64 0, .int .i64 0, .int .i64 0, .int .i64 0, .string ⟨#[]⟩, .int .i64 0] 80) := by rw [← hv3]; exact set_at kv2 2 _
  have Bv3 : Below w.heap.size w v3 := by rw [← hv3]; exact below_set Bv2 hleS
  clear kv2 Bv2
  obtain ⟨v4, hv4⟩ : ∃ y, v3.setCell ⟨S2, 3, none⟩ (.int .i64 rej) = y := ⟨_, rfl⟩
  have z3 : v3.cell? ⟨S2, 3, none⟩ = some (.int .i64 0) := cell_at kv3 rfl
  have f3 : v3.frozen? ⟨S2, 3, none⟩ = false := frozen_at kv3 3
  have kv4 : v4.heap[S2]? = some (.cells #[.int .i64 0, .int .i64 5, .int .i64 0, .int .i64 rej, .int .i64 0, .int .i64 0, .int .i64 0, .string ⟨#[]⟩, .int .i64 0] 80) := by rw [← hv4]; exact set_at kv3 3 _
  have Bv4 : Below w.heap.size w v4 := by rw [← hv4]; exact below_set Bv3 hleS
  clear kv3 Bv3
  obtain ⟨v5, hv5⟩ : ∃ y, v4.setCell ⟨S2, 4, none⟩ (.int .i64 why) = y := ⟨_, rfl⟩
  have z4 : v4.cell? ⟨S2, 4, none⟩ = some (.int .i64 0) := cell_at kv4 rfl
  have f4 : v4.frozen? ⟨S2, 4, none⟩ = false := frozen_at kv4 4
  have kv5 : v5.heap[S2]? = some (.cells #[.int .i64 0, .int .i64 5, .int .i64 0, .int .i64 rej, .int .i64 why, .int .i64 0, .int .i64 0, .string ⟨#[]⟩, .int .i64 0] 80) := by rw [← hv5]; exact set_at kv4 4 _
  have Bv5 : Below w.heap.size w v5 := by rw [← hv5]; exact below_set Bv4 hleS
  clear kv4 Bv4
  obtain ⟨v6, hv6⟩ : ∃ y, v5.setCell ⟨S2, 5, none⟩ (.int .i64 low) = y := ⟨_, rfl⟩
  have z5 : v5.cell? ⟨S2, 5, none⟩ = some (.int .i64 0) := cell_at kv5 rfl
  have f5 : v5.frozen? ⟨S2, 5, none⟩ = false := frozen_at kv5 5
  have kv6 : v6.heap[S2]? = some (.cells #[.int .i64 0, .int .i64 5, .int .i64 0, .int .i64 rej, .int .i64 why, .int .i64 low, .int .i64 0, .string ⟨#[]⟩, .int .i64 0] 80) := by rw [← hv6]; exact set_at kv5 5 _
  have Bv6 : Below w.heap.size w v6 := by rw [← hv6]; exact below_set Bv5 hleS
  clear kv5 Bv5
  obtain ⟨v7, hv7⟩ : ∃ y, v6.setCell ⟨S2, 6, none⟩ (.int .i64 high) = y := ⟨_, rfl⟩
  have z6 : v6.cell? ⟨S2, 6, none⟩ = some (.int .i64 0) := cell_at kv6 rfl
  have f6 : v6.frozen? ⟨S2, 6, none⟩ = false := frozen_at kv6 6
  have kv7 : v7.heap[S2]? = some (.cells #[.int .i64 0, .int .i64 5, .int .i64 0, .int .i64 rej, .int .i64 why, .int .i64 low, .int .i64 high, .string ⟨#[]⟩, .int .i64 0] 80) := by rw [← hv7]; exact set_at kv6 6 _
  have Bv7 : Below w.heap.size w v7 := by rw [← hv7]; exact below_set Bv6 hleS
  clear kv6 Bv6
  obtain ⟨v8, hv8⟩ : ∃ y, v7.setCell ⟨S2, 7, none⟩ (.string ⟨#[]⟩) = y := ⟨_, rfl⟩
  have z7 : v7.cell? ⟨S2, 7, none⟩ = some (.string ⟨#[]⟩) := cell_at kv7 rfl
  have f7 : v7.frozen? ⟨S2, 7, none⟩ = false := frozen_at kv7 7
  have kv8 : v8.heap[S2]? = some (.cells #[.int .i64 0, .int .i64 5, .int .i64 0, .int .i64 rej, .int .i64 why, .int .i64 low, .int .i64 high, .string ⟨#[]⟩, .int .i64 0] 80) := by rw [← hv8]; exact set_at kv7 7 _
  have Bv8 : Below w.heap.size w v8 := by rw [← hv8]; exact below_set Bv7 hleS
  clear kv7 Bv7
  obtain ⟨v9, hv9⟩ : ∃ y, v8.setCell ⟨S2, 8, none⟩ (.int .i64 0) = y := ⟨_, rfl⟩
  have z8 : v8.cell? ⟨S2, 8, none⟩ = some (.int .i64 0) := cell_at kv8 rfl
  have f8 : v8.frozen? ⟨S2, 8, none⟩ = false := frozen_at kv8 8
  have kv9 : v9.heap[S2]? = some (.cells #[.int .i64 0, .int .i64 5, .int .i64 0, .int .i64 rej, .int .i64 why, .int .i64 low, .int .i64 high, .string ⟨#[]⟩, .int .i64 0] 80) := by rw [← hv9]; exact set_at kv8 8 _
  have Bv9 : Below w.heap.size w v9 := by rw [← hv9]; exact below_set Bv8 hleS
  clear kv8 Bv8
  have q0 : v9.cell? ⟨S2, 0, none⟩ = some (.int .i64 0) := cell_at kv9 rfl
  have q1 : v9.cell? ⟨S2, 1, none⟩ = some (.int .i64 5) := cell_at kv9 rfl
  have q2 : v9.cell? ⟨S2, 2, none⟩ = some (.int .i64 0) := cell_at kv9 rfl
  have q3 : v9.cell? ⟨S2, 3, none⟩ = some (.int .i64 rej) := cell_at kv9 rfl
  have q4 : v9.cell? ⟨S2, 4, none⟩ = some (.int .i64 why) := cell_at kv9 rfl
  have q5 : v9.cell? ⟨S2, 5, none⟩ = some (.int .i64 low) := cell_at kv9 rfl
  have q6 : v9.cell? ⟨S2, 6, none⟩ = some (.int .i64 high) := cell_at kv9 rfl
  have q7 : v9.cell? ⟨S2, 7, none⟩ = some (.string ⟨#[]⟩) := cell_at kv9 rfl
  have q8 : v9.cell? ⟨S2, 8, none⟩ = some (.int .i64 0) := cell_at kv9 rfl
  have HB := hid Bv9
  have hb := fun w => bld80_den rej why low high w
  clear kv9 Bv9 k2 B2 k1 B1 k21 hlt1 hleS
  go_enter Tryz.func87, Tryz.ntmps87
  go_wp2
  refine bodyPost_ret (v := .agg #[.int .i64 0, .int .i64 5, .int .i64 0, .int .i64 rej, .int .i64 why, .int .i64 low, .int .i64 high, .string ⟨#[]⟩, .int .i64 0]) (by simp [results, Tryz.results87, go_sem, q0, q1, q2, q3, q4, q5, q6, q7, q8]) rfl ?_
  exact ⟨rfl, HB.out⟩
theorem outcome_suc (xid fl acc rej why low high : Int) (dn : Bool) (bo res : ByteArray) (w : World) (h0 : dn = false) (h1 : acc = 0) :
    Calls Tryz.prog 87 #[.agg #[.int .i64 xid, .bool dn, .int .i64 fl, .string bo, .int .i64 acc, .int .i64 rej, .int .i64 why, .int .i64 low, .int .i64 high, .string res]] w fun e w' => e = .returned (.agg #[.int .i64 0, .int .i64 1, .int .i64 0, .int .i64 0, .int .i64 0, .int .i64 0, .int .i64 0, .string res, .int .i64 0]) ∧ Below w.heap.size w w' := by
  subst h0 h1
  obtain ⟨S1, hS1⟩ : ∃ y, w.heap.size = y := ⟨_, rfl⟩
  obtain ⟨w1, hw1⟩ : ∃ y, w.alloc (.cells #[.int .i64 xid, .bool false, .int .i64 fl, .string bo, .int .i64 0, .int .i64 rej, .int .i64 why, .int .i64 low, .int .i64 high, .string res] 46) = y := ⟨_, rfl⟩
  have B1 : Below w.heap.size w w1 := by rw [← hw1]; exact (Below.refl _ _).alloc (Nat.le_refl _) _
  have k1 : w1.heap[S1]? = some (.cells #[.int .i64 xid, .bool false, .int .i64 fl, .string bo, .int .i64 0, .int .i64 rej, .int .i64 why, .int .i64 low, .int .i64 high, .string res] 46) := by rw [← hw1, ← hS1]; exact (MapKept.heap_alloc w _).1
  obtain ⟨S2, hS2⟩ : ∃ y, w1.heap.size = y := ⟨_, rfl⟩
  obtain ⟨w2, hw2⟩ : ∃ y, w1.alloc (.cells #[.int .i64 0, .int .i64 0, .int .i64 0, .int .i64 0, .int .i64 0, .int .i64 0, .int .i64 0, .string ⟨#[]⟩, .int .i64 0] 80) = y := ⟨_, rfl⟩
  have B2 : Below w.heap.size w w2 := by rw [← hw2]; exact B1.alloc B1.size _
  have k2 : w2.heap[S2]? = some (.cells #[.int .i64 0, .int .i64 0, .int .i64 0, .int .i64 0, .int .i64 0, .int .i64 0, .int .i64 0, .string ⟨#[]⟩, .int .i64 0] 80) := by rw [← hw2, ← hS2]; exact (MapKept.heap_alloc w1 _).1
  have hlt1 : S1 < S2 := by rw [← hS2]; exact (Array.getElem?_eq_some_iff.1 k1).1
  have k21 : w2.heap[S1]? = some (.cells #[.int .i64 xid, .bool false, .int .i64 fl, .string bo, .int .i64 0, .int .i64 rej, .int .i64 why, .int .i64 low, .int .i64 high, .string res] 46) := by rw [← hw2]; exact (Below.heap_alloc _ _ _ (by omega)).trans k1
  have hleS : w.heap.size ≤ S2 := by omega
  have a1 : w2.cell? ⟨S1, 1, none⟩ = some (.bool false) := cell_at k21 rfl
  have a4 : w2.cell? ⟨S1, 4, none⟩ = some (.int .i64 0) := cell_at k21 rfl
  have a5 : w2.cell? ⟨S1, 5, none⟩ = some (.int .i64 rej) := cell_at k21 rfl
  have a6 : w2.cell? ⟨S1, 6, none⟩ = some (.int .i64 why) := cell_at k21 rfl
  have a7 : w2.cell? ⟨S1, 7, none⟩ = some (.int .i64 low) := cell_at k21 rfl
  have a8 : w2.cell? ⟨S1, 8, none⟩ = some (.int .i64 high) := cell_at k21 rfl
  have a9 : w2.cell? ⟨S1, 9, none⟩ = some (.string res) := cell_at k21 rfl
  obtain ⟨v1, hv1⟩ : ∃ y, w2.setCell ⟨S2, 0, none⟩ (.int .i64 0) = y := ⟨_, rfl⟩
  have z0 : w2.cell? ⟨S2, 0, none⟩ = some (.int .i64 0) := cell_at k2 rfl
  have f0 : w2.frozen? ⟨S2, 0, none⟩ = false := frozen_at k2 0
  have kv1 : v1.heap[S2]? = some (.cells #[.int .i64 0, .int .i64 0, .int .i64 0, .int .i64 0, .int .i64 0, .int .i64 0, .int .i64 0, .string ⟨#[]⟩, .int .i64 0] 80) := by rw [← hv1]; exact set_at k2 0 _
  have Bv1 : Below w.heap.size w v1 := by rw [← hv1]; exact below_set B2 hleS
  obtain ⟨v2, hv2⟩ : ∃ y, v1.setCell ⟨S2, 1, none⟩ (.int .i64 1) = y := ⟨_, rfl⟩
  have z1 : v1.cell? ⟨S2, 1, none⟩ = some (.int .i64 0) := cell_at kv1 rfl
  have f1 : v1.frozen? ⟨S2, 1, none⟩ = false := frozen_at kv1 1
  have kv2 : v2.heap[S2]? = some (.cells #[.int .i64 0, .int .i64 1, .int .i64 0, .int .i64 0, .int .i64 0, .int .i64 0, .int .i64 0, .string ⟨#[]⟩, .int .i64 0] 80) := by rw [← hv2]; exact set_at kv1 1 _
  have Bv2 : Below w.heap.size w v2 := by rw [← hv2]; exact below_set Bv1 hleS
  clear kv1 Bv1
  obtain ⟨v3, hv3⟩ : ∃ y, v2.setCell ⟨S2, 2, none⟩ (.int .i64 0) = y := ⟨_, rfl⟩
  have z2 : v2.cell? ⟨S2, 2, none⟩ = some (.int .i64 0) := cell_at kv2 rfl
  have f2 : v2.frozen? ⟨S2, 2, none⟩ = false := frozen_at kv2 2
  have kv3 : v3.heap[S2]? = some (.cells #[.int .i64 0, .int .i64 1, .int .i64 0, .int .i64 0, .int .i64 0, .int .i64 0, .int .i64 0, .string ⟨#[]⟩, .int .i64 0] 80) := by rw [← hv3]; exact set_at kv2 2 _
  have Bv3 : Below w.heap.size w v3 := by rw [← hv3]; exact below_set Bv2 hleS
  clear kv2 Bv2
  obtain ⟨v4, hv4⟩ : ∃ y, v3.setCell ⟨S2, 3, none⟩ (.int .i64 0) = y := ⟨_, rfl⟩
  have z3 : v3.cell? ⟨S2, 3, none⟩ = some (.int .i64 0) := cell_at kv3 rfl
  have f3 : v3.frozen? ⟨S2, 3, none⟩ = false := frozen_at kv3 3
  have kv4 : v4.heap[S2]? = some (.cells #[.int .i64 0, .int .i64 1, .int .i64 0, .int .i64 0, .int .i64 0, .int .i64 0, .int .i64 0, .string ⟨#[]⟩, .int .i64 0] 80) := by rw [← hv4]; exact set_at kv3 3 _
  have Bv4 : Below w.heap.size w v4 := by rw [← hv4]; exact below_set Bv3 hleS
  clear kv3 Bv3
  obtain ⟨v5, hv5⟩ : ∃ y, v4.setCell ⟨S2, 4, none⟩ (.int .i64 0) = y := ⟨_, rfl⟩
  have z4 : v4.cell? ⟨S2, 4, none⟩ = some (.int .i64 0) := cell_at kv4 rfl
  have f4 : v4.frozen? ⟨S2, 4, none⟩ = false := frozen_at kv4 4
  have kv5 : v5.heap[S2]? = some (.cells #[.int .i64 0, .int .i64 1, .int .i64 0, .int .i64 0, .int .i64 0, .int .i64 0, .int .i64 0, .string ⟨#[]⟩, .int .i64 0] 80) := by rw [← hv5]; exact set_at kv4 4 _
  have Bv5 : Below w.heap.size w v5 := by rw [← hv5]; exact below_set Bv4 hleS
  clear kv4 Bv4
  obtain ⟨v6, hv6⟩ : ∃ y, v5.setCell ⟨S2, 5, none⟩ (.int .i64 0) = y := ⟨_, rfl⟩
  have z5 : v5.cell? ⟨S2, 5, none⟩ = some (.int .i64 0) := cell_at kv5 rfl
  have f5 : v5.frozen? ⟨S2, 5, none⟩ = false := frozen_at kv5 5
  have kv6 : v6.heap[S2]? = some (.cells #[.int .i64 0, .int .i64 1, .int .i64 0, .int .i64 0, .int .i64 0, .int .i64 0, .int .i64 0, .string ⟨#[]⟩, .int .i64 0] 80) := by rw [← hv6]; exact set_at kv5 5 _
  have Bv6 : Below w.heap.size w v6 := by rw [← hv6]; exact below_set Bv5 hleS
  clear kv5 Bv5
  obtain ⟨v7, hv7⟩ : ∃ y, v6.setCell ⟨S2, 6, none⟩ (.int .i64 0) = y := ⟨_, rfl⟩
  have z6 : v6.cell? ⟨S2, 6, none⟩ = some (.int .i64 0) := cell_at kv6 rfl
  have f6 : v6.frozen? ⟨S2, 6, none⟩ = false := frozen_at kv6 6
  have kv7 : v7.heap[S2]? = some (.cells #[.int .i64 0, .int .i64 1, .int .i64 0, .int .i64 0, .int .i64 0, .int .i64 0, .int .i64 0, .string ⟨#[]⟩, .int .i64 0] 80) := by rw [← hv7]; exact set_at kv6 6 _
  have Bv7 : Below w.heap.size w v7 := by rw [← hv7]; exact below_set Bv6 hleS
  clear kv6 Bv6
  obtain ⟨v8, hv8⟩ : ∃ y, v7.setCell ⟨S2, 7, none⟩ (.string res) = y := ⟨_, rfl⟩
  have z7 : v7.cell? ⟨S2, 7, none⟩ = some (.string ⟨#[]⟩) := cell_at kv7 rfl
  have f7 : v7.frozen? ⟨S2, 7, none⟩ = false := frozen_at kv7 7
  have kv8 : v8.heap[S2]? = some (.cells #[.int .i64 0, .int .i64 1, .int .i64 0, .int .i64 0, .int .i64 0, .int .i64 0, .int .i64 0, .string res, .int .i64 0] 80) := by rw [← hv8]; exact set_at kv7 7 _
  have Bv8 : Below w.heap.size w v8 := by rw [← hv8]; exact below_set Bv7 hleS
  clear kv7 Bv7
  obtain ⟨v9, hv9⟩ : ∃ y, v8.setCell ⟨S2, 8, none⟩ (.int .i64 0) = y := ⟨_, rfl⟩
  have z8 : v8.cell? ⟨S2, 8, none⟩ = some (.int .i64 0) := cell_at kv8 rfl
  have f8 : v8.frozen? ⟨S2, 8, none⟩ = false := frozen_at kv8 8
  have kv9 : v9.heap[S2]? = some (.cells #[.int .i64 0, .int .i64 1, .int .i64 0, .int .i64 0, .int .i64 0, .int .i64 0, .int .i64 0, .string res, .int .i64 0] 80) := by rw [← hv9]; exact set_at kv8 8 _
  have Bv9 : Below w.heap.size w v9 := by rw [← hv9]; exact below_set Bv8 hleS
  clear kv8 Bv8
  have q0 : v9.cell? ⟨S2, 0, none⟩ = some (.int .i64 0) := cell_at kv9 rfl
  have q1 : v9.cell? ⟨S2, 1, none⟩ = some (.int .i64 1) := cell_at kv9 rfl
  have q2 : v9.cell? ⟨S2, 2, none⟩ = some (.int .i64 0) := cell_at kv9 rfl
  have q3 : v9.cell? ⟨S2, 3, none⟩ = some (.int .i64 0) := cell_at kv9 rfl
  have q4 : v9.cell? ⟨S2, 4, none⟩ = some (.int .i64 0) := cell_at kv9 rfl
  have q5 : v9.cell? ⟨S2, 5, none⟩ = some (.int .i64 0) := cell_at kv9 rfl
  have q6 : v9.cell? ⟨S2, 6, none⟩ = some (.int .i64 0) := cell_at kv9 rfl
  have q7 : v9.cell? ⟨S2, 7, none⟩ = some (.string res) := cell_at kv9 rfl
  have q8 : v9.cell? ⟨S2, 8, none⟩ = some (.int .i64 0) := cell_at kv9 rfl
  have HB := hid Bv9
  have hb := fun w => bld80_suc res w
  clear kv9 Bv9 k2 B2 k1 B1 k21 hlt1 hleS
  go_enter Tryz.func87, Tryz.ntmps87
  go_wp2
  refine bodyPost_ret (v := .agg #[.int .i64 0, .int .i64 1, .int .i64 0, .int .i64 0, .int .i64 0, .int .i64 0, .int .i64 0, .string res, .int .i64 0]) (by simp [results, Tryz.results87, go_sem, q0, q1, q2, q3, q4, q5, q6, q7, q8]) rfl ?_
  exact ⟨rfl, HB.out⟩
theorem outcome_ref (xid fl acc rej why low high : Int) (dn : Bool) (bo res : ByteArray) (w : World) (h0 : dn = false) (h1 : acc = 5) :
    Calls Tryz.prog 87 #[.agg #[.int .i64 xid, .bool dn, .int .i64 fl, .string bo, .int .i64 acc, .int .i64 rej, .int .i64 why, .int .i64 low, .int .i64 high, .string res]] w fun e w' => e = .returned (.agg #[.int .i64 0, .int .i64 3, .int .i64 0, .int .i64 0, .int .i64 0, .int .i64 0, .int .i64 0, .string ⟨#[]⟩, .int .i64 0]) ∧ Below w.heap.size w w' := by
  subst h0 h1
  obtain ⟨S1, hS1⟩ : ∃ y, w.heap.size = y := ⟨_, rfl⟩
  obtain ⟨w1, hw1⟩ : ∃ y, w.alloc (.cells #[.int .i64 xid, .bool false, .int .i64 fl, .string bo, .int .i64 5, .int .i64 rej, .int .i64 why, .int .i64 low, .int .i64 high, .string res] 46) = y := ⟨_, rfl⟩
  have B1 : Below w.heap.size w w1 := by rw [← hw1]; exact (Below.refl _ _).alloc (Nat.le_refl _) _
  have k1 : w1.heap[S1]? = some (.cells #[.int .i64 xid, .bool false, .int .i64 fl, .string bo, .int .i64 5, .int .i64 rej, .int .i64 why, .int .i64 low, .int .i64 high, .string res] 46) := by rw [← hw1, ← hS1]; exact (MapKept.heap_alloc w _).1
  obtain ⟨S2, hS2⟩ : ∃ y, w1.heap.size = y := ⟨_, rfl⟩
  obtain ⟨w2, hw2⟩ : ∃ y, w1.alloc (.cells #[.int .i64 0, .int .i64 0, .int .i64 0, .int .i64 0, .int .i64 0, .int .i64 0, .int .i64 0, .string ⟨#[]⟩, .int .i64 0] 80) = y := ⟨_, rfl⟩
  have B2 : Below w.heap.size w w2 := by rw [← hw2]; exact B1.alloc B1.size _
  have k2 : w2.heap[S2]? = some (.cells #[.int .i64 0, .int .i64 0, .int .i64 0, .int .i64 0, .int .i64 0, .int .i64 0, .int .i64 0, .string ⟨#[]⟩, .int .i64 0] 80) := by rw [← hw2, ← hS2]; exact (MapKept.heap_alloc w1 _).1
  have hlt1 : S1 < S2 := by rw [← hS2]; exact (Array.getElem?_eq_some_iff.1 k1).1
  have k21 : w2.heap[S1]? = some (.cells #[.int .i64 xid, .bool false, .int .i64 fl, .string bo, .int .i64 5, .int .i64 rej, .int .i64 why, .int .i64 low, .int .i64 high, .string res] 46) := by rw [← hw2]; exact (Below.heap_alloc _ _ _ (by omega)).trans k1
  have hleS : w.heap.size ≤ S2 := by omega
  have a1 : w2.cell? ⟨S1, 1, none⟩ = some (.bool false) := cell_at k21 rfl
  have a4 : w2.cell? ⟨S1, 4, none⟩ = some (.int .i64 5) := cell_at k21 rfl
  have a5 : w2.cell? ⟨S1, 5, none⟩ = some (.int .i64 rej) := cell_at k21 rfl
  have a6 : w2.cell? ⟨S1, 6, none⟩ = some (.int .i64 why) := cell_at k21 rfl
  have a7 : w2.cell? ⟨S1, 7, none⟩ = some (.int .i64 low) := cell_at k21 rfl
  have a8 : w2.cell? ⟨S1, 8, none⟩ = some (.int .i64 high) := cell_at k21 rfl
  have a9 : w2.cell? ⟨S1, 9, none⟩ = some (.string res) := cell_at k21 rfl
  obtain ⟨v1, hv1⟩ : ∃ y, w2.setCell ⟨S2, 0, none⟩ (.int .i64 0) = y := ⟨_, rfl⟩
  have z0 : w2.cell? ⟨S2, 0, none⟩ = some (.int .i64 0) := cell_at k2 rfl
  have f0 : w2.frozen? ⟨S2, 0, none⟩ = false := frozen_at k2 0
  have kv1 : v1.heap[S2]? = some (.cells #[.int .i64 0, .int .i64 0, .int .i64 0, .int .i64 0, .int .i64 0, .int .i64 0, .int .i64 0, .string ⟨#[]⟩, .int .i64 0] 80) := by rw [← hv1]; exact set_at k2 0 _
  have Bv1 : Below w.heap.size w v1 := by rw [← hv1]; exact below_set B2 hleS
  obtain ⟨v2, hv2⟩ : ∃ y, v1.setCell ⟨S2, 1, none⟩ (.int .i64 3) = y := ⟨_, rfl⟩
  have z1 : v1.cell? ⟨S2, 1, none⟩ = some (.int .i64 0) := cell_at kv1 rfl
  have f1 : v1.frozen? ⟨S2, 1, none⟩ = false := frozen_at kv1 1
  have kv2 : v2.heap[S2]? = some (.cells #[.int .i64 0, .int .i64 3, .int .i64 0, .int .i64 0, .int .i64 0, .int .i64 0, .int .i64 0, .string ⟨#[]⟩, .int .i64 0] 80) := by rw [← hv2]; exact set_at kv1 1 _
  have Bv2 : Below w.heap.size w v2 := by rw [← hv2]; exact below_set Bv1 hleS
  clear kv1 Bv1
  obtain ⟨v3, hv3⟩ : ∃ y, v2.setCell ⟨S2, 2, none⟩ (.int .i64 0) = y := ⟨_, rfl⟩
  have z2 : v2.cell? ⟨S2, 2, none⟩ = some (.int .i64 0) := cell_at kv2 rfl
  have f2 : v2.frozen? ⟨S2, 2, none⟩ = false := frozen_at kv2 2
  have kv3 : v3.heap[S2]? = some (.cells #[.int .i64 0, .int .i64 3, .int .i64 0, .int .i64 0, .int .i64 0, .int .i64 0, .int .i64 0, .string ⟨#[]⟩, .int .i64 0] 80) := by rw [← hv3]; exact set_at kv2 2 _
  have Bv3 : Below w.heap.size w v3 := by rw [← hv3]; exact below_set Bv2 hleS
  clear kv2 Bv2
  obtain ⟨v4, hv4⟩ : ∃ y, v3.setCell ⟨S2, 3, none⟩ (.int .i64 0) = y := ⟨_, rfl⟩
  have z3 : v3.cell? ⟨S2, 3, none⟩ = some (.int .i64 0) := cell_at kv3 rfl
  have f3 : v3.frozen? ⟨S2, 3, none⟩ = false := frozen_at kv3 3
  have kv4 : v4.heap[S2]? = some (.cells #[.int .i64 0, .int .i64 3, .int .i64 0, .int .i64 0, .int .i64 0, .int .i64 0, .int .i64 0, .string ⟨#[]⟩, .int .i64 0] 80) := by rw [← hv4]; exact set_at kv3 3 _
  have Bv4 : Below w.heap.size w v4 := by rw [← hv4]; exact below_set Bv3 hleS
  clear kv3 Bv3
  obtain ⟨v5, hv5⟩ : ∃ y, v4.setCell ⟨S2, 4, none⟩ (.int .i64 0) = y := ⟨_, rfl⟩
  have z4 : v4.cell? ⟨S2, 4, none⟩ = some (.int .i64 0) := cell_at kv4 rfl
  have f4 : v4.frozen? ⟨S2, 4, none⟩ = false := frozen_at kv4 4
  have kv5 : v5.heap[S2]? = some (.cells #[.int .i64 0, .int .i64 3, .int .i64 0, .int .i64 0, .int .i64 0, .int .i64 0, .int .i64 0, .string ⟨#[]⟩, .int .i64 0] 80) := by rw [← hv5]; exact set_at kv4 4 _
  have Bv5 : Below w.heap.size w v5 := by rw [← hv5]; exact below_set Bv4 hleS
  clear kv4 Bv4
  obtain ⟨v6, hv6⟩ : ∃ y, v5.setCell ⟨S2, 5, none⟩ (.int .i64 0) = y := ⟨_, rfl⟩
  have z5 : v5.cell? ⟨S2, 5, none⟩ = some (.int .i64 0) := cell_at kv5 rfl
  have f5 : v5.frozen? ⟨S2, 5, none⟩ = false := frozen_at kv5 5
  have kv6 : v6.heap[S2]? = some (.cells #[.int .i64 0, .int .i64 3, .int .i64 0, .int .i64 0, .int .i64 0, .int .i64 0, .int .i64 0, .string ⟨#[]⟩, .int .i64 0] 80) := by rw [← hv6]; exact set_at kv5 5 _
  have Bv6 : Below w.heap.size w v6 := by rw [← hv6]; exact below_set Bv5 hleS
  clear kv5 Bv5
  obtain ⟨v7, hv7⟩ : ∃ y, v6.setCell ⟨S2, 6, none⟩ (.int .i64 0) = y := ⟨_, rfl⟩
  have z6 : v6.cell? ⟨S2, 6, none⟩ = some (.int .i64 0) := cell_at kv6 rfl
  have f6 : v6.frozen? ⟨S2, 6, none⟩ = false := frozen_at kv6 6
  have kv7 : v7.heap[S2]? = some (.cells #[.int .i64 0, .int .i64 3, .int .i64 0, .int .i64 0, .int .i64 0, .int .i64 0, .int .i64 0, .string ⟨#[]⟩, .int .i64 0] 80) := by rw [← hv7]; exact set_at kv6 6 _
  have Bv7 : Below w.heap.size w v7 := by rw [← hv7]; exact below_set Bv6 hleS
  clear kv6 Bv6
  obtain ⟨v8, hv8⟩ : ∃ y, v7.setCell ⟨S2, 7, none⟩ (.string ⟨#[]⟩) = y := ⟨_, rfl⟩
  have z7 : v7.cell? ⟨S2, 7, none⟩ = some (.string ⟨#[]⟩) := cell_at kv7 rfl
  have f7 : v7.frozen? ⟨S2, 7, none⟩ = false := frozen_at kv7 7
  have kv8 : v8.heap[S2]? = some (.cells #[.int .i64 0, .int .i64 3, .int .i64 0, .int .i64 0, .int .i64 0, .int .i64 0, .int .i64 0, .string ⟨#[]⟩, .int .i64 0] 80) := by rw [← hv8]; exact set_at kv7 7 _
  have Bv8 : Below w.heap.size w v8 := by rw [← hv8]; exact below_set Bv7 hleS
  clear kv7 Bv7
  obtain ⟨v9, hv9⟩ : ∃ y, v8.setCell ⟨S2, 8, none⟩ (.int .i64 0) = y := ⟨_, rfl⟩
  have z8 : v8.cell? ⟨S2, 8, none⟩ = some (.int .i64 0) := cell_at kv8 rfl
  have f8 : v8.frozen? ⟨S2, 8, none⟩ = false := frozen_at kv8 8
  have kv9 : v9.heap[S2]? = some (.cells #[.int .i64 0, .int .i64 3, .int .i64 0, .int .i64 0, .int .i64 0, .int .i64 0, .int .i64 0, .string ⟨#[]⟩, .int .i64 0] 80) := by rw [← hv9]; exact set_at kv8 8 _
  have Bv9 : Below w.heap.size w v9 := by rw [← hv9]; exact below_set Bv8 hleS
  clear kv8 Bv8
  have q0 : v9.cell? ⟨S2, 0, none⟩ = some (.int .i64 0) := cell_at kv9 rfl
  have q1 : v9.cell? ⟨S2, 1, none⟩ = some (.int .i64 3) := cell_at kv9 rfl
  have q2 : v9.cell? ⟨S2, 2, none⟩ = some (.int .i64 0) := cell_at kv9 rfl
  have q3 : v9.cell? ⟨S2, 3, none⟩ = some (.int .i64 0) := cell_at kv9 rfl
  have q4 : v9.cell? ⟨S2, 4, none⟩ = some (.int .i64 0) := cell_at kv9 rfl
  have q5 : v9.cell? ⟨S2, 5, none⟩ = some (.int .i64 0) := cell_at kv9 rfl
  have q6 : v9.cell? ⟨S2, 6, none⟩ = some (.int .i64 0) := cell_at kv9 rfl
  have q7 : v9.cell? ⟨S2, 7, none⟩ = some (.string ⟨#[]⟩) := cell_at kv9 rfl
  have q8 : v9.cell? ⟨S2, 8, none⟩ = some (.int .i64 0) := cell_at kv9 rfl
  have HB := hid Bv9
  have hb := fun w => bld80_ref w
  clear kv9 Bv9 k2 B2 k1 B1 k21 hlt1 hleS
  go_enter Tryz.func87, Tryz.ntmps87
  go_wp2
  refine bodyPost_ret (v := .agg #[.int .i64 0, .int .i64 3, .int .i64 0, .int .i64 0, .int .i64 0, .int .i64 0, .int .i64 0, .string ⟨#[]⟩, .int .i64 0]) (by simp [results, Tryz.results87, go_sem, q0, q1, q2, q3, q4, q5, q6, q7, q8]) rfl ?_
  exact ⟨rfl, HB.out⟩
theorem outcome_acc (xid fl acc rej why low high : Int) (dn : Bool) (bo res : ByteArray) (w : World) (h0 : dn = false) (h1 : acc ≠ 0) (h2 : acc ≠ 5) :
    Calls Tryz.prog 87 #[.agg #[.int .i64 xid, .bool dn, .int .i64 fl, .string bo, .int .i64 acc, .int .i64 rej, .int .i64 why, .int .i64 low, .int .i64 high, .string res]] w fun e w' => e = .returned (.agg #[.int .i64 0, .int .i64 4, .int .i64 acc, .int .i64 0, .int .i64 0, .int .i64 low, .int .i64 high, .string ⟨#[]⟩, .int .i64 0]) ∧ Below w.heap.size w w' := by
  subst h0
  have e0 : (acc == 0) = false := by simpa using h1
  have e5 : (acc == 5) = false := by simpa using h2
  clear h1 h2
  obtain ⟨S1, hS1⟩ : ∃ y, w.heap.size = y := ⟨_, rfl⟩
  obtain ⟨w1, hw1⟩ : ∃ y, w.alloc (.cells #[.int .i64 xid, .bool false, .int .i64 fl, .string bo, .int .i64 acc, .int .i64 rej, .int .i64 why, .int .i64 low, .int .i64 high, .string res] 46) = y := ⟨_, rfl⟩
  have B1 : Below w.heap.size w w1 := by rw [← hw1]; exact (Below.refl _ _).alloc (Nat.le_refl _) _
  have k1 : w1.heap[S1]? = some (.cells #[.int .i64 xid, .bool false, .int .i64 fl, .string bo, .int .i64 acc, .int .i64 rej, .int .i64 why, .int .i64 low, .int .i64 high, .string res] 46) := by rw [← hw1, ← hS1]; exact (MapKept.heap_alloc w _).1
  obtain ⟨S2, hS2⟩ : ∃ y, w1.heap.size = y := ⟨_, rfl⟩
  obtain ⟨w2, hw2⟩ : ∃ y, w1.alloc (.cells #[.int .i64 0, .int .i64 0, .int .i64 0, .int .i64 0, .int .i64 0, .int .i64 0, .int .i64 0, .string ⟨#[]⟩, .int .i64 0] 80) = y := ⟨_, rfl⟩
  have B2 : Below w.heap.size w w2 := by rw [← hw2]; exact B1.alloc B1.size _
  have k2 : w2.heap[S2]? = some (.cells #[.int .i64 0, .int .i64 0, .int .i64 0, .int .i64 0, .int .i64 0, .int .i64 0, .int .i64 0, .string ⟨#[]⟩, .int .i64 0] 80) := by rw [← hw2, ← hS2]; exact (MapKept.heap_alloc w1 _).1
  have hlt1 : S1 < S2 := by rw [← hS2]; exact (Array.getElem?_eq_some_iff.1 k1).1
  have k21 : w2.heap[S1]? = some (.cells #[.int .i64 xid, .bool false, .int .i64 fl, .string bo, .int .i64 acc, .int .i64 rej, .int .i64 why, .int .i64 low, .int .i64 high, .string res] 46) := by rw [← hw2]; exact (Below.heap_alloc _ _ _ (by omega)).trans k1
  have hleS : w.heap.size ≤ S2 := by omega
  have a1 : w2.cell? ⟨S1, 1, none⟩ = some (.bool false) := cell_at k21 rfl
  have a4 : w2.cell? ⟨S1, 4, none⟩ = some (.int .i64 acc) := cell_at k21 rfl
  have a5 : w2.cell? ⟨S1, 5, none⟩ = some (.int .i64 rej) := cell_at k21 rfl
  have a6 : w2.cell? ⟨S1, 6, none⟩ = some (.int .i64 why) := cell_at k21 rfl
  have a7 : w2.cell? ⟨S1, 7, none⟩ = some (.int .i64 low) := cell_at k21 rfl
  have a8 : w2.cell? ⟨S1, 8, none⟩ = some (.int .i64 high) := cell_at k21 rfl
  have a9 : w2.cell? ⟨S1, 9, none⟩ = some (.string res) := cell_at k21 rfl
  obtain ⟨v1, hv1⟩ : ∃ y, w2.setCell ⟨S2, 0, none⟩ (.int .i64 0) = y := ⟨_, rfl⟩
  have z0 : w2.cell? ⟨S2, 0, none⟩ = some (.int .i64 0) := cell_at k2 rfl
  have f0 : w2.frozen? ⟨S2, 0, none⟩ = false := frozen_at k2 0
  have kv1 : v1.heap[S2]? = some (.cells #[.int .i64 0, .int .i64 0, .int .i64 0, .int .i64 0, .int .i64 0, .int .i64 0, .int .i64 0, .string ⟨#[]⟩, .int .i64 0] 80) := by rw [← hv1]; exact set_at k2 0 _
  have Bv1 : Below w.heap.size w v1 := by rw [← hv1]; exact below_set B2 hleS
  obtain ⟨v2, hv2⟩ : ∃ y, v1.setCell ⟨S2, 1, none⟩ (.int .i64 4) = y := ⟨_, rfl⟩
  have z1 : v1.cell? ⟨S2, 1, none⟩ = some (.int .i64 0) := cell_at kv1 rfl
  have f1 : v1.frozen? ⟨S2, 1, none⟩ = false := frozen_at kv1 1
  have kv2 : v2.heap[S2]? = some (.cells #[.int .i64 0, .int .i64 4, .int .i64 0, .int .i64 0, .int .i64 0, .int .i64 0, .int .i64 0, .string ⟨#[]⟩, .int .i64 0] 80) := by rw [← hv2]; exact set_at kv1 1 _
  have Bv2 : Below w.heap.size w v2 := by rw [← hv2]; exact below_set Bv1 hleS
  clear kv1 Bv1
  obtain ⟨v3, hv3⟩ : ∃ y, v2.setCell ⟨S2, 2, none⟩ (.int .i64 acc) = y := ⟨_, rfl⟩
  have z2 : v2.cell? ⟨S2, 2, none⟩ = some (.int .i64 0) := cell_at kv2 rfl
  have f2 : v2.frozen? ⟨S2, 2, none⟩ = false := frozen_at kv2 2
  have kv3 : v3.heap[S2]? = some (.cells #[.int .i64 0, .int .i64 4, .int .i64 acc, .int .i64 0, .int .i64 0, .int .i64 0, .int .i64 0, .string ⟨#[]⟩, .int .i64 0] 80) := by rw [← hv3]; exact set_at kv2 2 _
  have Bv3 : Below w.heap.size w v3 := by rw [← hv3]; exact below_set Bv2 hleS
  clear kv2 Bv2
  obtain ⟨v4, hv4⟩ : ∃ y, v3.setCell ⟨S2, 3, none⟩ (.int .i64 0) = y := ⟨_, rfl⟩
  have z3 : v3.cell? ⟨S2, 3, none⟩ = some (.int .i64 0) := cell_at kv3 rfl
  have f3 : v3.frozen? ⟨S2, 3, none⟩ = false := frozen_at kv3 3
  have kv4 : v4.heap[S2]? = some (.cells #[.int .i64 0, .int .i64 4, .int .i64 acc, .int .i64 0, .int .i64 0, .int .i64 0, .int .i64 0, .string ⟨#[]⟩, .int .i64 0] 80) := by rw [← hv4]; exact set_at kv3 3 _
  have Bv4 : Below w.heap.size w v4 := by rw [← hv4]; exact below_set Bv3 hleS
  clear kv3 Bv3
  obtain ⟨v5, hv5⟩ : ∃ y, v4.setCell ⟨S2, 4, none⟩ (.int .i64 0) = y := ⟨_, rfl⟩
  have z4 : v4.cell? ⟨S2, 4, none⟩ = some (.int .i64 0) := cell_at kv4 rfl
  have f4 : v4.frozen? ⟨S2, 4, none⟩ = false := frozen_at kv4 4
  have kv5 : v5.heap[S2]? = some (.cells #[.int .i64 0, .int .i64 4, .int .i64 acc, .int .i64 0, .int .i64 0, .int .i64 0, .int .i64 0, .string ⟨#[]⟩, .int .i64 0] 80) := by rw [← hv5]; exact set_at kv4 4 _
  have Bv5 : Below w.heap.size w v5 := by rw [← hv5]; exact below_set Bv4 hleS
  clear kv4 Bv4
  obtain ⟨v6, hv6⟩ : ∃ y, v5.setCell ⟨S2, 5, none⟩ (.int .i64 low) = y := ⟨_, rfl⟩
  have z5 : v5.cell? ⟨S2, 5, none⟩ = some (.int .i64 0) := cell_at kv5 rfl
  have f5 : v5.frozen? ⟨S2, 5, none⟩ = false := frozen_at kv5 5
  have kv6 : v6.heap[S2]? = some (.cells #[.int .i64 0, .int .i64 4, .int .i64 acc, .int .i64 0, .int .i64 0, .int .i64 low, .int .i64 0, .string ⟨#[]⟩, .int .i64 0] 80) := by rw [← hv6]; exact set_at kv5 5 _
  have Bv6 : Below w.heap.size w v6 := by rw [← hv6]; exact below_set Bv5 hleS
  clear kv5 Bv5
  obtain ⟨v7, hv7⟩ : ∃ y, v6.setCell ⟨S2, 6, none⟩ (.int .i64 high) = y := ⟨_, rfl⟩
  have z6 : v6.cell? ⟨S2, 6, none⟩ = some (.int .i64 0) := cell_at kv6 rfl
  have f6 : v6.frozen? ⟨S2, 6, none⟩ = false := frozen_at kv6 6
  have kv7 : v7.heap[S2]? = some (.cells #[.int .i64 0, .int .i64 4, .int .i64 acc, .int .i64 0, .int .i64 0, .int .i64 low, .int .i64 high, .string ⟨#[]⟩, .int .i64 0] 80) := by rw [← hv7]; exact set_at kv6 6 _
  have Bv7 : Below w.heap.size w v7 := by rw [← hv7]; exact below_set Bv6 hleS
  clear kv6 Bv6
  obtain ⟨v8, hv8⟩ : ∃ y, v7.setCell ⟨S2, 7, none⟩ (.string ⟨#[]⟩) = y := ⟨_, rfl⟩
  have z7 : v7.cell? ⟨S2, 7, none⟩ = some (.string ⟨#[]⟩) := cell_at kv7 rfl
  have f7 : v7.frozen? ⟨S2, 7, none⟩ = false := frozen_at kv7 7
  have kv8 : v8.heap[S2]? = some (.cells #[.int .i64 0, .int .i64 4, .int .i64 acc, .int .i64 0, .int .i64 0, .int .i64 low, .int .i64 high, .string ⟨#[]⟩, .int .i64 0] 80) := by rw [← hv8]; exact set_at kv7 7 _
  have Bv8 : Below w.heap.size w v8 := by rw [← hv8]; exact below_set Bv7 hleS
  clear kv7 Bv7
  obtain ⟨v9, hv9⟩ : ∃ y, v8.setCell ⟨S2, 8, none⟩ (.int .i64 0) = y := ⟨_, rfl⟩
  have z8 : v8.cell? ⟨S2, 8, none⟩ = some (.int .i64 0) := cell_at kv8 rfl
  have f8 : v8.frozen? ⟨S2, 8, none⟩ = false := frozen_at kv8 8
  have kv9 : v9.heap[S2]? = some (.cells #[.int .i64 0, .int .i64 4, .int .i64 acc, .int .i64 0, .int .i64 0, .int .i64 low, .int .i64 high, .string ⟨#[]⟩, .int .i64 0] 80) := by rw [← hv9]; exact set_at kv8 8 _
  have Bv9 : Below w.heap.size w v9 := by rw [← hv9]; exact below_set Bv8 hleS
  clear kv8 Bv8
  have q0 : v9.cell? ⟨S2, 0, none⟩ = some (.int .i64 0) := cell_at kv9 rfl
  have q1 : v9.cell? ⟨S2, 1, none⟩ = some (.int .i64 4) := cell_at kv9 rfl
  have q2 : v9.cell? ⟨S2, 2, none⟩ = some (.int .i64 acc) := cell_at kv9 rfl
  have q3 : v9.cell? ⟨S2, 3, none⟩ = some (.int .i64 0) := cell_at kv9 rfl
  have q4 : v9.cell? ⟨S2, 4, none⟩ = some (.int .i64 0) := cell_at kv9 rfl
  have q5 : v9.cell? ⟨S2, 5, none⟩ = some (.int .i64 low) := cell_at kv9 rfl
  have q6 : v9.cell? ⟨S2, 6, none⟩ = some (.int .i64 high) := cell_at kv9 rfl
  have q7 : v9.cell? ⟨S2, 7, none⟩ = some (.string ⟨#[]⟩) := cell_at kv9 rfl
  have q8 : v9.cell? ⟨S2, 8, none⟩ = some (.int .i64 0) := cell_at kv9 rfl
  have HB := hid Bv9
  have hb := fun w => bld80_acc low high acc w
  clear kv9 Bv9 k2 B2 k1 B1 k21 hlt1 hleS
  go_enter Tryz.func87, Tryz.ntmps87
  go_wp2
  refine bodyPost_ret (v := .agg #[.int .i64 0, .int .i64 4, .int .i64 acc, .int .i64 0, .int .i64 0, .int .i64 low, .int .i64 high, .string ⟨#[]⟩, .int .i64 0]) (by simp [results, Tryz.results87, go_sem, q0, q1, q2, q3, q4, q5, q6, q7, q8]) rfl ?_
  exact ⟨rfl, HB.out⟩
theorem outcome_any (r : ReplyP) (w : World) : Calls Tryz.prog 87 #[.agg (replyV r).toArray] w fun e w' => e = .returned (.agg (ocC (outOf r)).toArray) ∧ Below w.heap.size w w' := by
  obtain ⟨xid, dn, vf, acc, low, high, res, rej, why⟩ := r
  unfold outOf
  dsimp only
  cases dn
  · by_cases h0 : acc = 0
    · rw [if_neg (by decide), if_pos h0]
      exact outcome_suc xid _ acc rej why low high false _ _ w rfl h0
    · by_cases h5 : acc = 5
      · rw [if_neg (by decide), if_neg h0, if_pos h5]
        exact outcome_ref xid _ acc rej why low high false _ _ w rfl h5
      · rw [if_neg (by decide), if_neg h0, if_neg h5]
        exact outcome_acc xid _ acc rej why low high false _ _ w rfl h0 h5
  · rw [if_pos rfl]
    exact outcome_den xid _ acc rej why low high true _ _ w rfl
end Go.Proofs.YtfcbjcebkahehaaGreatDoor.Cl
namespace Go.Proofs.YtfcbjcebkahehaaGreatDoor.Cl
open Go.RowKit
/-- the document's meter makes such a step -/
def Twin (h : Bool) (a b : Nat) (n : Int) (a' b' : Nat) : Prop := ∀ w A, Mt w 120 A h a b → Calls Tryz.prog 109 #[ptr A, .int .i64 n] w fun e w' => e = .returned (.tuple #[]) ∧ Mt w' 120 A true a' b' ∧ Own A w w'
/-- what a meter has behind a reply -/
def MqR (q q' : Mq) (now : Int) (x : Wt) : Prop := q'.blk = q.blk ∧ (x.tms ≠ 1 → q' = q) ∧ (x.tms = 1 → q'.h = true ∧ Twin q.h q.m q.s (now - x.last) q'.m q'.s)
section
variable {K K' : Nat → Nat} {w w' : World} {B t p : Nat} {c : Cf} {oa : Option Addr} {cap : Nat} {next now : Int} {L : List Wt} {D : List Oc} {vw vd : Value} {q : Mq}
theorem PC.meter_any (h : PC K w B t p c oa cap next now L D vw vd q) (n : Int) : ∃ a' b', (∀ m, Calls Tryz.prog 86 #[ptr q.blk, .int .i64 n] (w.drewN m) fun e w' => e = .returned (.tuple #[]) ∧ Hid (PC K w' B t p c oa cap next now L D vw vd ⟨q.blk, true, a', b'⟩ ∧ Mv (fun u => u = t + 5) w w' K K)) ∧ Twin q.h q.m q.s n a' b' := by
  obtain ⟨a', b', h1, h2, ok⟩ := hear_both h.me.ok n
  refine ⟨a', b', fun m => ?_, h2⟩
  have h0 := h.to (mv_drewN w K m) (fun _ e => e.elim)
  refine (h1 _ _ ⟨h0.me.tb.at_⟩).mono ?_
  rintro e w' ⟨rfl, mt, ow⟩
  have mv : Mv (fun u => u = t + 5) (w.drewN m) w' K K := ⟨ow.os, ow.tape, ow.output, ow.size, fun _ _ => rfl, fun b hb hne => ow.kept b hb (fun e => hne (by rw [e]; exact h0.me.tb.k))⟩
  exact ⟨rfl, ⟨h0.cl.mv mv (by omega), h0.wr.mv mv (by omega), h0.dn.mv mv (by omega), fun y hy => (h0.cs y hy).mv mv (by omega) (by omega), h0.nd, ⟨⟨mt.at_, h0.me.tb.k⟩, ok⟩, h0.gs.mv mv (by omega), h0.gl, h0.ok, Nat.le_trans h0.hB mv.size, h0.er mv (fun t' e => by omega), h0.h0' mv, h0.b1⟩, ((mv_drewN w K m).mono (fun _ e => e.elim)).trans mv⟩
/-- what Hear does -/
def HearQ (K : Nat → Nat) (w w' : World) (B t p : Nat) (c : Cf) (oa : Option Addr) (cap : Nat) (next now : Int) (L : List Wt) (D : List Oc) (q : Mq) (src dst : Int) (r : ReplyP × Int) (e : Ending) : Prop :=
  (e = .returned (.int .i64 0) ∧ (dst ≠ c.ad ∨ r.2 ≠ 0 ∨ ∀ y ∈ L, hitW r.1.xid src y = false) ∧ Hid (Below w.heap.size w w')) ∨
  (∃ A x R, e = .returned (.int .i64 r.1.xid) ∧ dst = c.ad ∧ r.2 = 0 ∧ L = A ++ x :: R ∧ hitW r.1.xid src x = true ∧ (∀ y ∈ A, hitW r.1.xid src y = false) ∧ Hid (∃ K' vw' vd' q', PC K' w' B t p c oa cap next now (A ++ R) (D ++ [{ outOf r.1 with seq := x.seq, at_ := now }]) vw' vd' q' ∧ MqR q q' now x ∧ Mv (fun u => u = t ∨ u = t + 1 ∨ u = t + 2 ∨ u = t + 5) w w' K K'))
theorem drewB (w : World) (k : Nat) : Below w.heap.size w (w.drewN k) := ⟨rfl, rfl, rfl, Nat.le_refl _, fun _ _ => rfl⟩
set_option maxRecDepth 8000 in
set_option maxHeartbeats 4000000 in
theorem PC.hear_far (h : PC K w B t p c oa cap next now L D vw vd q) (src dst : Int) (data : List UInt8) (hd : dst ≠ c.ad) : Calls Tryz.prog 51 #[ptr p, .agg #[.int .i64 src, .int .i64 dst, .string ⟨data.toArray⟩]] w fun e w' => HearQ K w w' B t p c oa cap next now L D q src dst (parseR data) e := by
  obtain ⟨S, hS⟩ : ∃ y, w.heap.size = y := ⟨_, rfl⟩
  obtain ⟨ds, hds⟩ : ∃ ds : ByteArray, (⟨data.toArray⟩ : ByteArray) = ds := ⟨_, rfl⟩
  obtain ⟨w0, hw0⟩ : ∃ y, w.alloc (.cells #[.int .i64 src, .int .i64 dst, .string ds] 78) = y := ⟨_, rfl⟩
  have B0 : Below w.heap.size w w0 := by rw [← hw0]; exact (Below.refl _ _).alloc (Nat.le_refl _) _
  have k0 : w0.heap[S]? = some (.cells #[.int .i64 src, .int .i64 dst, .string ds] 78) := by rw [← hw0, ← hS]; exact (MapKept.heap_alloc w _).1
  have hl0 := (Array.getElem?_eq_some_iff.1 k0).1
  have P0 := h.below B0 (fun _ => t + 7)
  have a1 : w0.cell? ⟨S, 1, none⟩ = some (.int .i64 dst) := cell_at k0 rfl
  have a2 : w0.cell? ⟨S, 2, none⟩ = some (.string ds) := cell_at k0 rfl
  have c0 : w0.cell? ⟨p, 0, none⟩ = some (.int .i64 c.ad) := P0.ce rfl
  have hne : (dst != c.ad) = true := by simpa using hd
  have HF : Hid (∀ k, Below w.heap.size w (w0.drewN k)) := fun k => B0.trans ((drewB w0 k).mono B0.size)
  have HD := hid hd
  rw [hds]
  clear h hd P0 k0 B0 hl0 hds
  go_enter Tryz.func51, Tryz.ntmps51
  go_wp2_with fail
  go_quiet (fail)
  go_wp2
  go_ret
  exact .inl ⟨rfl, .inl HD.out, HF.out _⟩
set_option maxRecDepth 8000 in
set_option maxHeartbeats 4000000 in
theorem PC.hear_any (h : PC K w B t p c oa cap next now L D vw vd q) (src dst : Int) (data : List UInt8) (hlen : data.length ≤ 281474976710656) (hL : L.length ≤ 100000000) (hD : D.length ≤ 100000000) (hnow : ∀ x ∈ L, -1000000000000 ≤ now - x.last ∧ now - x.last ≤ 1000000000000) : Calls Tryz.prog 51 #[ptr p, .agg #[.int .i64 src, .int .i64 dst, .string ⟨data.toArray⟩]] w fun e w' => HearQ K w w' B t p c oa cap next now L D q src dst (parseR data) e := by
  by_cases hd : dst ≠ c.ad
  · exact h.hear_far src dst data hd
  have hd : dst = c.ad := Classical.byContradiction hd
  subst hd
  obtain ⟨S, hS⟩ : ∃ y, w.heap.size = y := ⟨_, rfl⟩
  obtain ⟨ds, hds⟩ : ∃ ds : ByteArray, (⟨data.toArray⟩ : ByteArray) = ds := ⟨_, rfl⟩
  obtain ⟨w0, hw0⟩ : ∃ y, w.alloc (.cells #[.int .i64 src, .int .i64 c.ad, .string ds] 78) = y := ⟨_, rfl⟩
  have B0 : Below w.heap.size w w0 := by rw [← hw0]; exact (Below.refl _ _).alloc (Nat.le_refl _) _
  have k0 : w0.heap[S]? = some (.cells #[.int .i64 src, .int .i64 c.ad, .string ds] 78) := by rw [← hw0, ← hS]; exact (MapKept.heap_alloc w _).1
  have hl0 := (Array.getElem?_eq_some_iff.1 k0).1
  have P0 := h.below B0 (fun _ => t + 7)
  have a1 : w0.cell? ⟨S, 1, none⟩ = some (.int .i64 c.ad) := cell_at k0 rfl
  have a2 : w0.cell? ⟨S, 2, none⟩ = some (.string ds) := cell_at k0 rfl
  have c0 : w0.cell? ⟨p, 0, none⟩ = some (.int .i64 c.ad) := P0.ce rfl
  have HP : Hid (∀ k, Calls Tryz.prog 52 #[.string ds] (w0.drewN k) fun e w' => e = .returned (.tuple #[.agg (replyV (parseR data).1).toArray, .int .i64 (parseR data).2]) ∧ Below (w0.drewN k).heap.size (w0.drewN k) w') := fun k => by rw [← hds]; exact parseReply_any data _ (P0.to (mv_drewN w0 _ k) (fun _ e => e.elim)).err hlen
  obtain ⟨pr, hpr⟩ : ∃ pr, parseR data = pr := ⟨_, rfl⟩
  rw [hpr] at HP ⊢
  rw [hds]
  clear hds hpr hlen
  obtain ⟨r, er⟩ := pr
  obtain ⟨xid, dn, vf, acc, low, high, results, rej, why⟩ := r
  obtain ⟨fl, body⟩ := vf
  dsimp only at HP ⊢
  obtain ⟨rr, hrr⟩ : ∃ rr : ReplyP, rr = ⟨xid, dn, ⟨fl, body⟩, acc, low, high, results, rej, why⟩ := ⟨_, rfl⟩
  have HP : Hid (∀ k, Calls Tryz.prog 52 #[.string ds] (w0.drewN k) fun e w' => e = .returned (.tuple #[.agg (replyV rr).toArray, .int .i64 er]) ∧ Below (w0.drewN k).heap.size (w0.drewN k) w') := by rw [hrr]; exact HP
  obtain ⟨bo, hbo⟩ : ∃ bo : ByteArray, (⟨body.toArray⟩ : ByteArray) = bo := ⟨_, rfl⟩
  obtain ⟨res, hres⟩ : ∃ res : ByteArray, (⟨results.toArray⟩ : ByteArray) = res := ⟨_, rfl⟩
  have hrV : (replyV rr).toArray = #[.int .i64 xid, .bool dn, .int .i64 fl, .string bo, .int .i64 acc, .int .i64 rej, .int .i64 why, .int .i64 low, .int .i64 high, .string res] := by rw [hrr, ← hbo, ← hres]; rfl
  have hxid : rr.xid = xid := by rw [hrr]
  have HO : Hid (∀ w', Calls Tryz.prog 87 #[.agg #[.int .i64 xid, .bool dn, .int .i64 fl, .string bo, .int .i64 acc, .int .i64 rej, .int .i64 why, .int .i64 low, .int .i64 high, .string res]] w' fun e w'' => e = .returned (.agg (ocC (outOf rr)).toArray) ∧ Below w'.heap.size w' w'') := fun w' => by
    rw [← hrV]; exact outcome_any rr w'
  rw [hrV] at HP
  have hg : HearQ K w w B t p c oa cap next now L D q src c.ad (⟨xid, dn, ⟨fl, body⟩, acc, low, high, results, rej, why⟩, er) = HearQ K w w B t p c oa cap next now L D q src c.ad (rr, er) := by rw [hrr]
  rw [show (⟨xid, dn, ⟨fl, body⟩, acc, low, high, results, rej, why⟩ : ReplyP) = rr from hrr.symm]
  clear hg hrV hrr hbo hres
  have HH := hid (And.intro h (And.intro P0 (And.intro B0 (And.intro k0 (And.intro hl0 hnow)))))
  have HL := hid (And.intro hL hD)
  clear h P0 B0 k0 hl0 hL hD hnow
  go_enter Tryz.func51, Tryz.ntmps51
  go_wp2_with fail
  go_quiet (fail)
  go_wp2_with fail
  refine (HP.out _).mono ?_
  rintro _ w1 ⟨rfl, hb1⟩
  obtain ⟨nq, hb1⟩ : ∃ nq, Below (w0.drewN nq).heap.size (w0.drewN nq) w1 := ⟨_, hb1⟩
  clear HP c0
  obtain ⟨S2, hS2⟩ : ∃ y, w1.heap.size = y := ⟨_, rfl⟩
  obtain ⟨y0, hy0⟩ : ∃ y, w1.alloc (.cells #[.int .i64 0, .bool false, .int .i64 0, .string ⟨#[]⟩, .int .i64 0, .int .i64 0, .int .i64 0, .int .i64 0, .int .i64 0, .string ⟨#[]⟩] 46) = y := ⟨_, rfl⟩
  have ky0 : y0.heap[S2]? = some (.cells #[.int .i64 0, .bool false, .int .i64 0, .string ⟨#[]⟩, .int .i64 0, .int .i64 0, .int .i64 0, .int .i64 0, .int .i64 0, .string ⟨#[]⟩] 46) := by rw [← hy0, ← hS2]; exact (MapKept.heap_alloc w1 _).1
  have By0 : Below w1.heap.size w1 y0 := by rw [← hy0]; exact (Below.refl _ _).alloc (Nat.le_refl _) _
  have hley : w1.heap.size ≤ S2 := by omega
  obtain ⟨y1, hy1⟩ : ∃ y, y0.setCell ⟨S2, 0, none⟩ (.int .i64 xid) = y := ⟨_, rfl⟩
  have zy0 : y0.cell? ⟨S2, 0, none⟩ = some (.int .i64 0) := cell_at ky0 rfl
  have fy0 : y0.frozen? ⟨S2, 0, none⟩ = false := frozen_at ky0 0
  have ky1 : y1.heap[S2]? = some (.cells #[.int .i64 xid, .bool false, .int .i64 0, .string ⟨#[]⟩, .int .i64 0, .int .i64 0, .int .i64 0, .int .i64 0, .int .i64 0, .string ⟨#[]⟩] 46) := by rw [← hy1]; exact set_at ky0 0 _
  have By1 : Below w1.heap.size w1 y1 := by rw [← hy1]; exact below_set By0 hley
  obtain ⟨y2, hy2⟩ : ∃ y, y1.setCell ⟨S2, 1, none⟩ (.bool dn) = y := ⟨_, rfl⟩
  have zy1 : y1.cell? ⟨S2, 1, none⟩ = some (.bool false) := cell_at ky1 rfl
  have fy1 : y1.frozen? ⟨S2, 1, none⟩ = false := frozen_at ky1 1
  have ky2 : y2.heap[S2]? = some (.cells #[.int .i64 xid, .bool dn, .int .i64 0, .string ⟨#[]⟩, .int .i64 0, .int .i64 0, .int .i64 0, .int .i64 0, .int .i64 0, .string ⟨#[]⟩] 46) := by rw [← hy2]; exact set_at ky1 1 _
  have By2 : Below w1.heap.size w1 y2 := by rw [← hy2]; exact below_set By1 hley
  clear ky1 By1
  obtain ⟨y3, hy3⟩ : ∃ y, y2.setCell ⟨S2, 2, none⟩ (.int .i64 fl) = y := ⟨_, rfl⟩
  have zy2 : y2.cell? ⟨S2, 2, none⟩ = some (.int .i64 0) := cell_at ky2 rfl
  have fy2 : y2.frozen? ⟨S2, 2, none⟩ = false := frozen_at ky2 2
  have ky3 : y3.heap[S2]? = some (.cells #[.int .i64 xid, .bool dn, .int .i64 fl, .string ⟨#[]⟩, .int .i64 0, .int .i64 0, .int .i64 0, .int .i64 0, .int .i64 0, .string ⟨#[]⟩] 46) := by rw [← hy3]; exact set_at ky2 2 _
  have By3 : Below w1.heap.size w1 y3 := by rw [← hy3]; exact below_set By2 hley
  clear ky2 By2
  obtain ⟨y4, hy4⟩ : ∃ y, y3.setCell ⟨S2, 3, none⟩ (.string bo) = y := ⟨_, rfl⟩
  have zy3 : y3.cell? ⟨S2, 3, none⟩ = some (.string ⟨#[]⟩) := cell_at ky3 rfl
  have fy3 : y3.frozen? ⟨S2, 3, none⟩ = false := frozen_at ky3 3
  have ky4 : y4.heap[S2]? = some (.cells #[.int .i64 xid, .bool dn, .int .i64 fl, .string bo, .int .i64 0, .int .i64 0, .int .i64 0, .int .i64 0, .int .i64 0, .string ⟨#[]⟩] 46) := by rw [← hy4]; exact set_at ky3 3 _
  have By4 : Below w1.heap.size w1 y4 := by rw [← hy4]; exact below_set By3 hley
  clear ky3 By3
  obtain ⟨y5, hy5⟩ : ∃ y, y4.setCell ⟨S2, 4, none⟩ (.int .i64 acc) = y := ⟨_, rfl⟩
  have zy4 : y4.cell? ⟨S2, 4, none⟩ = some (.int .i64 0) := cell_at ky4 rfl
  have fy4 : y4.frozen? ⟨S2, 4, none⟩ = false := frozen_at ky4 4
  have ky5 : y5.heap[S2]? = some (.cells #[.int .i64 xid, .bool dn, .int .i64 fl, .string bo, .int .i64 acc, .int .i64 0, .int .i64 0, .int .i64 0, .int .i64 0, .string ⟨#[]⟩] 46) := by rw [← hy5]; exact set_at ky4 4 _
  have By5 : Below w1.heap.size w1 y5 := by rw [← hy5]; exact below_set By4 hley
  clear ky4 By4
  obtain ⟨y6, hy6⟩ : ∃ y, y5.setCell ⟨S2, 5, none⟩ (.int .i64 rej) = y := ⟨_, rfl⟩
  have zy5 : y5.cell? ⟨S2, 5, none⟩ = some (.int .i64 0) := cell_at ky5 rfl
  have fy5 : y5.frozen? ⟨S2, 5, none⟩ = false := frozen_at ky5 5
  have ky6 : y6.heap[S2]? = some (.cells #[.int .i64 xid, .bool dn, .int .i64 fl, .string bo, .int .i64 acc, .int .i64 rej, .int .i64 0, .int .i64 0, .int .i64 0, .string ⟨#[]⟩] 46) := by rw [← hy6]; exact set_at ky5 5 _
  have By6 : Below w1.heap.size w1 y6 := by rw [← hy6]; exact below_set By5 hley
  clear ky5 By5
  obtain ⟨y7, hy7⟩ : ∃ y, y6.setCell ⟨S2, 6, none⟩ (.int .i64 why) = y := ⟨_, rfl⟩
  have zy6 : y6.cell? ⟨S2, 6, none⟩ = some (.int .i64 0) := cell_at ky6 rfl
  have fy6 : y6.frozen? ⟨S2, 6, none⟩ = false := frozen_at ky6 6
  have ky7 : y7.heap[S2]? = some (.cells #[.int .i64 xid, .bool dn, .int .i64 fl, .string bo, .int .i64 acc, .int .i64 rej, .int .i64 why, .int .i64 0, .int .i64 0, .string ⟨#[]⟩] 46) := by rw [← hy7]; exact set_at ky6 6 _
  have By7 : Below w1.heap.size w1 y7 := by rw [← hy7]; exact below_set By6 hley
  clear ky6 By6
  obtain ⟨y8, hy8⟩ : ∃ y, y7.setCell ⟨S2, 7, none⟩ (.int .i64 low) = y := ⟨_, rfl⟩
  have zy7 : y7.cell? ⟨S2, 7, none⟩ = some (.int .i64 0) := cell_at ky7 rfl
  have fy7 : y7.frozen? ⟨S2, 7, none⟩ = false := frozen_at ky7 7
  have ky8 : y8.heap[S2]? = some (.cells #[.int .i64 xid, .bool dn, .int .i64 fl, .string bo, .int .i64 acc, .int .i64 rej, .int .i64 why, .int .i64 low, .int .i64 0, .string ⟨#[]⟩] 46) := by rw [← hy8]; exact set_at ky7 7 _
  have By8 : Below w1.heap.size w1 y8 := by rw [← hy8]; exact below_set By7 hley
  clear ky7 By7
  obtain ⟨y9, hy9⟩ : ∃ y, y8.setCell ⟨S2, 8, none⟩ (.int .i64 high) = y := ⟨_, rfl⟩
  have zy8 : y8.cell? ⟨S2, 8, none⟩ = some (.int .i64 0) := cell_at ky8 rfl
  have fy8 : y8.frozen? ⟨S2, 8, none⟩ = false := frozen_at ky8 8
  have ky9 : y9.heap[S2]? = some (.cells #[.int .i64 xid, .bool dn, .int .i64 fl, .string bo, .int .i64 acc, .int .i64 rej, .int .i64 why, .int .i64 low, .int .i64 high, .string ⟨#[]⟩] 46) := by rw [← hy9]; exact set_at ky8 8 _
  have By9 : Below w1.heap.size w1 y9 := by rw [← hy9]; exact below_set By8 hley
  clear ky8 By8
  obtain ⟨w2, hw2⟩ : ∃ y, y9.setCell ⟨S2, 9, none⟩ (.string res) = y := ⟨_, rfl⟩
  have zy9 : y9.cell? ⟨S2, 9, none⟩ = some (.string ⟨#[]⟩) := cell_at ky9 rfl
  have fy9 : y9.frozen? ⟨S2, 9, none⟩ = false := frozen_at ky9 9
  have kw2 : w2.heap[S2]? = some (.cells #[.int .i64 xid, .bool dn, .int .i64 fl, .string bo, .int .i64 acc, .int .i64 rej, .int .i64 why, .int .i64 low, .int .i64 high, .string res] 46) := by rw [← hw2]; exact set_at ky9 9 _
  have Bw2 : Below w1.heap.size w1 w2 := by rw [← hw2]; exact below_set By9 hley
  clear ky9 By9
  clear ky0 By0 hley
  have HB2 : Hid (Below w0.heap.size w0 w2) := ((drewB w0 nq).trans hb1).trans (Bw2.mono hb1.size)
  have HK2 := hid kw2
  have r0 : w2.cell? ⟨S2, 0, none⟩ = some (.int .i64 xid) := cell_at kw2 rfl
  have s0 : w2.cell? ⟨S, 0, none⟩ = some (.int .i64 src) := cell_at ((HB2.out.block S HH.out.2.2.2.2.1).trans HH.out.2.2.2.1) rfl
  obtain ⟨K2, hK2⟩ : ∃ K2, ext w0 (ext w K (fun _ => t + 7)) (fun _ => t + 7) = K2 := ⟨_, rfl⟩
  have P2 : PC K2 w2 B t p c oa cap next now L D vw vd q := by rw [← hK2]; exact HH.out.2.1.below HB2.out (fun _ => t + 7)
  have m2 : Mv (fun _ => False) w w2 K K2 := by rw [← hK2]; exact (Mv.of_below HH.out.2.2.1 K _).trans (Mv.of_below HB2.out _ _)
  have HBw : Hid (Below w.heap.size w w2) := HH.out.2.2.1.trans (HB2.out.mono HH.out.2.2.1.size)
  have HK : Hid (K2 S2 = t + 7) := by
    rw [← hK2]
    refine ext_new ?_
    have := hb1.size
    have h2 : (w0.drewN nq).heap.size = w0.heap.size := rfl
    omega
  clear kw2 Bw2 hb1 HB2 hK2
  by_cases he : er = 0
  case neg =>
    have hne : (er != 0) = true := by simpa using he
    have HE := hid he
    clear P2 m2 he
    go_wp2
    go_ret
    exact .inl ⟨rfl, .inr (.inl HE.out), HBw.out⟩
  subst he
  have hI := P2.index_any S2 S xid src r0 s0 HL.out.1
  have HI := hid hI
  have c14 := P2.ce (k := 14) rfl
  obtain ⟨o14, c14', ew, _, hg⟩ := P2.wr.form
  rw [List.length_map] at ew hg
  subst ew
  obtain ⟨n, hn⟩ : ∃ n, L.length = n := ⟨_, rfl⟩
  rw [hn] at c14 HI
  have HP2 := hid P2
  have HM2 := hid m2
  have HG := hid hg
  have HN := hid hn
  clear P2 m2 hI hg hn
  go_wp2_with fail
  refine HI.out.mono ?_
  clear HI
  rintro _ w3 ⟨⟨nk, hw3⟩, hor⟩
  rcases hor with ⟨A, x, R, hLe, hea, hx, hA⟩ | ⟨rfl, hno⟩
  case inr =>
    have HF : Hid (∀ y ∈ L, hitW rr.xid src y = false) := by rw [hxid]; exact hno
    have HBB : Hid (Below w.heap.size w w3) := by rw [hw3]; exact HBw.out.trans ((drewB w2 nk).mono HBw.out.size)
    clear hno hw3 r0 s0
    go_wp2
    go_ret
    exact .inl ⟨rfl, .inr (.inr HF.out), HBB.out⟩
  obtain ⟨a, ha⟩ : ∃ a, A.length = a := ⟨_, rfl⟩
  rw [ha] at hea
  subst hea
  have han : a < n := by rw [← HN.out, hLe, ← ha]; simp
  have hai : (a : Int) < (n : Int) := by omega
  obtain ⟨g, rfl⟩ := HG.out (by rw [HN.out]; omega)
  have P3 := HP2.out.to (mv_drewN w2 K2 nk) (fun _ e => e.elim)
  rw [← hw3] at P3
  have m3 : Mv (fun _ => False) w w3 K K2 := HM2.out.trans (by rw [hw3]; exact mv_drewN w2 K2 nk)
  have c14 : w3.cell? ⟨p, 14, none⟩ = some (.slice (some ⟨g, 0, none⟩) n c14') := by rw [← HN.out]; exact P3.ce (k := 14) rfl
  have xg : w3.cell? ⟨g, a, none⟩ = some (ptr x.b) := by
    have := P3.wr.cell ptrL (by rw [List.length_map]) (j := a) (x := x.b) (by rw [hLe, List.map_append, List.getElem?_append_right (by simp; omega)]; simp [ha]) 0 (by omega)
    simpa [ptrC] using this
  have hxm : x ∈ L := by rw [hLe]; simp
  have hx3 := (P3.cs x hxm).me
  have x6 : w3.cell? ⟨x.b, 6, none⟩ = some (.int .i64 x.tms) := cell_at hx3.at_ rfl
  have x7 : w3.cell? ⟨x.b, 7, none⟩ = some (.int .i64 x.last) := cell_at hx3.at_ rfl
  have c13 : w3.cell? ⟨p, 13, none⟩ = some (.int .i64 now) := P3.ce (k := 13) rfl
  have c16 : w3.cell? ⟨p, 16, none⟩ = some (ptr q.blk) := P3.ce (k := 16) rfl
  have k3 : w3.heap[S2]? = some (.cells #[.int .i64 xid, .bool dn, .int .i64 fl, .string bo, .int .i64 acc, .int .i64 rej, .int .i64 why, .int .i64 low, .int .i64 high, .string res] 46) := by rw [hw3]; exact HK2.out
  have hnow := HH.out.2.2.2.2.2 x hxm
  have HX : Hid (A.length = a ∧ L = A ++ x :: R ∧ hitW xid src x = true ∧ (∀ y ∈ A, hitW xid src y = false)) := ⟨ha, hLe, hx, hA⟩
  have hxt : x.seq = xid := by
    unfold hitW at hx
    simp only [Bool.and_eq_true, decide_eq_true_eq] at hx
    exact hx.1
  have HQ : Hid (∀ w4 q', PC K2 w4 B t p c oa cap next now L D (.slice (some ⟨g, 0, none⟩) L.length c14') vd q' → Mv (fun u => u = t + 5) w3 w4 K2 K2 → MqR q q' now x →
      w4.heap[S2]? = some (.cells #[.int .i64 xid, .bool dn, .int .i64 fl, .string bo, .int .i64 acc, .int .i64 rej, .int .i64 why, .int .i64 low, .int .i64 high, .string res] 46) ∧ ∀ w5, Below w4.heap.size w4 w5 → Calls Tryz.prog 58 #[ptr p, .int .i64 (a : Int), .agg (ocC (outOf rr)).toArray] w5 fun e w' => (∃ v, e = .returned v) ∧ w'.cell? ⟨S2, 0, none⟩ = some (.int .i64 xid) ∧ Hid (∃ K' vw' vd' q', PC K' w' B t p c oa cap next now (A ++ R) (D ++ [{ outOf rr with seq := x.seq, at_ := now }]) vw' vd' q' ∧ MqR q q' now x ∧ Mv (fun u => u = t ∨ u = t + 1 ∨ u = t + 2 ∨ u = t + 5) w w' K K')) := by
    intro w4 q' P4 m4 hq
    have hl3 := (Array.getElem?_eq_some_iff.1 k3).1
    have k4 : w4.heap[S2]? = some (.cells #[.int .i64 xid, .bool dn, .int .i64 fl, .string bo, .int .i64 acc, .int .i64 rej, .int .i64 why, .int .i64 low, .int .i64 high, .string res] 46) := (m4.kept S2 hl3 (by rw [HK.out]; omega)).trans k3
    have hl4 := (Array.getElem?_eq_some_iff.1 k4).1
    refine ⟨k4, fun w5 hb5 => ?_⟩
    have P5 := P4.below hb5 (fun _ => t + 7)
    have m5 := Mv.of_below hb5 K2 (fun _ => t + 7)
    have hK5 : ext w4 K2 (fun _ => t + 7) S2 = t + 7 := (ext_old hl4).trans HK.out
    generalize ext w4 K2 (fun _ => t + 7) = K5 at P5 m5 hK5
    rw [hLe] at P5
    have hf := PC.finish_any (L1 := A) (L2 := R) (x := x) P5 (outOf rr) HL.out.2 (by have := HL.out.1; rw [hLe] at this; simp at this; omega)
    rw [ha] at hf
    refine hf.mono ?_
    rintro e w6 ⟨he, hh⟩
    obtain ⟨K6, vw6, vd6, P6, m6⟩ := hh.out
    have hl5 : S2 < w5.heap.size := Nat.lt_of_lt_of_le hl4 hb5.size
    refine ⟨he, ?_, ⟨K6, vw6, vd6, q', P6, hq, (m3.mono (fun _ e => e.elim)).trans ((m4.mono (fun u e => .inr (.inr (.inr e)))).trans ((m5.mono (fun _ e => e.elim)).trans (m6.mono (fun u e => e.elim .inl (fun e => e.elim (fun e => .inr (.inl e)) (fun e => .inr (.inr (.inl e))))))))⟩⟩
    exact cell_at (((m6.kept S2 hl5 (by rw [hK5]; omega)).trans (hb5.block S2 hl4)).trans k4) rfl
  have hfin : ∀ (e : Ending) (w6 : World), Hid (∃ K' vw' vd' q', PC K' w6 B t p c oa cap next now (A ++ R) (D ++ [{ outOf rr with seq := x.seq, at_ := now }]) vw' vd' q' ∧ MqR q q' now x ∧ Mv (fun u => u = t ∨ u = t + 1 ∨ u = t + 2 ∨ u = t + 5) w w6 K K') → e = .returned (.int .i64 xid) → HearQ K w w6 B t p c oa cap next now L D q src c.ad (rr, 0) e := by
    intro e w6 h6 he
    exact .inr ⟨A, x, R, by rw [hxid]; exact he, rfl, rfl, hLe, by rw [hxid]; exact hx, by rw [hxid]; exact hA, h6⟩
  have HFin := hid hfin
  by_cases h1 : x.tms = 1
  case neg =>
    have ht1 : (x.tms == 1) = false := by simpa using h1
    obtain ⟨k4, H5⟩ := HQ.out w3 q P3 (Mv.refl _ _ _) ⟨rfl, fun _ => rfl, fun e => absurd e h1⟩
    have H5 := hid H5
    have rv0 : w3.cell? ⟨S2, 0, none⟩ = some (.int .i64 xid) := cell_at k4 rfl
    have rv1 : w3.cell? ⟨S2, 1, none⟩ = some (.bool dn) := cell_at k4 rfl
    have rv2 : w3.cell? ⟨S2, 2, none⟩ = some (.int .i64 fl) := cell_at k4 rfl
    have rv3 : w3.cell? ⟨S2, 3, none⟩ = some (.string bo) := cell_at k4 rfl
    have rv4 : w3.cell? ⟨S2, 4, none⟩ = some (.int .i64 acc) := cell_at k4 rfl
    have rv5 : w3.cell? ⟨S2, 5, none⟩ = some (.int .i64 rej) := cell_at k4 rfl
    have rv6 : w3.cell? ⟨S2, 6, none⟩ = some (.int .i64 why) := cell_at k4 rfl
    have rv7 : w3.cell? ⟨S2, 7, none⟩ = some (.int .i64 low) := cell_at k4 rfl
    have rv8 : w3.cell? ⟨S2, 8, none⟩ = some (.int .i64 high) := cell_at k4 rfl
    have rv9 : w3.cell? ⟨S2, 9, none⟩ = some (.string res) := cell_at k4 rfl
    clear P3 m3 HX hx hA HQ hfin k3 k4 h1 hxt hxm hx3 hnow HK2 HP2 HM2 HBw HK hLe ha hw3 r0 s0 x7 c13 c16
    go_wp2_with fail
    refine (HO.out _).mono ?_
    rintro _ w5 ⟨rfl, hb5⟩
    have H6 := hid (H5.out w5 hb5)
    clear H5 hb5
    go_wp2_with fail
    refine H6.out.mono ?_
    rintro _ w6 ⟨⟨v6, rfl⟩, r6, H7⟩
    clear H6
    go_wp2
    go_ret
    exact HFin.out _ _ H7 rfl
  obtain ⟨a', b', hm, htw⟩ := P3.meter_any (now - x.last)
  have hsb : wrap64 (now - x.last) = now - x.last := by unfold wrap64; omega
  have hsi : IntKind.i64.wrap (now - x.last) = now - x.last := by rw [IntWalk.i64_left]; exact hsb
  have s0' : w3.drew.cell? ⟨p, 16, none⟩ = some (ptr q.blk) ∧ w3.drew.cell? ⟨p, 13, none⟩ = some (.int .i64 now) ∧ w3.drew.cell? ⟨x.b, 7, none⟩ = some (.int .i64 x.last) := ⟨c16, c13, x7⟩
  have HM : Hid (Calls Tryz.prog 86 #[ptr q.blk, .int .i64 (now - x.last)] w3.drew fun e w' => e = .returned (.tuple #[]) ∧ w'.heap[S2]? = some (.cells #[.int .i64 xid, .bool dn, .int .i64 fl, .string bo, .int .i64 acc, .int .i64 rej, .int .i64 why, .int .i64 low, .int .i64 high, .string res] 46) ∧ Hid (∀ w5, Below w'.heap.size w' w5 → Calls Tryz.prog 58 #[ptr p, .int .i64 (a : Int), .agg (ocC (outOf rr)).toArray] w5 fun e w' => (∃ v, e = .returned v) ∧ w'.cell? ⟨S2, 0, none⟩ = some (.int .i64 xid) ∧ Hid (∃ K' vw' vd' q', PC K' w' B t p c oa cap next now (A ++ R) (D ++ [{ outOf rr with seq := x.seq, at_ := now }]) vw' vd' q' ∧ MqR q q' now x ∧ Mv (fun u => u = t ∨ u = t + 1 ∨ u = t + 2 ∨ u = t + 5) w w' K K'))) := by
    refine (hm 1).mono ?_
    rintro e w4 ⟨he, h4⟩
    obtain ⟨k4, h5⟩ := HQ.out w4 _ h4.out.1 h4.out.2 ⟨rfl, fun e => absurd h1 e, fun _ => ⟨rfl, htw⟩⟩
    exact ⟨he, k4, h5⟩
  obtain ⟨df, hdf⟩ : ∃ df, now - x.last = df := ⟨_, rfl⟩
  rw [hdf] at hsb hsi HM
  rw [h1] at x6
  clear P3 m3 HX hx hA HQ hfin k3 h1 hxt hxm hx3 hnow HK2 HP2 HM2 HBw HK hLe ha hw3 r0 s0 hm htw
  go_wp2_with fail
  refine wp_region_last (S := fun w' => w'.cell? ⟨p, 16, none⟩ = some (ptr q.blk) ∧ w'.cell? ⟨p, 13, none⟩ = some (.int .i64 now) ∧ w'.cell? ⟨x.b, 7, none⟩ = some (.int .i64 x.last)) (n := 13) (by kernel_rfl) rfl (by kernel_rfl) (by kernel_rfl) ?_ (fun hHeld => ?_)
  · exact s0'
  refine wpAnyH_take (i := 0) (v := ?_) rfl (by kernel_rfl) (by kernel_rfl) (by kernel_rfl) (fun _ _ _ h => h) (Or.inl ⟨by rfl, ?_⟩) (by assumption) ?_
  rotate_left
  · (intro w hSw; (try dsimp only at hSw); go_simp; try with_reducible rfl)
  try simp only [Act.put]
  try simp only [List.setIfInBounds_toArray]
  try simp only [List.set_cons_succ]
  try simp only [List.set_cons_zero]
  refine wpAnyH_take (i := 1) (v := ?_) rfl (by kernel_rfl) (by kernel_rfl) (by kernel_rfl) (fun _ _ _ h => h) (Or.inl ⟨by rfl, ?_⟩) (by assumption) ?_
  rotate_left
  · (intro w hSw; (try dsimp only at hSw); go_simp; try with_reducible rfl)
  try simp only [Act.put]
  try simp only [List.setIfInBounds_toArray]
  try simp only [List.set_cons_succ]
  try simp only [List.set_cons_zero]
  refine wpAnyH_take (i := 2) (v := ?_) rfl (by kernel_rfl) (by kernel_rfl) (by kernel_rfl) (fun _ _ _ h => h) (Or.inl ⟨by rfl, ?_⟩) (by assumption) ?_
  rotate_left
  · (intro w hSw; (try dsimp only at hSw); go_simp; try with_reducible rfl)
  try simp only [Act.put]
  try simp only [List.setIfInBounds_toArray]
  try simp only [List.set_cons_succ]
  try simp only [List.set_cons_zero]
  refine wpAnyH_take (i := 3) (v := ?_) rfl (by kernel_rfl) (by kernel_rfl) (by kernel_rfl) (fun _ _ _ h => h) (Or.inl ⟨by rfl, ?_⟩) (by assumption) ?_
  rotate_left
  · (intro w hSw; (try dsimp only at hSw); go_simp; try with_reducible rfl)
  try simp only [Act.put]
  try simp only [List.setIfInBounds_toArray]
  try simp only [List.set_cons_succ]
  try simp only [List.set_cons_zero]
  refine wpAnyH_take (i := 4) (v := ?_) rfl (by kernel_rfl) (by kernel_rfl) (by kernel_rfl) (fun _ _ _ h => h) (Or.inl ⟨by rfl, ?_⟩) (by assumption) ?_
  rotate_left
  · (intro w hSw; (try dsimp only at hSw); go_simp; try with_reducible rfl)
  try simp only [Act.put]
  try simp only [List.setIfInBounds_toArray]
  try simp only [List.set_cons_succ]
  try simp only [List.set_cons_zero]
  refine wpAnyH_take (i := 5) (v := ?_) rfl (by kernel_rfl) (by kernel_rfl) (by kernel_rfl) (fun _ _ _ h => h) (Or.inl ⟨by rfl, ?_⟩) (by assumption) ?_
  rotate_left
  · (intro w hSw; (try dsimp only at hSw); go_simp; try with_reducible rfl)
  try simp only [Act.put]
  try simp only [List.setIfInBounds_toArray]
  try simp only [List.set_cons_succ]
  try simp only [List.set_cons_zero]
  refine wpAnyH_take (i := 6) (v := ?_) rfl (by kernel_rfl) (by kernel_rfl) (by kernel_rfl) (fun _ _ _ h => h) (Or.inl ⟨by rfl, ?_⟩) (by assumption) ?_
  rotate_left
  · (intro w hSw; (try dsimp only at hSw); go_simp; try with_reducible rfl)
  try simp only [Act.put]
  try simp only [List.setIfInBounds_toArray]
  try simp only [List.set_cons_succ]
  try simp only [List.set_cons_zero]
  refine wpAnyH_take (i := 7) (v := ?_) rfl (by kernel_rfl) (by kernel_rfl) (by kernel_rfl) (fun _ _ _ h => h) (Or.inl ⟨by rfl, ?_⟩) (by assumption) ?_
  rotate_left
  · (intro w hSw; (try dsimp only at hSw); go_simp; try with_reducible rfl)
  try simp only [Act.put]
  try simp only [List.setIfInBounds_toArray]
  try simp only [List.set_cons_succ]
  try simp only [List.set_cons_zero]
  refine wpAnyH_take (i := 8) (v := ?_) rfl (by kernel_rfl) (by kernel_rfl) (by kernel_rfl) (fun _ _ _ h => h) (Or.inl ⟨by rfl, ?_⟩) (by assumption) ?_
  rotate_left
  · (intro w hSw; (try dsimp only at hSw); go_simp; try with_reducible rfl)
  try simp only [Act.put]
  try simp only [List.setIfInBounds_toArray]
  try simp only [List.set_cons_succ]
  try simp only [List.set_cons_zero]
  refine wpAnyH_take (i := 9) (v := ?_) rfl (by kernel_rfl) (by kernel_rfl) (by kernel_rfl) (fun _ _ _ h => h) (Or.inl ⟨by rfl, ?_⟩) (by assumption) ?_
  rotate_left
  · (intro w hSw; (try dsimp only at hSw); go_simp; try with_reducible rfl)
  try simp only [Act.put]
  try simp only [List.setIfInBounds_toArray]
  try simp only [List.set_cons_succ]
  try simp only [List.set_cons_zero]
  refine wpAnyH_take (i := 10) (v := ?_) rfl (by kernel_rfl) (by kernel_rfl) (by kernel_rfl) (fun _ _ _ h => h) (Or.inl ⟨by rfl, ?_⟩) (by assumption) ?_
  rotate_left
  · (intro w hSw; (try dsimp only at hSw); go_simp; try with_reducible rfl)
  try simp only [Act.put]
  try simp only [List.setIfInBounds_toArray]
  try simp only [List.set_cons_succ]
  try simp only [List.set_cons_zero]
  refine wpAnyH_take (i := 11) (v := ?_) rfl (by kernel_rfl) (by kernel_rfl) (by kernel_rfl) (fun _ _ _ h => h) (Or.inl ⟨by rfl, ?_⟩) (by assumption) ?_
  rotate_left
  · (intro w hSw; (try dsimp only at hSw); go_simp; try with_reducible rfl)
  try simp only [Act.put]
  try simp only [List.setIfInBounds_toArray]
  try simp only [List.set_cons_succ]
  try simp only [List.set_cons_zero]
  refine wpAnyH_take (i := 12) (v := ?_) rfl (by kernel_rfl) (by kernel_rfl) (by kernel_rfl) (fun _ _ _ h => h) (Or.inl ⟨by rfl, ?_⟩) (by assumption) ?_
  rotate_left
  · (intro w hSw; (try dsimp only at hSw); go_simp; try with_reducible rfl)
  try simp only [Act.put]
  try simp only [List.setIfInBounds_toArray]
  try simp only [List.set_cons_succ]
  try simp only [List.set_cons_zero]
  refine wpAnyH_done (by kernel_rfl) ?_ _
  refine LastQ.done ?_
  refine wpOp_step (i := 13) rfl (fun KK hK => ?_)
  have HK := hid hK
  clear hK
  go_simp
  refine HM.out.mono ?_
  rintro _ w4 ⟨rfl, k4, H5⟩
  have rv0 : w4.cell? ⟨S2, 0, none⟩ = some (.int .i64 xid) := cell_at k4 rfl
  have rv1 : w4.cell? ⟨S2, 1, none⟩ = some (.bool dn) := cell_at k4 rfl
  have rv2 : w4.cell? ⟨S2, 2, none⟩ = some (.int .i64 fl) := cell_at k4 rfl
  have rv3 : w4.cell? ⟨S2, 3, none⟩ = some (.string bo) := cell_at k4 rfl
  have rv4 : w4.cell? ⟨S2, 4, none⟩ = some (.int .i64 acc) := cell_at k4 rfl
  have rv5 : w4.cell? ⟨S2, 5, none⟩ = some (.int .i64 rej) := cell_at k4 rfl
  have rv6 : w4.cell? ⟨S2, 6, none⟩ = some (.int .i64 why) := cell_at k4 rfl
  have rv7 : w4.cell? ⟨S2, 7, none⟩ = some (.int .i64 low) := cell_at k4 rfl
  have rv8 : w4.cell? ⟨S2, 8, none⟩ = some (.int .i64 high) := cell_at k4 rfl
  have rv9 : w4.cell? ⟨S2, 9, none⟩ = some (.string res) := cell_at k4 rfl
  refine HK.out _ _ ?_
  clear HK
  clear HM x6 x7 c13 c16 c14 xg hHeld
  go_wp2_with fail
  refine (HO.out _).mono ?_
  rintro _ w5 ⟨rfl, hb5⟩
  have H6 := hid (H5.out w5 hb5)
  clear H5 hb5
  go_wp2_with fail
  refine H6.out.mono ?_
  rintro _ w6 ⟨⟨v6, rfl⟩, r6, H7⟩
  clear H6
  go_wp2
  go_ret
  exact HFin.out _ _ H7 rfl
end
end Go.Proofs.YtfcbjcebkahehaaGreatDoor.Cl
namespace Go.Proofs.YtfcbjcebkahehaaGreatDoor.Cl
open Go.RowKit
def intC (n : Int) : List Value := [.int .i64 n]
theorem intL (n : Int) : (intC n).length = 1 := rfl
theorem intO (n : Int) : ∀ u ∈ intC n, u.oneCell' = true := by
  intro u hu
  simp only [intC, List.mem_cons, List.not_mem_nil, or_false] at hu
  subst hu; rfl
theorem info3i : ∃ i z, Tryz.prog.info? 3 = some i ∧ i.zero = some z ∧ i.size = 1 ∧ i.bytes = 8 ∧ z.cells.size = 1 :=
  ⟨(Tryz.prog.info? 3).getD default, .int .i64 0, by kernel_rfl, by kernel_rfl, by kernel_rfl, by kernel_rfl, by kernel_rfl⟩
theorem under24 : Tryz.prog.underlying 24 = some (.slice 3) := by kernel_rfl
theorem bls24n (n : Int) (w : World) : (Instr.buildSlice 24 1 #[(0, .int .i64 n)]).run Tryz.prog w = .ok (.slice (some ⟨w.heap.size, 0, none⟩) 1 1) (w.alloc (.cells #[.int .i64 n] 3)) := by kernel_rfl
theorem app24 {K : Nat → Nat} {w : World} {B t : Nat} {v : Value} {l : List Int} (h : RW 3 1 intC K w B t v l) (hB : B ≤ w.heap.size) {N : Nat} {x : Int} (hb : w.heap[N]? = some (.cells #[.int .i64 x] 3 (0, 0))) (hl : l.length ≤ 100000000) :
    ∃ oa c w' K', (∀ r, (Builtin.append_ #[24, 24] r #[v, .slice (some ⟨N, 0, none⟩) 1 1]).run Tryz.prog w = .ok (.slice oa (l.length + 1) c) w') ∧ RW 3 1 intC K' w' B t (.slice oa (l.length + 1) c) (l ++ [x]) ∧ Mv (fun x => x = t) w w' K K' := by
  obtain ⟨i, z, hi, hz, hs, hby, hzs⟩ := info3i
  obtain ⟨v', w', K', q1, q2, q3⟩ := RW.app (ty := 24) under24 hi hz hs hby hzs (by omega) intL intO h hB (N := N) (x := x) (cs := (intC x).toArray) rfl hb (by omega) (by omega)
  obtain ⟨oa, c, e, _, _⟩ := q2.form
  rw [List.length_append, List.length_singleton] at e
  subst e
  exact ⟨oa, c, w', K', q1, q2, q3⟩
/-- the same, the new thing laid down first -/
theorem app24n {K : Nat → Nat} {w : World} {B t : Nat} {v : Value} {l : List Int} (h : RW 3 1 intC K w B t v l) (hB : B ≤ w.heap.size) (x : Int) (hl : l.length ≤ 100000000) :
    ∃ oa c w' K', (∀ r, (Builtin.append_ #[24, 24] r #[v, .slice (some ⟨w.heap.size, 0, none⟩) 1 1]).run Tryz.prog (w.alloc (.cells #[.int .i64 x] 3)) = .ok (.slice oa (l.length + 1) c) w') ∧ RW 3 1 intC K' w' B t (.slice oa (l.length + 1) c) (l ++ [x]) ∧ Mv (fun x => x = t) w w' K K' := by
  have m := Mv.alloc w K (fun _ => t + 1) (.cells #[.int .i64 x] 3)
  obtain ⟨oa, c, w', K', r, R, m2⟩ := app24 (h.mv m (fun e => e)) (Nat.le_trans hB m.size) (MapKept.heap_alloc w _).1 hl
  exact ⟨oa, c, w', K', r, R, (m.mono (fun _ e => e.elim)).trans m2⟩
section
variable {K K' : Nat → Nat} {w w' : World} {B t p : Nat} {c : Cf} {oa : Option Addr} {cap : Nat} {next now : Int} {L : List Wt} {D : List Oc} {vw vd : Value} {q : Mq}
set_option maxRecDepth 8000 in
set_option maxHeartbeats 4000000 in
theorem PC.waiting_any (h : PC K w B t p c oa cap next now L D vw vd q) (tp : Nat) (htp : t + 8 < tp) (hL : L.length ≤ 100000000) :
    Calls Tryz.prog 36 #[ptr p] w fun e w' => ∃ v, e = .returned v ∧ Hid (∃ K', RW 3 1 intC K' w' B tp v (L.map Wt.seq) ∧ Mv (fun u => u = tp) w w' K K') := by
  have c14 := h.ce (k := 14) rfl
  obtain ⟨o14, c14', ew, _, hg⟩ := h.wr.form
  rw [List.length_map] at ew hg
  subst ew
  obtain ⟨n, hn⟩ : ∃ n, L.length = n := ⟨_, rfl⟩
  rw [hn] at c14
  have HH := hid h
  have HG := hid hg
  have HN := hid hn
  have HB := hid hL
  clear h hg hn hL
  go_enter Tryz.func36, Tryz.ntmps36
  go_wp2_with fail
  go_loopw [11, 3] (fun u11 u3 wr => ∃ (j : Nat) (o : Option Addr) (cp : Nat), u11 = .int .i64 (j : Int) ∧ u3 = .slice o j cp ∧ j ≤ n ∧ Hid (∃ K', RW 3 1 intC K' wr B tp (.slice o j cp) ((L.take j).map Wt.seq) ∧ Mv (fun u => u = tp) w wr K K')) (fun u11 _ _ => n - (intOf u11).toNat)
  case atStart => exact ⟨0, none, 0, rfl, rfl, by omega, K, RW.nil _ _ _ _ _ _ _, Mv.refl _ _ _⟩
  case round =>
    obtain ⟨j, o, cp, rfl, rfl, hjn, HR⟩ := hrel
    clear c14
    obtain ⟨wo, hwo⟩ : ∃ yy, yy = wr := ⟨_, rfl⟩
    subst hwo
    by_cases hj : j < n
    · have hji : (j : Int) < (n : Int) := by omega
      obtain ⟨g, rfl⟩ := HG.out (by have := HN.out; omega)
      obtain ⟨K1, R1, m1⟩ := HR.out
      have P1 := HH.out.toOther m1 htp
      obtain ⟨x, hx⟩ : ∃ x, L[j]? = some x := ⟨_, List.getElem?_eq_getElem (by have := HN.out; omega)⟩
      have xg : wo.cell? ⟨g, j, none⟩ = some (ptr x.b) := by
        have := P1.wr.cell ptrL (by rw [List.length_map]) (j := j) (x := x.b) (by simp [List.getElem?_map, hx]) 0 (by omega)
        simpa [ptrC] using this
      have x0 : wo.cell? ⟨x.b, 0, none⟩ = some (.int .i64 x.seq) := cell_at (P1.cs x (List.mem_of_getElem? hx)).me.at_ rfl
      obtain ⟨N, hN⟩ : ∃ y, wo.heap.size = y := ⟨_, rfl⟩
      obtain ⟨wn, hwn⟩ : ∃ y, wo.alloc (.cells #[.int .i64 x.seq] 3) = y := ⟨_, rfl⟩
      have htk : ((L.take j).map Wt.seq).length = j := by rw [List.length_map, List.length_take, HN.out]; omega
      obtain ⟨o2, cp2, w2, K2, hr, R2, m2⟩ := app24n R1 P1.hB x.seq (by rw [htk]; have := HB.out; rw [HN.out] at this; omega)
      rw [htk, hN, hwn] at hr
      rw [htk] at R2
      have HRun := hid hr
      have HF : Hid (∃ K', RW 3 1 intC K' w2 B tp (.slice o2 (j + 1) cp2) ((L.take (j + 1)).map Wt.seq) ∧ Mv (fun u => u = tp) w w2 K K') := by
        refine ⟨K2, ?_, m1.trans m2⟩
        rw [List.take_add_one, hx]
        simpa using R2
      have hb := fun n w => bls24n n w
      have hj1 : wrap64 ((j : Int) + 1) = (j : Int) + 1 := wrapS (by have := HB.out; rw [HN.out] at this; omega)
      clear P1 R1 m1 hx htk hr R2 m2 HR
      go_wp2_with (at_builtin; refine Hid.out ?_)
      refine (show Hid _ from ?_)
      refine wpList_app rfl _ _ 24 rfl _ _ _ _ rfl rfl (HRun.out _) ?_
      go_wp2
      go_roundw
      case rel => exact ⟨j + 1, o2, cp2, by rw [hj1]; simp, by simp, by omega, HF.out⟩
      case measure => exact meas hj1 hji
    · obtain rfl : j = n := by omega
      have HF : Hid (∃ K', RW 3 1 intC K' wo B tp (.slice o j cp) (L.map Wt.seq) ∧ Mv (fun u => u = tp) w wo K K') := by
        have := HR.out
        rwa [List.take_of_length_le (by rw [HN.out]; omega)] at this
      clear HR
      go_wp2
      go_ret
      exact ⟨_, rfl, HF.out⟩
end
set_option maxRecDepth 8000 in
/-- two rows of numbers compared -/
theorem ints_any {K : Nat → Nat} {w : World} {B t B' t' : Nat} {v v' : Value} {l m : List Int} (h : RW 3 1 intC K w B t v l) (h' : RW 3 1 intC K w B' t' v' m) (hl : l.length ≤ 100000000) :
    Calls Tryz.prog 38 #[v, v'] w fun e w' => e = .returned (.bool (decide (l = m))) ∧ ∃ k, w' = w.drewN k := by
  obtain ⟨o1, c1, rfl, _, hg1⟩ := h.form
  obtain ⟨o2, c2, rfl, _, hg2⟩ := h'.form
  by_cases hlen : l.length = m.length
  case neg =>
    have hd : decide (l = m) = false := decide_eq_false (fun e => hlen (by rw [e]))
    rw [hd]
    obtain ⟨a, ha⟩ : ∃ a, l.length = a := ⟨_, rfl⟩
    obtain ⟨b, hb⟩ : ∃ b, m.length = b := ⟨_, rfl⟩
    have hab : a ≠ b := by rw [← ha, ← hb]; exact hlen
    rw [ha, hb]
    have hne : ((a : Int) != (b : Int)) = true := by rw [bne_iff_ne]; omega
    have hne2 : ((a : Int) == (b : Int)) = false := by rw [beq_eq_false_iff_ne]; omega
    clear h h' hg1 hg2 hl ha hb hd hlen hab
    go_enter Tryz.func38, Tryz.ntmps38
    go_wp2
    go_ret
    exact ⟨rfl, 0, rfl⟩
  obtain ⟨n, hn⟩ : ∃ n, l.length = n := ⟨_, rfl⟩
  have hm : m.length = n := by omega
  have HH : Hid (RW 3 1 intC K w B t (.slice o1 n c1) l ∧ RW 3 1 intC K w B' t' (.slice o2 n c2) m) := ⟨by rw [← hn]; exact h, by rw [← hm]; exact h'⟩
  have HG := hid (And.intro hg1 hg2)
  have HN := hid (And.intro hn hm)
  have HB : Hid (n ≤ 100000000) := by rw [← hn]; exact hl
  rw [hn, hm]
  clear h h' hg1 hg2 hl hlen hn hm
  go_enter Tryz.func38, Tryz.ntmps38
  go_wp2_with fail
  go_loopw [5] (fun u5 wr => ∃ (j : Nat), u5 = .int .i64 (j : Int) ∧ j ≤ n ∧ Hid ((∃ k, wr = w.drewN k) ∧ ∀ i, i < j → l[i]? = m[i]?)) (fun u5 _ => n - (intOf u5).toNat)
  case atStart => exact ⟨0, rfl, by omega, ⟨0, rfl⟩, fun i hi => by omega⟩
  case round =>
    obtain ⟨j, rfl, hjn, HR⟩ := hrel
    obtain ⟨wo, hwo⟩ : ∃ yy, yy = wr := ⟨_, rfl⟩
    subst hwo
    obtain ⟨k, hk⟩ := HR.out.1
    by_cases hj : j < n
    · have hji : (j : Int) < (n : Int) := by omega
      obtain ⟨g1, rfl⟩ := HG.out.1 (by have := HN.out.1; omega)
      obtain ⟨g2, rfl⟩ := HG.out.2 (by have := HN.out.2; omega)
      obtain ⟨x, hx⟩ : ∃ x, l[j]? = some x := ⟨_, List.getElem?_eq_getElem (by have := HN.out.1; omega)⟩
      obtain ⟨y, hy⟩ : ∃ y, m[j]? = some y := ⟨_, List.getElem?_eq_getElem (by have := HN.out.2; omega)⟩
      have e1 : wo.cell? ⟨g1, j, none⟩ = some (.int .i64 x) := by
        have := HH.out.1.cell intL HN.out.1 hx 0 (by omega)
        rw [hk]
        show w.cell? _ = _
        simpa [intC] using this
      have e2 : wo.cell? ⟨g2, j, none⟩ = some (.int .i64 y) := by
        have := HH.out.2.cell intL HN.out.2 hy 0 (by omega)
        rw [hk]
        show w.cell? _ = _
        simpa [intC] using this
      have hj1 : wrap64 ((j : Int) + 1) = (j : Int) + 1 := wrapS (by have := HB.out; omega)
      by_cases hxy : x = y
      · subst hxy
        have HF : Hid (∀ k2, (∃ k, wo.drewN k2 = w.drewN k) ∧ ∀ i, i < j + 1 → l[i]? = m[i]?) := fun k2 => ⟨⟨k + k2, by rw [hk]; simp [World.drewN, Nat.add_assoc]⟩, fun i hi => by
          rcases Nat.lt_or_ge i j with h | h
          · exact HR.out.2 i h
          · obtain rfl : i = j := by omega
            rw [hx, hy]⟩
        clear hx hy HR hk
        go_wp2_with fail
        go_quiet (fail)
        go_wp2
        go_roundw
        case rel => exact ⟨j + 1, by rw [hj1]; simp, by omega, HF.out _⟩
        case measure => exact meas hj1 hji
      · have hne : (x != y) = true := by simpa using hxy
        have HF : Hid (decide (l = m) = false ∧ ∀ k2, ∃ k, wo.drewN k2 = w.drewN k) := ⟨decide_eq_false (fun e => hxy (by rw [e, hy] at hx; exact (Option.some.inj hx).symm)), fun k2 => ⟨k + k2, by rw [hk]; simp [World.drewN, Nat.add_assoc]⟩⟩
        clear hx hy hxy HR hk
        go_wp2_with fail
        go_quiet (fail)
        go_wp2
        go_ret
        exact ⟨by rw [HF.out.1]; rfl, HF.out.2 _⟩
    · obtain rfl : j = n := by omega
      have HF : Hid (decide (l = m) = true ∧ ∃ k, wo = w.drewN k) := ⟨decide_eq_true (List.ext_getElem? fun i => by
        rcases Nat.lt_or_ge i j with h | h
        · exact HR.out.2 i h
        · rw [List.getElem?_eq_none (by rw [HN.out.1]; exact h), List.getElem?_eq_none (by rw [HN.out.2]; exact h)]), HR.out.1⟩
      clear HR hj hk
      go_wp2
      go_ret
      exact ⟨by rw [HF.out.1]; rfl, HF.out.2⟩
end Go.Proofs.YtfcbjcebkahehaaGreatDoor.Cl
namespace Go.Proofs.YtfcbjcebkahehaaGreatDoor.Cl
open Go.RowKit
/-- a config of the law -/
structure OnC (c : Cf) : Prop where
  ad : c.ad = 65537
  inst : c.inst = 5
  first : c.first = 9
  w1 : 1 ≤ c.win
  w2 : c.win ≤ 6
  b1 : 1 ≤ c.pb
  b2 : c.pb ≤ 5
  c1 : c.pb ≤ c.pc
  c2 : c.pc ≤ 24
  t1 : 1 ≤ c.pt
  t2 : c.pt ≤ 5
  sys : c.sys = ⟨0, [], 0, 0, []⟩
theorem sys0_may : SysP.may ⟨0, [], 0, 0, []⟩ := by
  unfold SysP.may
  refine ⟨by decide, by decide, by decide, by decide, by decide, fun g hg => by cases hg⟩
theorem OnC.right {c : Cf} (h : OnC c) : Pc.rightP c.pb c.pc c.pt = true := by
  obtain ⟨_, _, _, _, _, h1, h2, h3, h4, h5, h6, _⟩ := h
  unfold Pc.rightP Pc.inB
  simp only [Bool.and_eq_true, decide_eq_true_eq]
  omega
theorem OnC.ok {c : Cf} (h : OnC c) : okC c = true := by
  have hr := h.right
  have hs := h.sys
  obtain ⟨h1, h2, h3, h4, h5, _⟩ := h
  unfold okC inB
  rw [hr, hs]
  simp only [Bool.and_eq_true, decide_eq_true_eq]
  exact ⟨sys0_may, by omega, by omega, by omega, by omega, trivial⟩
theorem dbl_pos {c : Int} : ∀ k (v : Int), 0 ≤ v → 0 ≤ Pc.dbl c k v
  | 0, v, h => h
  | k + 1, v, h => by
    unfold Pc.dbl
    split
    · exact dbl_pos k _ (by omega)
    · exact h
theorem OnC.wait {c : Cf} (h : OnC c) (n : Int) : 0 ≤ Pc.waitP c.pb c.pc c.pt n ∧ Pc.waitP c.pb c.pc c.pt n ≤ 24 := by
  unfold Pc.waitP
  rw [if_pos h.right]
  have := dbl_pos (c := c.pc) n.toNat c.pb (by have := h.b1; omega)
  have := h.c2
  have := h.c1
  have := h.b1
  omega
theorem totP_le {c : Cf} (h : OnC c) : ∀ k : Nat, 0 ≤ Pc.totP c.pb c.pc c.pt k ∧ Pc.totP c.pb c.pc c.pt k ≤ k * 24
  | 0 => by simp [Pc.totP]
  | k + 1 => by
    have h1 := totP_le h k
    have h2 := h.wait k
    unfold Pc.totP
    omega
theorem OnC.total {c : Cf} (h : OnC c) : 0 ≤ Pc.totalP c.pb c.pc c.pt ∧ Pc.totalP c.pb c.pc c.pt ≤ 120 := by
  unfold Pc.totalP
  rw [if_pos h.right]
  have h1 := totP_le h c.pt.toNat
  have := h.t1
  have := h.t2
  omega
theorem wait0 {c : Cf} (h : OnC c) : 1 ≤ Pc.waitP c.pb c.pc c.pt 0 := by
  unfold Pc.waitP
  rw [if_pos h.right]
  show 1 ≤ min (Pc.dbl c.pc 0 c.pb) c.pc
  have : Pc.dbl c.pc 0 c.pb = c.pb := rfl
  rw [this]
  have := h.b1
  have := h.c1
  omega
theorem totP_pos {c : Cf} (h : OnC c) : ∀ k : Nat, 1 ≤ Pc.totP c.pb c.pc c.pt (k + 1)
  | 0 => by
    have := wait0 h
    show 1 ≤ Pc.totP c.pb c.pc c.pt 0 + Pc.waitP c.pb c.pc c.pt ((0 : Nat) : Int)
    have e : Pc.totP c.pb c.pc c.pt 0 = 0 := rfl
    rw [e]
    exact (by omega : 1 ≤ 0 + Pc.waitP c.pb c.pc c.pt 0)
  | k + 1 => by
    have h1 := totP_pos h k
    have h2 := h.wait ((k + 1 : Nat) : Int)
    show 1 ≤ Pc.totP c.pb c.pc c.pt (k + 1) + Pc.waitP c.pb c.pc c.pt ((k + 1 : Nat) : Int)
    omega
theorem OnC.tpos {c : Cf} (h : OnC c) : 1 ≤ Pc.totalP c.pb c.pc c.pt := by
  unfold Pc.totalP
  rw [if_pos h.right]
  obtain ⟨k, hk⟩ : ∃ k, c.pt.toNat = k + 1 := ⟨c.pt.toNat - 1, by have := h.t1; omega⟩
  rw [hk]
  exact totP_pos h k
theorem runG_in {c : Cf} (h : OnC c) (now : Int) : ∀ k (s : Int × Int), s.1 ≤ c.pt → s.1 ≤ (runG c.pb c.pc c.pt now k s).1 ∧ (runG c.pb c.pc c.pt now k s).1 ≤ c.pt ∧ s.2 ≤ (runG c.pb c.pc c.pt now k s).2 ∧ (runG c.pb c.pc c.pt now k s).2 ≤ s.2 + ((runG c.pb c.pc c.pt now k s).1 - s.1) * 24
  | 0, s, hs => by simp only [runG]; omega
  | k + 1, s, hs => by
    cases hd : dueB c.pt now s.1 s.2
    · rw [runG_stop hd]; omega
    · rw [runG_go hd]
      have hd' : s.1 < c.pt := by
        unfold dueB at hd
        simp only [Bool.and_eq_true, decide_eq_true_eq] at hd
        exact hd.1
      have := runG_in h now k (s.1 + 1, s.2 + Pc.waitP c.pb c.pc c.pt s.1) (by show s.1 + 1 ≤ _; omega)
      have hw := h.wait s.1
      dsimp only at this
      omega
theorem runG_end {c : Cf} (now : Int) : ∀ (k : Nat) (s : Int × Int), c.pt - s.1 ≤ (k : Int) → dueB c.pt now (runG c.pb c.pc c.pt now k s).1 (runG c.pb c.pc c.pt now k s).2 = false
  | 0, s, hs => by
    simp only [runG]
    unfold dueB
    rw [decide_eq_false (by omega)]
    rfl
  | k + 1, s, hs => by
    cases hd : dueB c.pt now s.1 s.2
    · rw [runG_stop hd]; exact hd
    · rw [runG_go hd]
      exact runG_end now k _ (by show c.pt - (s.1 + 1) ≤ _; omega)
/-- what was issued -/
structure Is where
  seq : Int
  at_ : Int
  sent : Int
  over : Bool
/-- a call that waits, and what the book says of it -/
structure RI (c : Cf) (now : Int) (i : Is) (x : Wt) : Prop where
  seq : x.seq = i.seq
  dst : x.dst = 65636
  prog : x.prog = 7
  vers : x.vers = 1
  proc : x.proc = 2
  args : x.args = [97, 98, 99, 100]
  fin : x.fin = i.at_ + Pc.totalP c.pb c.pc c.pt
  tms : x.tms = i.sent
  s0 : 0 ≤ i.sent
  s1 : i.sent ≤ x.snd
  s2 : x.snd ≤ c.pt
  a0 : 0 ≤ i.at_
  a1 : i.at_ ≤ now
  d0 : 0 ≤ x.due
  d1 : x.due ≤ now + x.snd * 24
  l0 : 0 ≤ x.last
  l1 : x.last ≤ now
theorem RI.later {c : Cf} {now : Int} {i : Is} {x : Wt} (h : RI c now i x) : RI c (now + 1) i x :=
  ⟨h.seq, h.dst, h.prog, h.vers, h.proc, h.args, h.fin, h.tms, h.s0, h.s1, h.s2, h.a0, by have := h.a1; omega, h.d0, by have := h.d1; omega, h.l0, by have := h.l1; omega⟩
theorem RI.fine {c : Cf} (hc : OnC c) {now : Int} {i : Is} {x : Wt} (h : RI c now i x) (hn : now ≤ 1000000000) : x.fine := by
  have h1 := h.s0; have h2 := h.s1; have h3 := h.s2; have h4 := h.d0; have h5 := h.d1; have h6 := h.tms; have h7 := hc.t2
  refine ⟨by omega, ⟨by omega, by omega⟩, ⟨by omega, by omega⟩, by rw [h.args]; decide⟩
theorem RI.give {c : Cf} (hc : OnC c) {now : Int} {i : Is} {x : Wt} (h : RI c now i x) (hd : dueW c now x = true) : RI c now { i with sent := i.sent + 1 } (givW c now x) := by
  have hg : runG c.pb c.pc c.pt now 40 (x.snd, x.due) = runG c.pb c.pc c.pt now 39 (x.snd + 1, x.due + Pc.waitP c.pb c.pc c.pt x.snd) := runG_go (s := (x.snd, x.due)) hd 39
  have hlt : x.snd < c.pt ∧ x.due ≤ now := by
    unfold dueW dueB at hd
    simpa using hd
  have hr := runG_in hc now 39 (x.snd + 1, x.due + Pc.waitP c.pb c.pc c.pt x.snd) (by show x.snd + 1 ≤ _; omega)
  have hw := hc.wait x.snd
  have a0 := h.a0; have a1 := h.a1; have l0 := h.l0; have d0 := h.d0; have d1 := h.d1; have s0 := h.s0; have s1 := h.s1; have ht := h.tms
  refine ⟨h.seq, h.dst, h.prog, h.vers, h.proc, h.args, h.fin, ?_, ?_, ?_, ?_, h.a0, h.a1, ?_, ?_, ?_, ?_⟩
  · show x.tms + 1 = i.sent + 1; omega
  · show 0 ≤ i.sent + 1; omega
  · show i.sent + 1 ≤ (runG c.pb c.pc c.pt now 40 (x.snd, x.due)).1
    rw [hg]; dsimp only at hr; omega
  · show (runG c.pb c.pc c.pt now 40 (x.snd, x.due)).1 ≤ c.pt
    rw [hg]; exact hr.2.1
  · show 0 ≤ (runG c.pb c.pc c.pt now 40 (x.snd, x.due)).2
    rw [hg]; dsimp only at hr; omega
  · show (runG c.pb c.pc c.pt now 40 (x.snd, x.due)).2 ≤ now + (runG c.pb c.pc c.pt now 40 (x.snd, x.due)).1 * 24
    rw [hg]; dsimp only at hr; omega
  · show 0 ≤ now; omega
  · exact Int.le_refl now
theorem givW_idle {c : Cf} (hc : OnC c) (now : Int) {x : Wt} (h : 0 ≤ x.snd) : dueW c now (givW c now x) = false :=
  runG_end (c := c) now 40 (x.snd, x.due) (by show c.pt - x.snd ≤ 40; have := hc.t2; omega)
/-- how the book, the calls that wait and the outcomes fit: n1, n2 are waters of old -/
structure OM (c : Cf) (now next : Int) (I : List Is) (L : List Wt) (D : List Oc) (n1 n2 : Int) : Prop where
  num : ∀ (k : Nat) (i : Is), I[k]? = some i → i.seq = 9 + k
  nxt : next = 9 + I.length
  now0 : 0 ≤ now
  wt : ∀ x ∈ L, ∃ (k : Nat) (i : Is), I[k]? = some i ∧ i.over = false ∧ RI c now i x ∧ now < x.fin
  dn : ∀ d ∈ D, ∃ (k : Nat) (i : Is), I[k]? = some i ∧ i.over = false ∧ d.seq = i.seq ∧ d.at_ = now ∧ (now ≤ i.at_ + Pc.totalP c.pb c.pc c.pt ∧ 0 ≤ i.at_ ∧ i.at_ ≤ now)
  all : ∀ (k : Nat) (i : Is), I[k]? = some i → i.over = false → (∃ x ∈ L, x.seq = i.seq) ∨ (∃ d ∈ D, d.seq = i.seq)
  srt : L.Pairwise (fun a b => a.seq < b.seq ∧ a.fin ≤ b.fin)
  dis : (D.map Oc.seq).Nodup ∧ ∀ d ∈ D, ∀ x ∈ L, d.seq ≠ x.seq
  win : ∀ x ∈ L, next - x.seq ≤ c.win
  lo : ∀ x ∈ L, n1 ≤ x.seq ∧ n2 ≤ x.seq
  lon : n1 ≤ next ∧ n2 ≤ next
section
variable {c : Cf} {now next : Int} {I : List Is} {L : List Wt} {D : List Oc} {n1 n2 : Int}
theorem OM.same_at (h : OM c now next I L D n1 n2) {k k' : Nat} {i i' : Is} (h1 : I[k]? = some i) (h2 : I[k']? = some i') (e : i.seq = i'.seq) : k = k' ∧ i = i' := by
  have a := h.num k i h1
  have b := h.num k' i' h2
  have : k = k' := by omega
  subst this
  rw [h1] at h2
  exact ⟨rfl, Option.some.inj h2⟩
theorem OM.seq_lt (h : OM c now next I L D n1 n2) {x : Wt} (hx : x ∈ L) : 9 ≤ x.seq ∧ x.seq < next := by
  obtain ⟨k, i, h1, h2, h3, _⟩ := h.wt x hx
  have a := h.num k i h1
  have b := h.nxt
  have := (List.getElem?_eq_some_iff.1 h1).1
  have := h3.seq
  omega
theorem OM.water (h : OM c now next I L D n1 n2) (hw : 1 ≤ c.win) : n1 ≤ waterL next L ∧ n2 ≤ waterL next L ∧ next - waterL next L ≤ c.win ∧ 9 ≤ waterL next L ∧ waterL next L ≤ next := by
  cases L with
  | nil =>
    have h1 := h.lon
    have h2 := h.nxt
    unfold waterL
    dsimp only
    omega
  | cons x L =>
    have h1 := h.lo x (by simp)
    have h2 := h.win x (by simp)
    have h3 := h.seq_lt (x := x) (by simp)
    unfold waterL
    dsimp only
    omega
theorem water_le (srt : L.Pairwise (fun a b => a.seq < b.seq ∧ a.fin ≤ b.fin)) {x : Wt} (hx : x ∈ L) : waterL next L ≤ x.seq := by
  cases L with
  | nil => cases hx
  | cons y L =>
    unfold waterL
    dsimp only
    rcases List.mem_cons.1 hx with e | e
    · rw [e]; exact Int.le_refl _
    · have := (List.pairwise_cons.1 srt).1 x e
      omega
end
end Go.Proofs.YtfcbjcebkahehaaGreatDoor.Cl
namespace Go.Proofs.YtfcbjcebkahehaaGreatDoor.Cl
open Go.RowKit
theorem OM.start (c : Cf) : OM c 0 9 [] [] [] 0 0 :=
  ⟨fun k i h => by simp at h, rfl, Int.le_refl _, fun x h => (by cases h), fun d h => (by cases h), fun k i h => by simp at h, List.Pairwise.nil, ⟨List.nodup_nil, fun d h => (by cases h)⟩, fun x h => (by cases h), fun x h => (by cases h), by omega, by omega⟩
/-- over now -/
def mark1 (I : List Is) (s : Int) : List Is := I.modify (s - 9).toNat (fun i => { i with over := true })
/-- sent once more -/
def bump1 (I : List Is) (s : Int) : List Is := I.modify (s - 9).toNat (fun i => { i with sent := i.sent + 1 })
theorem mod_len (I : List Is) (k : Nat) (f : Is → Is) : (I.modify k f).length = I.length := by simp
theorem mod_at {I : List Is} {k j : Nat} {f : Is → Is} {i : Is} (h : (I.modify k f)[j]? = some i) : ∃ i0, I[j]? = some i0 ∧ ((k = j ∧ i = f i0) ∨ (k ≠ j ∧ i = i0)) := by
  rw [List.getElem?_modify] at h
  cases hj : I[j]? with
  | none => rw [hj] at h; simp at h
  | some i0 =>
    rw [hj] at h
    refine ⟨i0, rfl, ?_⟩
    by_cases hk : k = j
    · simp only [if_pos hk] at h; exact .inl ⟨hk, (Option.some.inj h).symm⟩
    · simp only [if_neg hk] at h; exact .inr ⟨hk, (Option.some.inj h).symm⟩
theorem mod_is {I : List Is} {k : Nat} {f : Is → Is} {i : Is} (h : I[k]? = some i) : (I.modify k f)[k]? = some (f i) := by rw [List.getElem?_modify, h]; simp
theorem mod_ne {I : List Is} {k j : Nat} {f : Is → Is} {i : Is} (h : I[j]? = some i) (hk : k ≠ j) : (I.modify k f)[j]? = some i := by rw [List.getElem?_modify, h]; simp [hk]
section
variable {c : Cf} {now next : Int} {I : List Is} {L : List Wt} {D : List Oc} {n1 n2 : Int}
theorem OM.call (h : OM c now next I L [] n1 n2) (hc : OnC c) {x : Wt} {fin : Int} (hx : x.isNew 65636 7 1 2 [97, 98, 99, 100] now fin next) (hf : fin = now + Pc.totalP c.pb c.pc c.pt) (hw : next - waterL next L < c.win) : OM c now (next + 1) (I ++ [⟨next, now, 0, false⟩]) (L ++ [x]) [] n1 n2 := by
  obtain ⟨e1, e2, e3, e4, e5, e6, e7, e8, e9, e10, e11⟩ := hx
  have hn := h.nxt
  have hp := hc.tpos
  have h0 := h.now0
  have hpt := hc.t1
  have hnew : (I ++ [(⟨next, now, 0, false⟩ : Is)])[I.length]? = some ⟨next, now, 0, false⟩ := by simp
  have hold : ∀ {k : Nat} {i : Is}, I[k]? = some i → (I ++ [(⟨next, now, 0, false⟩ : Is)])[k]? = some i := fun hk => by
    rw [List.getElem?_append_left (List.getElem?_eq_some_iff.1 hk).1]; exact hk
  have hinv : ∀ {k : Nat} {i : Is}, (I ++ [(⟨next, now, 0, false⟩ : Is)])[k]? = some i → I[k]? = some i ∨ (k = I.length ∧ i = ⟨next, now, 0, false⟩) := fun {k i} hk => by
    rcases Nat.lt_or_ge k I.length with hl | hl
    · rw [List.getElem?_append_left hl] at hk; exact .inl hk
    · rw [List.getElem?_append_right hl] at hk
      have : k - I.length = 0 := by
        have := (List.getElem?_eq_some_iff.1 hk).1
        simp at this; omega
      rw [this] at hk
      exact .inr ⟨by omega, by simpa using hk.symm⟩
  refine ⟨fun k i hk => ?_, by simp; omega, h0, fun y hy => ?_, fun d hd => (by cases hd), fun k i hk ho => ?_, ?_, ⟨List.nodup_nil, fun d h => (by cases h)⟩, fun y hy => ?_, fun y hy => ?_, by have := h.lon; omega⟩
  · rcases hinv hk with e | ⟨rfl, rfl⟩
    · exact h.num k i e
    · exact hn
  · rcases List.mem_append.1 hy with e | e
    · obtain ⟨k, i, a1, a2, a3, a4⟩ := h.wt y e
      exact ⟨k, i, hold a1, a2, a3, a4⟩
    · simp at e
      subst e
      exact ⟨I.length, _, hnew, rfl, ⟨e11, e1, e2, e3, e4, e5, e8.trans hf, e9, Int.le_refl _, by rw [e6]; exact Int.le_refl 0, by rw [e6]; omega, h0, Int.le_refl _, by rw [e7]; exact h0, by rw [e7, e6]; omega, by rw [e10]; omega, by rw [e10]; exact h0⟩, by rw [e8, hf]; omega⟩
  · rcases hinv hk with e | ⟨rfl, rfl⟩
    · rcases h.all k i e ho with ⟨y, hy, he⟩ | ⟨d, hd, _⟩
      · exact .inl ⟨y, List.mem_append_left _ hy, he⟩
      · cases hd
    · exact .inl ⟨x, by simp, e11⟩
  · rw [List.pairwise_append]
    refine ⟨h.srt, by simp, fun y hy z hz => ?_⟩
    simp at hz
    subst hz
    obtain ⟨k, i, a1, a2, a3, a4⟩ := h.wt y hy
    have := h.seq_lt hy
    have := a3.fin
    have := a3.a1
    exact ⟨by rw [e11]; omega, by rw [e8, hf]; omega⟩
  · rcases List.mem_append.1 hy with e | e
    · have := water_le (next := next) h.srt e
      omega
    · simp at e
      subst e
      have := hc.w1
      rw [e11]; omega
  · have := h.lon
    rcases List.mem_append.1 hy with e | e
    · exact h.lo y e
    · simp at e
      subst e
      rw [e11]; omega
theorem OM.raise (h : OM c now next I L D n1 n2) : OM c now next I L D (waterL next L) n2 :=
  ⟨h.num, h.nxt, h.now0, h.wt, h.dn, h.all, h.srt, h.dis, h.win, fun x hx => ⟨water_le h.srt hx, (h.lo x hx).2⟩, ⟨by
    cases L with
    | nil => exact Int.le_refl _
    | cons y L => have := h.seq_lt (x := y) (by simp); unfold waterL; dsimp only; omega, h.lon.2⟩⟩
theorem OM.raise2 (h : OM c now next I L D n1 n2) : OM c now next I L D n1 (waterL next L) :=
  ⟨h.num, h.nxt, h.now0, h.wt, h.dn, h.all, h.srt, h.dis, h.win, fun x hx => ⟨(h.lo x hx).1, water_le h.srt hx⟩, ⟨h.lon.1, by
    cases L with
    | nil => exact Int.le_refl _
    | cons y L => have := h.seq_lt (x := y) (by simp); unfold waterL; dsimp only; omega⟩⟩
theorem srt_apart {A B : List Wt} (h : (A ++ B).Pairwise (fun a b => a.seq < b.seq ∧ a.fin ≤ b.fin)) {x y : Wt} (hx : x ∈ A) (hy : y ∈ B) : x.seq < y.seq ∧ x.fin ≤ y.fin := (List.pairwise_append.1 h).2.2 x hx y hy
theorem OM.hear {A R : List Wt} {x : Wt} (h : OM c now next I (A ++ x :: R) [] n1 n2) {o : Oc} (hs : o.seq = x.seq) (ha : o.at_ = now) : OM c now next I (A ++ R) [o] n1 n2 := by
  have hm : ∀ y ∈ A ++ R, y ∈ A ++ x :: R := fun y hy => by
    rcases List.mem_append.1 hy with e | e
    · exact List.mem_append_left _ e
    · exact List.mem_append_right _ (List.mem_cons_of_mem _ e)
  have hne : ∀ y ∈ A ++ R, y.seq ≠ x.seq := fun y hy => by
    rcases List.mem_append.1 hy with e | e
    · have := (srt_apart h.srt e (y := x) (by simp)).1; omega
    · have := (List.pairwise_cons.1 (List.pairwise_append.1 h.srt).2.1).1 y e; omega
  obtain ⟨k, i, a1, a2, a3, a4⟩ := h.wt x (by simp)
  refine ⟨h.num, h.nxt, h.now0, fun y hy => h.wt y (hm y hy), fun d hd => ?_, fun k' i' hk ho => ?_, h.srt.sublist (List.Sublist.append (List.Sublist.refl _) (List.sublist_cons_self _ _)), ⟨by simp, fun d hd y hy => ?_⟩, fun y hy => h.win y (hm y hy), fun y hy => h.lo y (hm y hy), h.lon⟩
  · simp at hd
    subst hd
    have := a3.fin
    have := a3.a0
    have := a3.a1
    exact ⟨k, i, a1, a2, hs.trans a3.seq, ha, by omega, by omega, by omega⟩
  · rcases h.all k' i' hk ho with ⟨y, hy, he⟩ | ⟨d, hd, _⟩
    · rcases List.mem_append.1 hy with e | e
      · exact .inl ⟨y, List.mem_append_left _ e, he⟩
      · rcases List.mem_cons.1 e with rfl | e
        · exact .inr ⟨o, by simp, hs.trans he⟩
        · exact .inl ⟨y, List.mem_append_right _ e, he⟩
    · cases hd
  · simp at hd
    subst hd
    rw [hs]
    exact fun e => hne y hy e.symm
theorem take_app (p : Wt → Bool) (L : List Wt) : L.takeWhile p ++ L.dropWhile p = L := List.takeWhile_append_dropWhile
theorem drop_keeps {p : Wt → Bool} (now : Int) (hp : p = overB now) : ∀ (L : List Wt), L.Pairwise (fun a b => a.seq < b.seq ∧ a.fin ≤ b.fin) → ∀ x ∈ L.dropWhile p, now < x.fin
  | [], _, x, hx => by cases hx
  | y :: L, hs, x, hx => by
    cases hy : p y
    · rw [List.dropWhile_cons_of_neg (by simp [hy])] at hx
      have h1 : now < y.fin := by
        rw [hp] at hy
        unfold overB at hy
        have := of_decide_eq_false hy
        omega
      rcases List.mem_cons.1 hx with e | e
      · rw [e]; exact h1
      · have := (List.pairwise_cons.1 hs).1 x e
        omega
    · rw [List.dropWhile_cons_of_pos hy] at hx
      exact drop_keeps now hp L (List.pairwise_cons.1 hs).2 x hx
theorem take_over (now : Int) : ∀ (L : List Wt), ∀ x ∈ L.takeWhile (overB now), x.fin ≤ now
  | [], x, hx => by cases hx
  | y :: L, x, hx => by
    cases hy : overB now y
    · rw [List.takeWhile_cons_of_neg (by simp [hy])] at hx; cases hx
    · rw [List.takeWhile_cons_of_pos hy] at hx
      rcases List.mem_cons.1 hx with e | e
      · rw [e]
        unfold overB at hy
        exact of_decide_eq_true hy
      · exact take_over now L x e
theorem OM.tick (h : OM c now next I L [] n1 n2) : OM c (now + 1) next I (L.dropWhile (overB (now + 1))) ((L.takeWhile (overB (now + 1))).map (tOut (now + 1))) n1 n2 := by
  obtain ⟨A, hA⟩ : ∃ A, L.takeWhile (overB (now + 1)) = A := ⟨_, rfl⟩
  obtain ⟨R, hR⟩ : ∃ R, L.dropWhile (overB (now + 1)) = R := ⟨_, rfl⟩
  have hAR : A ++ R = L := by rw [← hA, ← hR]; exact take_app _ L
  have hmR : ∀ y ∈ R, y ∈ L := fun y hy => by rw [← hAR]; exact List.mem_append_right _ hy
  have hmA : ∀ y ∈ A, y ∈ L := fun y hy => by rw [← hAR]; exact List.mem_append_left _ hy
  have hk : ∀ x ∈ R, now + 1 < x.fin := by rw [← hR]; exact drop_keeps (now + 1) rfl L h.srt
  have ho : ∀ x ∈ A, x.fin ≤ now + 1 := by rw [← hA]; exact take_over (now + 1) L
  have hs : (A ++ R).Pairwise (fun a b => a.seq < b.seq ∧ a.fin ≤ b.fin) := by rw [hAR]; exact h.srt
  have h0 := h.now0
  rw [hA, hR]
  refine ⟨h.num, h.nxt, by omega, fun y hy => ?_, fun d hd => ?_, fun k i hk' ho' => ?_, (List.pairwise_append.1 hs).2.1, ⟨?_, fun d hd y hy => ?_⟩, fun y hy => h.win y (hmR y hy), fun y hy => h.lo y (hmR y hy), h.lon⟩
  · obtain ⟨k, i, a1, a2, a3, a4⟩ := h.wt y (hmR y hy)
    exact ⟨k, i, a1, a2, a3.later, hk y hy⟩
  · obtain ⟨x, hx, rfl⟩ := List.mem_map.1 hd
    obtain ⟨k, i, a1, a2, a3, a4⟩ := h.wt x (hmA x hx)
    have := a3.fin
    have := a3.a0
    have := a3.a1
    exact ⟨k, i, a1, a2, a3.seq, rfl, by omega, by omega, by omega⟩
  · rcases h.all k i hk' ho' with ⟨y, hy, he⟩ | ⟨d, hd, _⟩
    · rw [← hAR] at hy
      rcases List.mem_append.1 hy with e | e
      · exact .inr ⟨_, List.mem_map_of_mem e, he⟩
      · exact .inl ⟨y, e, he⟩
    · cases hd
  · have hp := (List.pairwise_append.1 hs).1
    rw [List.map_map]
    refine List.pairwise_map.2 (hp.imp fun {a b} e => ?_)
    show a.seq ≠ b.seq
    omega
  · obtain ⟨x, hx, rfl⟩ := List.mem_map.1 hd
    have := (srt_apart hs hx hy).1
    show x.seq ≠ y.seq
    omega
theorem OM.mark {d : Oc} (h : OM c now next I L (d :: D) n1 n2) : OM c now next (mark1 I d.seq) L D n1 n2 ∧ ∃ (k : Nat) (i : Is), I[k]? = some i ∧ d.seq = 9 + k ∧ i.over = false ∧ d.at_ = now ∧ (now ≤ i.at_ + Pc.totalP c.pb c.pc c.pt ∧ 0 ≤ i.at_ ∧ i.at_ ≤ now) := by
  obtain ⟨k, i, a1, a2, a3, a4, a5⟩ := h.dn d (by simp)
  have hk : d.seq = 9 + k := a3.trans (h.num k i a1)
  have hkn : (d.seq - 9).toNat = k := by omega
  refine ⟨?_, k, i, a1, hk, a2, a4, a5⟩
  unfold mark1
  rw [hkn]
  refine ⟨fun k' i' hk' => ?_, by rw [mod_len]; exact h.nxt, h.now0, fun x hx => ?_, fun d' hd' => ?_, fun k' i' hk' ho => ?_, h.srt, ⟨(List.nodup_cons.1 h.dis.1).2, fun d' hd' => h.dis.2 d' (List.mem_cons_of_mem _ hd')⟩, h.win, h.lo, h.lon⟩
  · obtain ⟨i0, b1, b2 | b2⟩ := mod_at hk'
    · rw [b2.2]; exact h.num k' i0 b1
    · rw [b2.2]; exact h.num k' i0 b1
  · obtain ⟨k', i', b1, b2, b3, b4⟩ := h.wt x hx
    refine ⟨k', i', mod_ne b1 (fun e => ?_), b2, b3, b4⟩
    subst e
    rw [a1] at b1
    cases b1
    exact h.dis.2 d (by simp) x hx (a3.trans b3.seq.symm)
  · obtain ⟨k', i', b1, b2, b3, b4, b5⟩ := h.dn d' (List.mem_cons_of_mem _ hd')
    refine ⟨k', i', mod_ne b1 (fun e => ?_), b2, b3, b4, b5⟩
    subst e
    rw [a1] at b1
    cases b1
    have := (List.nodup_cons.1 (by simpa using h.dis.1 : (d.seq :: D.map Oc.seq).Nodup)).1
    exact this (List.mem_map.2 ⟨d', hd', b3.trans a3.symm⟩)
  · obtain ⟨i0, b1, b2 | b2⟩ := mod_at hk'
    · rw [b2.2] at ho; cases ho
    · rw [b2.2] at ho ⊢
      rcases h.all k' i0 b1 ho with e | ⟨d', hd', he⟩
      · exact .inl e
      · rcases List.mem_cons.1 hd' with rfl | e
        · exact absurd (h.same_at a1 b1 (a3.symm.trans he)).1 b2.1
        · exact .inr ⟨d', e, he⟩
/-- the sequences of the calls without an outcome -/
def novI (I : List Is) : List Int := (I.filter (fun i => !i.over)).map Is.seq
theorem sorted_same : ∀ {a b : List Int}, a.Pairwise (· < ·) → b.Pairwise (· < ·) → (∀ x, x ∈ a ↔ x ∈ b) → a = b
  | [], [], _, _, _ => rfl
  | [], y :: b, _, _, h => by have := (h y).2 (by simp); cases this
  | x :: a, [], _, _, h => by have := (h x).1 (by simp); cases this
  | x :: a, y :: b, ha, hb, h => by
    have ha' := List.pairwise_cons.1 ha
    have hb' := List.pairwise_cons.1 hb
    have hxy : x = y := by
      rcases List.mem_cons.1 ((h x).1 (by simp)) with e | e
      · exact e
      · rcases List.mem_cons.1 ((h y).2 (by simp)) with e2 | e2
        · exact e2.symm
        · have := ha'.1 y e2
          have := hb'.1 x e
          omega
    subst hxy
    rw [sorted_same ha'.2 hb'.2 (fun z => ⟨fun hz => ?_, fun hz => ?_⟩)]
    · rcases List.mem_cons.1 ((h z).1 (List.mem_cons_of_mem _ hz)) with e | e
      · have := ha'.1 z hz; omega
      · exact e
    · rcases List.mem_cons.1 ((h z).2 (List.mem_cons_of_mem _ hz)) with e | e
      · have := hb'.1 z hz; omega
      · exact e
theorem OM.issued (h : OM c now next I L D n1 n2) : I.Pairwise (fun a b => a.seq < b.seq) := by
  rw [List.pairwise_iff_getElem]
  intro i j hi hj hij
  have a := h.num i _ (List.getElem?_eq_getElem hi)
  have b := h.num j _ (List.getElem?_eq_getElem hj)
  omega
theorem OM.nov (h : OM c now next I L [] n1 n2) : novI I = L.map Wt.seq := by
  refine sorted_same ?_ ?_ (fun z => ⟨fun hz => ?_, fun hz => ?_⟩)
  · exact List.pairwise_map.2 ((h.issued.sublist List.filter_sublist).imp fun e => e)
  · exact List.pairwise_map.2 (h.srt.imp fun e => e.1)
  · obtain ⟨i, hi, rfl⟩ := List.mem_map.1 hz
    obtain ⟨hi1, hi2⟩ := List.mem_filter.1 hi
    obtain ⟨k, hk⟩ := List.mem_iff_getElem?.1 hi1
    rcases h.all k i hk (by simpa using hi2) with ⟨x, hx, e⟩ | ⟨d, hd, _⟩
    · exact List.mem_map.2 ⟨x, hx, e⟩
    · cases hd
  · obtain ⟨x, hx, rfl⟩ := List.mem_map.1 hz
    obtain ⟨k, i, a1, a2, a3, _⟩ := h.wt x hx
    exact List.mem_map.2 ⟨i, List.mem_filter.2 ⟨List.mem_of_getElem? a1, by simp [a2]⟩, a3.seq.symm⟩
/-- each call without an outcome ends later -/
theorem OM.soon (h : OM c now next I L [] n1 n2) {k : Nat} {i : Is} (hk : I[k]? = some i) (ho : i.over = false) : now < i.at_ + Pc.totalP c.pb c.pc c.pt ∧ 0 ≤ i.at_ ∧ i.at_ ≤ now := by
  rcases h.all k i hk ho with ⟨x, hx, e⟩ | ⟨d, hd, _⟩
  · obtain ⟨k', i', a1, a2, a3, a4⟩ := h.wt x hx
    obtain ⟨rfl, rfl⟩ := h.same_at a1 hk (a3.seq.symm.trans e)
    have := a3.fin
    have := a3.a0
    have := a3.a1
    omega
  · cases hd
end
end Go.Proofs.YtfcbjcebkahehaaGreatDoor.Cl
namespace Go.Proofs.YtfcbjcebkahehaaGreatDoor.Cl
open Go.RowKit
def isC (i : Is) : List Value := [.int .i64 i.seq, .int .i64 i.at_, .int .i64 i.sent, .bool i.over]
theorem isL (i : Is) : (isC i).length = 4 := rfl
theorem isO (i : Is) : ∀ u ∈ isC i, u.oneCell' = true := by
  intro u hu
  simp only [isC, List.mem_cons, List.not_mem_nil, or_false] at hu
  rcases hu with rfl | rfl | rfl | rfl <;> rfl
theorem info99 : ∃ i z, Tryz.prog.info? 99 = some i ∧ i.zero = some z ∧ i.size = 4 ∧ i.bytes = 32 ∧ z.cells.size = 4 :=
  ⟨(Tryz.prog.info? 99).getD default, .agg #[.int .i64 0, .int .i64 0, .int .i64 0, .bool false], by kernel_rfl, by kernel_rfl, by kernel_rfl, by kernel_rfl, by kernel_rfl⟩
theorem under61 : Tryz.prog.underlying 61 = some (.slice 99) := by kernel_rfl
theorem app61 {K : Nat → Nat} {w : World} {B t : Nat} {v : Value} {l : List Is} (h : RW 99 4 isC K w B t v l) (hB : B ≤ w.heap.size) {N : Nat} {x : Is} (hb : w.heap[N]? = some (.cells (isC x).toArray 99 (0, 0))) (hl : l.length ≤ 100000000) :
    ∃ oa c w' K', (∀ r, (Builtin.append_ #[61, 61] r #[v, .slice (some ⟨N, 0, none⟩) 1 1]).run Tryz.prog w = .ok (.slice oa (l.length + 1) c) w') ∧ RW 99 4 isC K' w' B t (.slice oa (l.length + 1) c) (l ++ [x]) ∧ Mv (fun x => x = t) w w' K K' := by
  obtain ⟨i, z, hi, hz, hs, hby, hzs⟩ := info99
  obtain ⟨v', w', K', q1, q2, q3⟩ := RW.app (ty := 61) under61 hi hz hs hby hzs (by omega) isL isO h hB (N := N) (x := x) (cs := (isC x).toArray) rfl hb (by omega) (by omega)
  obtain ⟨oa, c, e, _, _⟩ := q2.form
  rw [List.length_append, List.length_singleton] at e
  subst e
  exact ⟨oa, c, w', K', q1, q2, q3⟩
theorem RW.is4 {K : Nat → Nat} {w : World} {B t : Nat} {g n cap : Nat} {I : List Is} (h : RW 99 4 isC K w B t (.slice (some ⟨g, 0, none⟩) n cap) I) (hn : I.length = n) {j : Nat} {i : Is} (hi : I[j]? = some i) :
    w.cell? ⟨g, j * 4, none⟩ = some (.int .i64 i.seq) ∧ w.cell? ⟨g, j * 4 + 1, none⟩ = some (.int .i64 i.at_) ∧ w.cell? ⟨g, j * 4 + 2, none⟩ = some (.int .i64 i.sent) ∧ w.cell? ⟨g, j * 4 + 3, none⟩ = some (.bool i.over) :=
  ⟨h.cell isL hn hi 0 (by omega), h.cell isL hn hi 1 (by omega), h.cell isL hn hi 2 (by omega), h.cell isL hn hi 3 (by omega)⟩
theorem RW.frozen {K : Nat → Nat} {w : World} {B t : Nat} {g n cap : Nat} {I : List Is} (h : RW 99 4 isC K w B t (.slice (some ⟨g, 0, none⟩) n cap) I) (k : Nat) : w.frozen? ⟨g, k, none⟩ = false := by
  rcases h.own.2 with ⟨e, _⟩ | ⟨g', cap', cur, e, h1, h2, h3⟩
  · cases e
  · simp only [Value.slice.injEq, Option.some.injEq, Addr.mk.injEq] at e
    obtain ⟨⟨rfl, _⟩, _, rfl⟩ := e
    exact frozen_at h2 _
theorem PC.to' {T : Nat → Prop} {K K' : Nat → Nat} {w w' : World} {B t p : Nat} {c : Cf} {oa : Option Addr} {cap : Nat} {next now : Int} {L : List Wt} {D : List Oc} {vw vd : Value} {q : Mq} (h : PC K w B t p c oa cap next now L D vw vd q) (m : Mv T w w' K K') (ht : ∀ t', T t' → t + 6 < t') : PC K' w' B t p c oa cap next now L D vw vd q := h.to m ht
theorem pick_any (c : Int) (n : Int) (hc : -9223372036854775808 ≤ c ∧ c ≤ 9223372036854775807) (hn : 0 < n) (w : World) : Calls Tryz.prog 10 #[.int .i64 c, .int .i64 n] w fun e w' => ∃ k : Int, e = .returned (.int .i64 k) ∧ 0 ≤ k ∧ k < n ∧ w' = w := by
  by_cases h : c < 0
  · obtain ⟨d, hd⟩ : ∃ d, -(c + 1) = d := ⟨_, rfl⟩
    have hd0 : 0 ≤ d := by omega
    have hk : 0 ≤ d % n ∧ d % n < n := ⟨Int.emod_nonneg _ (by omega), Int.emod_lt_of_pos _ hn⟩
    go_enter Tryz.func10, Tryz.ntmps10
    go_wp2
    go_ret
    exact ⟨_, rfl, by first | exact hk.1 | (rw [hd]; exact hk.1), by first | exact hk.2 | (rw [hd]; exact hk.2), rfl⟩
  · have hk : 0 ≤ c % n ∧ c % n < n := ⟨Int.emod_nonneg _ (by omega), Int.emod_lt_of_pos _ hn⟩
    go_enter Tryz.func10, Tryz.ntmps10
    go_wp2
    go_ret
    exact ⟨_, rfl, hk.1, hk.2, rfl⟩
def ofP (m : Nat) (n : Int) : Int := if 9 ≤ n ∧ n < 9 + m then n - 9 else -1
abbrev lfB (p : Nat) (vi : Value) (n1 n2 : Int) : Obj := .cells #[ptr p, vi, .int .i64 n1, .int .i64 n2] 63
set_option maxRecDepth 8000 in
theorem of_any {K : Nat → Nat} {w : World} {B tx ti xb p : Nat} {vi : Value} {n1 n2 : Int} {I : List Is} (hx : TB K w tx xb (lfB p vi n1 n2)) (hr : RW 99 4 isC K w B ti vi I) (hnum : ∀ (k : Nat) (i : Is), I[k]? = some i → i.seq = 9 + k) (n : Int) (hI : I.length ≤ 100000000) :
    Calls Tryz.prog 48 #[ptr xb, .int .i64 n] w fun e w' => e = .returned (.int .i64 (ofP I.length n)) ∧ w' = w := by
  obtain ⟨o, cp, rfl, _, hg⟩ := hr.form
  obtain ⟨m, hm⟩ : ∃ m, I.length = m := ⟨_, rfl⟩
  rw [hm] at hx hr ⊢
  have c1 : w.cell? ⟨xb, 1, none⟩ = some (.slice o m cp) := cell_at hx.at_ rfl
  have HR := hid hr
  have HG := hid hg
  have HN := hid hnum
  have HM := hid hm
  have HB : Hid (m ≤ 100000000) := by rw [← hm]; exact hI
  clear hx hr hg hnum hm hI
  go_enter Tryz.func48, Tryz.ntmps48
  go_wp2_with fail
  go_loopw [5] (fun u5 wr => ∃ (j : Nat), u5 = .int .i64 (j : Int) ∧ j ≤ m ∧ Hid (wr = w ∧ ¬ (9 ≤ n ∧ n < 9 + (j : Int)))) (fun u5 _ => m - (intOf u5).toNat)
  case atStart => exact ⟨0, rfl, by omega, rfl, by omega⟩
  case round =>
    obtain ⟨j, rfl, hjm, HJ⟩ := hrel
    obtain ⟨wo, hwo⟩ : ∃ yy, yy = wr := ⟨_, rfl⟩
    subst hwo
    obtain ⟨hww, hno⟩ := HJ.out
    subst hww
    by_cases hj : j < m
    · have hji : (j : Int) < (m : Int) := by omega
      obtain ⟨g, rfl⟩ := HG.out (by have := HM.out; omega)
      obtain ⟨i, hi⟩ : ∃ i, I[j]? = some i := ⟨_, List.getElem?_eq_getElem (by have := HM.out; omega)⟩
      have d0 := (HR.out.is4 HM.out hi).1
      have hs := HN.out j i hi
      have hj1 : wrap64 ((j : Int) + 1) = (j : Int) + 1 := wrapS (by have := HB.out; omega)
      by_cases he : i.seq = n
      · have hF : Hid (ofP m n = j) := by
          show _ = _
          unfold ofP
          rw [if_pos (by omega)]
          omega
        rw [he] at d0
        clear hs hno HJ he hi
        go_wp2
        go_ret
        exact ⟨by rw [hF.out]; rfl, rfl⟩
      · have hne : (i.seq == n) = false := by simpa using he
        have HF : Hid (wo = wo ∧ ¬ (9 ≤ n ∧ n < 9 + ((j + 1 : Nat) : Int))) := ⟨rfl, by omega⟩
        clear hs hno HJ he hi
        go_wp2
        go_roundw
        case rel => exact ⟨j + 1, by first | (simp; done) | (rw [hj1]; simp), by omega, trivial, HF.out.2⟩
        case measure => exact meas (by first | rfl | exact hj1) hji
    · obtain rfl : j = m := by omega
      have hF : Hid (ofP j n = -1) := by
        show _ = _
        unfold ofP
        rw [if_neg hno]
      clear hno HJ hj
      go_wp2
      go_ret
      exact ⟨by rw [hF.out]; rfl, rfl⟩
/-- a client's life in memory -/
structure LF (K : Nat → Nat) (w : World) (B t p xb : Nat) (c : Cf) (oa : Option Addr) (cap : Nat) (next now : Int) (L : List Wt) (D : List Oc) (vw vd : Value) (q : Mq) (vi : Value) (I : List Is) (n1 n2 : Int) : Prop where
  pc : PC K w B t p c oa cap next now L D vw vd q
  me : TB K w (t + 20) xb (lfB p vi n1 n2)
  is : RW 99 4 isC K w B (t + 21) vi I
  om : OM c now next I L D n1 n2
  hc : OnC c
  hI : I.length ≤ 50000000
  hn : now ≤ 100000000
section
variable {K K' : Nat → Nat} {w w' : World} {B t p xb : Nat} {c : Cf} {oa : Option Addr} {cap : Nat} {next now : Int} {L : List Wt} {D : List Oc} {vw vd : Value} {q : Mq} {vi : Value} {I : List Is} {n1 n2 : Int}
theorem LF.of_any (h : LF K w B t p xb c oa cap next now L D vw vd q vi I n1 n2) (n : Int) : Calls Tryz.prog 48 #[ptr xb, .int .i64 n] w fun e w' => e = .returned (.int .i64 (ofP I.length n)) ∧ w' = w :=
  Cl.of_any h.me h.is h.om.num n (by have := h.hI; omega)
theorem LF.to {T : Nat → Prop} (h : LF K w B t p xb c oa cap next now L D vw vd q vi I n1 n2) (m : Mv T w w' K K') (ht : ∀ t', T t' → t + 21 < t') : LF K' w' B t p xb c oa cap next now L D vw vd q vi I n1 n2 :=
  ⟨h.pc.to m (fun t' e => by have := ht t' e; omega), h.me.mv m (fun e => by have := ht _ e; omega), h.is.mv m (fun e => by have := ht _ e; omega), h.om, h.hc, h.hI, h.hn⟩
theorem LF.ce0 (h : LF K w B t p xb c oa cap next now L D vw vd q vi I n1 n2) : w.cell? ⟨xb, 0, none⟩ = some (ptr p) ∧ w.cell? ⟨xb, 1, none⟩ = some vi ∧ w.cell? ⟨xb, 2, none⟩ = some (.int .i64 n1) ∧ w.cell? ⟨xb, 3, none⟩ = some (.int .i64 n2) := ⟨cell_at h.me.at_ rfl, cell_at h.me.at_ rfl, cell_at h.me.at_ rfl, cell_at h.me.at_ rfl⟩
end
end Go.Proofs.YtfcbjcebkahehaaGreatDoor.Cl
