/- The client: what a reply says. -/
import Derived.Test.YtfcbjcebkahehaaGreatDoorZax
import Derived.Test.YtfcbjcebkahehaaGreatDoorMx
namespace Go.Proofs.YtfcbjcebkahehaaGreatDoor.Cl
open Go.RowKit
/-- what a reply says, as an outcome -/
def outOf (r : ReplyP) : Oc := if r.denied then ⟨0, 5, 0, r.reject, r.why, r.low, r.high, [], 0⟩ else if r.accept = 0 then ⟨0, 1, 0, 0, 0, 0, 0, r.results, 0⟩ else if r.accept = 5 then ⟨0, 3, 0, 0, 0, 0, 0, [], 0⟩ else ⟨0, 4, r.accept, 0, 0, r.low, r.high, [], 0⟩
theorem bld80_den (rej : Int) (why : Int) (low : Int) (high : Int) (w : World) : (Instr.build 80 #[(1, .int .i64 5), (3, .int .i64 rej), (4, .int .i64 why), (5, .int .i64 low), (6, .int .i64 high)]).run Tryz.prog w = .ok (.agg #[.int .i64 0, .int .i64 5, .int .i64 0, .int .i64 rej, .int .i64 why, .int .i64 low, .int .i64 high, .string ⟨#[]⟩, .int .i64 0]) w := by kernel_rfl
theorem bld80_suc (res : ByteArray) (w : World) : (Instr.build 80 #[(1, .int .i64 1), (7, .string res)]).run Tryz.prog w = .ok (.agg #[.int .i64 0, .int .i64 1, .int .i64 0, .int .i64 0, .int .i64 0, .int .i64 0, .int .i64 0, .string res, .int .i64 0]) w := by kernel_rfl
theorem bld80_ref (w : World) : (Instr.build 80 #[(1, .int .i64 3)]).run Tryz.prog w = .ok (.agg #[.int .i64 0, .int .i64 3, .int .i64 0, .int .i64 0, .int .i64 0, .int .i64 0, .int .i64 0, .string ⟨#[]⟩, .int .i64 0]) w := by kernel_rfl
theorem bld80_acc (low : Int) (high : Int) (acc : Int) (w : World) : (Instr.build 80 #[(1, .int .i64 4), (2, .int .i64 acc), (5, .int .i64 low), (6, .int .i64 high)]).run Tryz.prog w = .ok (.agg #[.int .i64 0, .int .i64 4, .int .i64 acc, .int .i64 0, .int .i64 0, .int .i64 low, .int .i64 high, .string ⟨#[]⟩, .int .i64 0]) w := by kernel_rfl
theorem outcome_den (xid fl acc rej why low high : Int) (dn : Bool) (bo res : ByteArray) (w : World) (h0 : dn = true) :
    Calls Tryz.prog 87 #[.agg #[.int .i64 xid, .bool dn, .int .i64 fl, .string bo, .int .i64 acc, .int .i64 rej, .int .i64 why, .int .i64 low, .int .i64 high, .string res]] w fun e w' => e = .returned (.agg #[.int .i64 0, .int .i64 5, .int .i64 0, .int .i64 rej, .int .i64 why, .int .i64 low, .int .i64 high, .string ⟨#[]⟩, .int .i64 0]) ∧ Below w.heap.size w w' := by
  subst h0
  obtain ⟨S1, hS1⟩ : ∃ y, w.heap.size = y := ⟨_, rfl⟩
  obtain ⟨w1, hw1⟩ : ∃ y, w.alloc (.cells #[.int .i64 xid, .bool true, .int .i64 fl, .string bo, .int .i64 acc, .int .i64 rej, .int .i64 why, .int .i64 low, .int .i64 high, .string res] 46) = y := ⟨_, rfl⟩
  have B1 : Below w.heap.size w w1 := by rw [← hw1]; exact (Below.refl _ _).alloc (Nat.le_refl _) _
  have k1 : w1.heap[S1]? = some (.cells #[.int .i64 xid, .bool true, .int .i64 fl, .string bo, .int .i64 acc, .int .i64 rej, .int .i64 why, .int .i64 low, .int .i64 high, .string res] 46) := by rw [← hw1, ← hS1]; exact (MapKept.heap_alloc w _).1
  obtain ⟨S2, hS2⟩ : ∃ y, w1.heap.size = y := ⟨_, rfl⟩
  obtain ⟨w2, hw2⟩ : ∃ y, w1.alloc (.cells #[.int .i64 0, .int .i64 0, .int .i64 0, .int .i64 0, .int .i64 0, .int .i64 0, .int .i64 0, .string ⟨#[]⟩, .int .i64 0] 80) = y := ⟨_, rfl⟩
  have B2 : Below w.heap.size w w2 := by rw [← hw2]; exact B1.alloc B1.size _
  have k2 : w2.heap[S2]? = some (.cells #[.int .i64 0, .int .i64 0, .int .i64 0, .int .i64 0, .int .i64 0, .int .i64 0, .int .i64 0, .string ⟨#[]⟩, .int .i64 0] 80) := by rw [← hw2, ← hS2]; exact (MapKept.heap_alloc w1 _).1
  have hlt1 : S1 < S2 := by rw [← hS2]; exact (Array.getElem?_eq_some_iff.1 k1).1
  have k21 : w2.heap[S1]? = some (.cells #[.int .i64 xid, .bool true, .int .i64 fl, .string bo, .int .i64 acc, .int .i64 rej, .int .i64 why, .int .i64 low, .int .i64 high, .string res] 46) := by rw [← hw2]; exact (Below.heap_alloc _ _ _ (by omega)).trans k1
  have hleS : w.heap.size ≤ S2 := by omega
  have a1 : w2.cell? ⟨S1, 1, none⟩ = some (.bool true) := cell_at k21 rfl
  have a4 : w2.cell? ⟨S1, 4, none⟩ = some (.int .i64 acc) := cell_at k21 rfl
  have a5 : w2.cell? ⟨S1, 5, none⟩ = some (.int .i64 rej) := cell_at k21 rfl
  have a6 : w2.cell? ⟨S1, 6, none⟩ = some (.int .i64 why) := cell_at k21 rfl
  have a7 : w2.cell? ⟨S1, 7, none⟩ = some (.int .i64 low) := cell_at k21 rfl
  have a8 : w2.cell? ⟨S1, 8, none⟩ = some (.int .i64 high) := cell_at k21 rfl
  have a9 : w2.cell? ⟨S1, 9, none⟩ = some (.string res) := cell_at k21 rfl
  obtain ⟨v1, hv1⟩ : ∃ y, w2.setCell ⟨S2, 0, none⟩ (.int .i64 0) = y := ⟨_, rfl⟩
  have z0 : w2.cell? ⟨S2, 0, none⟩ = some (.int .i64 0) := cell_at k2 rfl
  have f0 : w2.frozen? ⟨S2, 0, none⟩ = false := frozen_at k2 0
  have kv1 : v1.heap[S2]? = some (.cells #[.int .i64 0, .int .i64 0, .int .i64 0, .int .i64 0, .int .i64 0, .int .i64 0, .int .i64 0, .string ⟨#[]⟩, .int .i64 0] 80) := by rw [← hv1]; exact set_at k2 0 _
  have Bv1 : Below w.heap.size w v1 := by rw [← hv1]; exact below_set B2 hleS
  obtain ⟨v2, hv2⟩ : ∃ y, v1.setCell ⟨S2, 1, none⟩ (.int .i64 5) = y := ⟨_, rfl⟩
  have z1 : v1.cell? ⟨S2, 1, none⟩ = some (.int .i64 0) := cell_at kv1 rfl
  have f1 : v1.frozen? ⟨S2, 1, none⟩ = false := frozen_at kv1 1
  have kv2 : v2.heap[S2]? = some (.cells #[.int .i64 0, .int .i64 5, .int .i64 0, .int .i64 0, .int .i64 0, .int .i64 0, .int .i64 0, .string ⟨#[]⟩, .int .i64 0] 80) := by rw [← hv2]; exact set_at kv1 1 _
  have Bv2 : Below w.heap.size w v2 := by rw [← hv2]; exact below_set Bv1 hleS
  clear kv1 Bv1
  obtain ⟨v3, hv3⟩ : ∃ y, v2.setCell ⟨S2, 2, none⟩ (.int .i64 0) = y := ⟨_, rfl⟩
  have z2 : v2.cell? ⟨S2, 2, none⟩ = some (.int .i64 0) := cell_at kv2 rfl
  have f2 : v2.frozen? ⟨S2, 2, none⟩ = false := frozen_at kv2 2
  have kv3 : v3.heap[S2]? = some (.cells #[.int .i64 0, .int .i64 5, .int .i64 0, .int .i64 0, .int .i64 0, .int .i64 0, .int .i64 0, .string ⟨#[]⟩, .int .i64 0] 80) := by rw [← hv3]; exact set_at kv2 2 _
  have Bv3 : Below w.heap.size w v3 := by rw [← hv3]; exact below_set Bv2 hleS
  clear kv2 Bv2
  obtain ⟨v4, hv4⟩ : ∃ y, v3.setCell ⟨S2, 3, none⟩ (.int .i64 rej) = y := ⟨_, rfl⟩
  have z3 : v3.cell? ⟨S2, 3, none⟩ = some (.int .i64 0) := cell_at kv3 rfl
  have f3 : v3.frozen? ⟨S2, 3, none⟩ = false := frozen_at kv3 3
  have kv4 : v4.heap[S2]? = some (.cells #[.int .i64 0, .int .i64 5, .int .i64 0, .int .i64 rej, .int .i64 0, .int .i64 0, .int .i64 0, .string ⟨#[]⟩, .int .i64 0] 80) := by rw [← hv4]; exact set_at kv3 3 _
  have Bv4 : Below w.heap.size w v4 := by rw [← hv4]; exact below_set Bv3 hleS
  clear kv3 Bv3
  obtain ⟨v5, hv5⟩ : ∃ y, v4.setCell ⟨S2, 4, none⟩ (.int .i64 why) = y := ⟨_, rfl⟩
  have z4 : v4.cell? ⟨S2, 4, none⟩ = some (.int .i64 0) := cell_at kv4 rfl
  have f4 : v4.frozen? ⟨S2, 4, none⟩ = false := frozen_at kv4 4
  have kv5 : v5.heap[S2]? = some (.cells #[.int .i64 0, .int .i64 5, .int .i64 0, .int .i64 rej, .int .i64 why, .int .i64 0, .int .i64 0, .string ⟨#[]⟩, .int .i64 0] 80) := by rw [← hv5]; exact set_at kv4 4 _
  have Bv5 : Below w.heap.size w v5 := by rw [← hv5]; exact below_set Bv4 hleS
  clear kv4 Bv4
  obtain ⟨v6, hv6⟩ : ∃ y, v5.setCell ⟨S2, 5, none⟩ (.int .i64 low) = y := ⟨_, rfl⟩
  have z5 : v5.cell? ⟨S2, 5, none⟩ = some (.int .i64 0) := cell_at kv5 rfl
  have f5 : v5.frozen? ⟨S2, 5, none⟩ = false := frozen_at kv5 5
  have kv6 : v6.heap[S2]? = some (.cells #[.int .i64 0, .int .i64 5, .int .i64 0, .int .i64 rej, .int .i64 why, .int .i64 low, .int .i64 0, .string ⟨#[]⟩, .int .i64 0] 80) := by rw [← hv6]; exact set_at kv5 5 _
  have Bv6 : Below w.heap.size w v6 := by rw [← hv6]; exact below_set Bv5 hleS
  clear kv5 Bv5
  obtain ⟨v7, hv7⟩ : ∃ y, v6.setCell ⟨S2, 6, none⟩ (.int .i64 high) = y := ⟨_, rfl⟩
  have z6 : v6.cell? ⟨S2, 6, none⟩ = some (.int .i64 0) := cell_at kv6 rfl
  have f6 : v6.frozen? ⟨S2, 6, none⟩ = false := frozen_at kv6 6
  have kv7 : v7.heap[S2]? = some (.cells #[.int .i64 0, .int .i64 5, .int .i64 0, .int .i64 rej, .int .i64 why, .int .i64 low, .int .i64 high, .string ⟨#[]⟩, .int .i64 0] 80) := by rw [← hv7]; exact set_at kv6 6 _
  have Bv7 : Below w.heap.size w v7 := by rw [← hv7]; exact below_set Bv6 hleS
  clear kv6 Bv6
  obtain ⟨v8, hv8⟩ : ∃ y, v7.setCell ⟨S2, 7, none⟩ (.string ⟨#[]⟩) = y := ⟨_, rfl⟩
  have z7 : v7.cell? ⟨S2, 7, none⟩ = some (.string ⟨#[]⟩) := cell_at kv7 rfl
  have f7 : v7.frozen? ⟨S2, 7, none⟩ = false := frozen_at kv7 7
  have kv8 : v8.heap[S2]? = some (.cells #[.int .i64 0, .int .i64 5, .int .i64 0, .int .i64 rej, .int .i64 why, .int .i64 low, .int .i64 high, .string ⟨#[]⟩, .int .i64 0] 80) := by rw [← hv8]; exact set_at kv7 7 _
  have Bv8 : Below w.heap.size w v8 := by rw [← hv8]; exact below_set Bv7 hleS
  clear kv7 Bv7
  obtain ⟨v9, hv9⟩ : ∃ y, v8.setCell ⟨S2, 8, none⟩ (.int .i64 0) = y := ⟨_, rfl⟩
  have z8 : v8.cell? ⟨S2, 8, none⟩ = some (.int .i64 0) := cell_at kv8 rfl
  have f8 : v8.frozen? ⟨S2, 8, none⟩ = false := frozen_at kv8 8
  have kv9 : v9.heap[S2]? = some (.cells #[.int .i64 0, .int .i64 5, .int .i64 0, .int .i64 rej, .int .i64 why, .int .i64 low, .int .i64 high, .string ⟨#[]⟩, .int .i64 0] 80) := by rw [← hv9]; exact set_at kv8 8 _
  have Bv9 : Below w.heap.size w v9 := by rw [← hv9]; exact below_set Bv8 hleS
  clear kv8 Bv8
  have q0 : v9.cell? ⟨S2, 0, none⟩ = some (.int .i64 0) := cell_at kv9 rfl
  have q1 : v9.cell? ⟨S2, 1, none⟩ = some (.int .i64 5) := cell_at kv9 rfl
  have q2 : v9.cell? ⟨S2, 2, none⟩ = some (.int .i64 0) := cell_at kv9 rfl
  have q3 : v9.cell? ⟨S2, 3, none⟩ = some (.int .i64 rej) := cell_at kv9 rfl
  have q4 : v9.cell? ⟨S2, 4, none⟩ = some (.int .i64 why) := cell_at kv9 rfl
  have q5 : v9.cell? ⟨S2, 5, none⟩ = some (.int .i64 low) := cell_at kv9 rfl
  have q6 : v9.cell? ⟨S2, 6, none⟩ = some (.int .i64 high) := cell_at kv9 rfl
  have q7 : v9.cell? ⟨S2, 7, none⟩ = some (.string ⟨#[]⟩) := cell_at kv9 rfl
  have q8 : v9.cell? ⟨S2, 8, none⟩ = some (.int .i64 0) := cell_at kv9 rfl
  have HB := hid Bv9
  have hb := fun w => bld80_den rej why low high w
  clear kv9 Bv9 k2 B2 k1 B1 k21 hlt1 hleS
  go_enter Tryz.func87, Tryz.ntmps87
  go_wp2
  refine bodyPost_ret (v := .agg #[.int .i64 0, .int .i64 5, .int .i64 0, .int .i64 rej, .int .i64 why, .int .i64 low, .int .i64 high, .string ⟨#[]⟩, .int .i64 0]) (by simp [results, Tryz.results87, go_sem, q0, q1, q2, q3, q4, q5, q6, q7, q8]) rfl ?_
  exact ⟨rfl, HB.out⟩
theorem outcome_suc (xid fl acc rej why low high : Int) (dn : Bool) (bo res : ByteArray) (w : World) (h0 : dn = false) (h1 : acc = 0) :
    Calls Tryz.prog 87 #[.agg #[.int .i64 xid, .bool dn, .int .i64 fl, .string bo, .int .i64 acc, .int .i64 rej, .int .i64 why, .int .i64 low, .int .i64 high, .string res]] w fun e w' => e = .returned (.agg #[.int .i64 0, .int .i64 1, .int .i64 0, .int .i64 0, .int .i64 0, .int .i64 0, .int .i64 0, .string res, .int .i64 0]) ∧ Below w.heap.size w w' := by
  subst h0 h1
  obtain ⟨S1, hS1⟩ : ∃ y, w.heap.size = y := ⟨_, rfl⟩
  obtain ⟨w1, hw1⟩ : ∃ y, w.alloc (.cells #[.int .i64 xid, .bool false, .int .i64 fl, .string bo, .int .i64 0, .int .i64 rej, .int .i64 why, .int .i64 low, .int .i64 high, .string res] 46) = y := ⟨_, rfl⟩
  have B1 : Below w.heap.size w w1 := by rw [← hw1]; exact (Below.refl _ _).alloc (Nat.le_refl _) _
  have k1 : w1.heap[S1]? = some (.cells #[.int .i64 xid, .bool false, .int .i64 fl, .string bo, .int .i64 0, .int .i64 rej, .int .i64 why, .int .i64 low, .int .i64 high, .string res] 46) := by rw [← hw1, ← hS1]; exact (MapKept.heap_alloc w _).1
  obtain ⟨S2, hS2⟩ : ∃ y, w1.heap.size = y := ⟨_, rfl⟩
  obtain ⟨w2, hw2⟩ : ∃ y, w1.alloc (.cells #[.int .i64 0, .int .i64 0, .int .i64 0, .int .i64 0, .int .i64 0, .int .i64 0, .int .i64 0, .string ⟨#[]⟩, .int .i64 0] 80) = y := ⟨_, rfl⟩
  have B2 : Below w.heap.size w w2 := by rw [← hw2]; exact B1.alloc B1.size _
  have k2 : w2.heap[S2]? = some (.cells #[.int .i64 0, .int .i64 0, .int .i64 0, .int .i64 0, .int .i64 0, .int .i64 0, .int .i64 0, .string ⟨#[]⟩, .int .i64 0] 80) := by rw [← hw2, ← hS2]; exact (MapKept.heap_alloc w1 _).1
  have hlt1 : S1 < S2 := by rw [← hS2]; exact (Array.getElem?_eq_some_iff.1 k1).1
  have k21 : w2.heap[S1]? = some (.cells #[.int .i64 xid, .bool false, .int .i64 fl, .string bo, .int .i64 0, .int .i64 rej, .int .i64 why, .int .i64 low, .int .i64 high, .string res] 46) := by rw [← hw2]; exact (Below.heap_alloc _ _ _ (by omega)).trans k1
  have hleS : w.heap.size ≤ S2 := by omega
  have a1 : w2.cell? ⟨S1, 1, none⟩ = some (.bool false) := cell_at k21 rfl
  have a4 : w2.cell? ⟨S1, 4, none⟩ = some (.int .i64 0) := cell_at k21 rfl
  have a5 : w2.cell? ⟨S1, 5, none⟩ = some (.int .i64 rej) := cell_at k21 rfl
  have a6 : w2.cell? ⟨S1, 6, none⟩ = some (.int .i64 why) := cell_at k21 rfl
  have a7 : w2.cell? ⟨S1, 7, none⟩ = some (.int .i64 low) := cell_at k21 rfl
  have a8 : w2.cell? ⟨S1, 8, none⟩ = some (.int .i64 high) := cell_at k21 rfl
  have a9 : w2.cell? ⟨S1, 9, none⟩ = some (.string res) := cell_at k21 rfl
  obtain ⟨v1, hv1⟩ : ∃ y, w2.setCell ⟨S2, 0, none⟩ (.int .i64 0) = y := ⟨_, rfl⟩
  have z0 : w2.cell? ⟨S2, 0, none⟩ = some (.int .i64 0) := cell_at k2 rfl
  have f0 : w2.frozen? ⟨S2, 0, none⟩ = false := frozen_at k2 0
  have kv1 : v1.heap[S2]? = some (.cells #[.int .i64 0, .int .i64 0, .int .i64 0, .int .i64 0, .int .i64 0, .int .i64 0, .int .i64 0, .string ⟨#[]⟩, .int .i64 0] 80) := by rw [← hv1]; exact set_at k2 0 _
  have Bv1 : Below w.heap.size w v1 := by rw [← hv1]; exact below_set B2 hleS
  obtain ⟨v2, hv2⟩ : ∃ y, v1.setCell ⟨S2, 1, none⟩ (.int .i64 1) = y := ⟨_, rfl⟩
  have z1 : v1.cell? ⟨S2, 1, none⟩ = some (.int .i64 0) := cell_at kv1 rfl
  have f1 : v1.frozen? ⟨S2, 1, none⟩ = false := frozen_at kv1 1
  have kv2 : v2.heap[S2]? = some (.cells #[.int .i64 0, .int .i64 1, .int .i64 0, .int .i64 0, .int .i64 0, .int .i64 0, .int .i64 0, .string ⟨#[]⟩, .int .i64 0] 80) := by rw [← hv2]; exact set_at kv1 1 _
  have Bv2 : Below w.heap.size w v2 := by rw [← hv2]; exact below_set Bv1 hleS
  clear kv1 Bv1
  obtain ⟨v3, hv3⟩ : ∃ y, v2.setCell ⟨S2, 2, none⟩ (.int .i64 0) = y := ⟨_, rfl⟩
  have z2 : v2.cell? ⟨S2, 2, none⟩ = some (.int .i64 0) := cell_at kv2 rfl
  have f2 : v2.frozen? ⟨S2, 2, none⟩ = false := frozen_at kv2 2
  have kv3 : v3.heap[S2]? = some (.cells #[.int .i64 0, .int .i64 1, .int .i64 0, .int .i64 0, .int .i64 0, .int .i64 0, .int .i64 0, .string ⟨#[]⟩, .int .i64 0] 80) := by rw [← hv3]; exact set_at kv2 2 _
  have Bv3 : Below w.heap.size w v3 := by rw [← hv3]; exact below_set Bv2 hleS
  clear kv2 Bv2
  obtain ⟨v4, hv4⟩ : ∃ y, v3.setCell ⟨S2, 3, none⟩ (.int .i64 0) = y := ⟨_, rfl⟩
  have z3 : v3.cell? ⟨S2, 3, none⟩ = some (.int .i64 0) := cell_at kv3 rfl
  have f3 : v3.frozen? ⟨S2, 3, none⟩ = false := frozen_at kv3 3
  have kv4 : v4.heap[S2]? = some (.cells #[.int .i64 0, .int .i64 1, .int .i64 0, .int .i64 0, .int .i64 0, .int .i64 0, .int .i64 0, .string ⟨#[]⟩, .int .i64 0] 80) := by rw [← hv4]; exact set_at kv3 3 _
  have Bv4 : Below w.heap.size w v4 := by rw [← hv4]; exact below_set Bv3 hleS
  clear kv3 Bv3
  obtain ⟨v5, hv5⟩ : ∃ y, v4.setCell ⟨S2, 4, none⟩ (.int .i64 0) = y := ⟨_, rfl⟩
  have z4 : v4.cell? ⟨S2, 4, none⟩ = some (.int .i64 0) := cell_at kv4 rfl
  have f4 : v4.frozen? ⟨S2, 4, none⟩ = false := frozen_at kv4 4
  have kv5 : v5.heap[S2]? = some (.cells #[.int .i64 0, .int .i64 1, .int .i64 0, .int .i64 0, .int .i64 0, .int .i64 0, .int .i64 0, .string ⟨#[]⟩, .int .i64 0] 80) := by rw [← hv5]; exact set_at kv4 4 _
  have Bv5 : Below w.heap.size w v5 := by rw [← hv5]; exact below_set Bv4 hleS
  clear kv4 Bv4
  obtain ⟨v6, hv6⟩ : ∃ y, v5.setCell ⟨S2, 5, none⟩ (.int .i64 0) = y := ⟨_, rfl⟩
  have z5 : v5.cell? ⟨S2, 5, none⟩ = some (.int .i64 0) := cell_at kv5 rfl
  have f5 : v5.frozen? ⟨S2, 5, none⟩ = false := frozen_at kv5 5
  have kv6 : v6.heap[S2]? = some (.cells #[.int .i64 0, .int .i64 1, .int .i64 0, .int .i64 0, .int .i64 0, .int .i64 0, .int .i64 0, .string ⟨#[]⟩, .int .i64 0] 80) := by rw [← hv6]; exact set_at kv5 5 _
  have Bv6 : Below w.heap.size w v6 := by rw [← hv6]; exact below_set Bv5 hleS
  clear kv5 Bv5
  obtain ⟨v7, hv7⟩ : ∃ y, v6.setCell ⟨S2, 6, none⟩ (.int .i64 0) = y := ⟨_, rfl⟩
  have z6 : v6.cell? ⟨S2, 6, none⟩ = some (.int .i64 0) := cell_at kv6 rfl
  have f6 : v6.frozen? ⟨S2, 6, none⟩ = false := frozen_at kv6 6
  have kv7 : v7.heap[S2]? = some (.cells #[.int .i64 0, .int .i64 1, .int .i64 0, .int .i64 0, .int .i64 0, .int .i64 0, .int .i64 0, .string ⟨#[]⟩, .int .i64 0] 80) := by rw [← hv7]; exact set_at kv6 6 _
  have Bv7 : Below w.heap.size w v7 := by rw [← hv7]; exact below_set Bv6 hleS
  clear kv6 Bv6
  obtain ⟨v8, hv8⟩ : ∃ y, v7.setCell ⟨S2, 7, none⟩ (.string res) = y := ⟨_, rfl⟩
  have z7 : v7.cell? ⟨S2, 7, none⟩ = some (.string ⟨#[]⟩) := cell_at kv7 rfl
  have f7 : v7.frozen? ⟨S2, 7, none⟩ = false := frozen_at kv7 7
  have kv8 : v8.heap[S2]? = some (.cells #[.int .i64 0, .int .i64 1, .int .i64 0, .int .i64 0, .int .i64 0, .int .i64 0, .int .i64 0, .string res, .int .i64 0] 80) := by rw [← hv8]; exact set_at kv7 7 _
  have Bv8 : Below w.heap.size w v8 := by rw [← hv8]; exact below_set Bv7 hleS
  clear kv7 Bv7
  obtain ⟨v9, hv9⟩ : ∃ y, v8.setCell ⟨S2, 8, none⟩ (.int .i64 0) = y := ⟨_, rfl⟩
  have z8 : v8.cell? ⟨S2, 8, none⟩ = some (.int .i64 0) := cell_at kv8 rfl
  have f8 : v8.frozen? ⟨S2, 8, none⟩ = false := frozen_at kv8 8
  have kv9 : v9.heap[S2]? = some (.cells #[.int .i64 0, .int .i64 1, .int .i64 0, .int .i64 0, .int .i64 0, .int .i64 0, .int .i64 0, .string res, .int .i64 0] 80) := by rw [← hv9]; exact set_at kv8 8 _
  have Bv9 : Below w.heap.size w v9 := by rw [← hv9]; exact below_set Bv8 hleS
  clear kv8 Bv8
  have q0 : v9.cell? ⟨S2, 0, none⟩ = some (.int .i64 0) := cell_at kv9 rfl
  have q1 : v9.cell? ⟨S2, 1, none⟩ = some (.int .i64 1) := cell_at kv9 rfl
  have q2 : v9.cell? ⟨S2, 2, none⟩ = some (.int .i64 0) := cell_at kv9 rfl
  have q3 : v9.cell? ⟨S2, 3, none⟩ = some (.int .i64 0) := cell_at kv9 rfl
  have q4 : v9.cell? ⟨S2, 4, none⟩ = some (.int .i64 0) := cell_at kv9 rfl
  have q5 : v9.cell? ⟨S2, 5, none⟩ = some (.int .i64 0) := cell_at kv9 rfl
  have q6 : v9.cell? ⟨S2, 6, none⟩ = some (.int .i64 0) := cell_at kv9 rfl
  have q7 : v9.cell? ⟨S2, 7, none⟩ = some (.string res) := cell_at kv9 rfl
  have q8 : v9.cell? ⟨S2, 8, none⟩ = some (.int .i64 0) := cell_at kv9 rfl
  have HB := hid Bv9
  have hb := fun w => bld80_suc res w
  clear kv9 Bv9 k2 B2 k1 B1 k21 hlt1 hleS
  go_enter Tryz.func87, Tryz.ntmps87
  go_wp2
  refine bodyPost_ret (v := .agg #[.int .i64 0, .int .i64 1, .int .i64 0, .int .i64 0, .int .i64 0, .int .i64 0, .int .i64 0, .string res, .int .i64 0]) (by simp [results, Tryz.results87, go_sem, q0, q1, q2, q3, q4, q5, q6, q7, q8]) rfl ?_
  exact ⟨rfl, HB.out⟩
theorem outcome_ref (xid fl acc rej why low high : Int) (dn : Bool) (bo res : ByteArray) (w : World) (h0 : dn = false) (h1 : acc = 5) :
    Calls Tryz.prog 87 #[.agg #[.int .i64 xid, .bool dn, .int .i64 fl, .string bo, .int .i64 acc, .int .i64 rej, .int .i64 why, .int .i64 low, .int .i64 high, .string res]] w fun e w' => e = .returned (.agg #[.int .i64 0, .int .i64 3, .int .i64 0, .int .i64 0, .int .i64 0, .int .i64 0, .int .i64 0, .string ⟨#[]⟩, .int .i64 0]) ∧ Below w.heap.size w w' := by
  subst h0 h1
  obtain ⟨S1, hS1⟩ : ∃ y, w.heap.size = y := ⟨_, rfl⟩
  obtain ⟨w1, hw1⟩ : ∃ y, w.alloc (.cells #[.int .i64 xid, .bool false, .int .i64 fl, .string bo, .int .i64 5, .int .i64 rej, .int .i64 why, .int .i64 low, .int .i64 high, .string res] 46) = y := ⟨_, rfl⟩
  have B1 : Below w.heap.size w w1 := by rw [← hw1]; exact (Below.refl _ _).alloc (Nat.le_refl _) _
  have k1 : w1.heap[S1]? = some (.cells #[.int .i64 xid, .bool false, .int .i64 fl, .string bo, .int .i64 5, .int .i64 rej, .int .i64 why, .int .i64 low, .int .i64 high, .string res] 46) := by rw [← hw1, ← hS1]; exact (MapKept.heap_alloc w _).1
  obtain ⟨S2, hS2⟩ : ∃ y, w1.heap.size = y := ⟨_, rfl⟩
  obtain ⟨w2, hw2⟩ : ∃ y, w1.alloc (.cells #[.int .i64 0, .int .i64 0, .int .i64 0, .int .i64 0, .int .i64 0, .int .i64 0, .int .i64 0, .string ⟨#[]⟩, .int .i64 0] 80) = y := ⟨_, rfl⟩
  have B2 : Below w.heap.size w w2 := by rw [← hw2]; exact B1.alloc B1.size _
  have k2 : w2.heap[S2]? = some (.cells #[.int .i64 0, .int .i64 0, .int .i64 0, .int .i64 0, .int .i64 0, .int .i64 0, .int .i64 0, .string ⟨#[]⟩, .int .i64 0] 80) := by rw [← hw2, ← hS2]; exact (MapKept.heap_alloc w1 _).1
  have hlt1 : S1 < S2 := by rw [← hS2]; exact (Array.getElem?_eq_some_iff.1 k1).1
  have k21 : w2.heap[S1]? = some (.cells #[.int .i64 xid, .bool false, .int .i64 fl, .string bo, .int .i64 5, .int .i64 rej, .int .i64 why, .int .i64 low, .int .i64 high, .string res] 46) := by rw [← hw2]; exact (Below.heap_alloc _ _ _ (by omega)).trans k1
  have hleS : w.heap.size ≤ S2 := by omega
  have a1 : w2.cell? ⟨S1, 1, none⟩ = some (.bool false) := cell_at k21 rfl
  have a4 : w2.cell? ⟨S1, 4, none⟩ = some (.int .i64 5) := cell_at k21 rfl
  have a5 : w2.cell? ⟨S1, 5, none⟩ = some (.int .i64 rej) := cell_at k21 rfl
  have a6 : w2.cell? ⟨S1, 6, none⟩ = some (.int .i64 why) := cell_at k21 rfl
  have a7 : w2.cell? ⟨S1, 7, none⟩ = some (.int .i64 low) := cell_at k21 rfl
  have a8 : w2.cell? ⟨S1, 8, none⟩ = some (.int .i64 high) := cell_at k21 rfl
  have a9 : w2.cell? ⟨S1, 9, none⟩ = some (.string res) := cell_at k21 rfl
  obtain ⟨v1, hv1⟩ : ∃ y, w2.setCell ⟨S2, 0, none⟩ (.int .i64 0) = y := ⟨_, rfl⟩
  have z0 : w2.cell? ⟨S2, 0, none⟩ = some (.int .i64 0) := cell_at k2 rfl
  have f0 : w2.frozen? ⟨S2, 0, none⟩ = false := frozen_at k2 0
  have kv1 : v1.heap[S2]? = some (.cells #[.int .i64 0, .int .i64 0, .int .i64 0, .int .i64 0, .int .i64 0, .int .i64 0, .int .i64 0, .string ⟨#[]⟩, .int .i64 0] 80) := by rw [← hv1]; exact set_at k2 0 _
  have Bv1 : Below w.heap.size w v1 := by rw [← hv1]; exact below_set B2 hleS
  obtain ⟨v2, hv2⟩ : ∃ y, v1.setCell ⟨S2, 1, none⟩ (.int .i64 3) = y := ⟨_, rfl⟩
  have z1 : v1.cell? ⟨S2, 1, none⟩ = some (.int .i64 0) := cell_at kv1 rfl
  have f1 : v1.frozen? ⟨S2, 1, none⟩ = false := frozen_at kv1 1
  have kv2 : v2.heap[S2]? = some (.cells #[.int .i64 0, .int .i64 3, .int .i64 0, .int .i64 0, .int .i64 0, .int .i64 0, .int .i64 0, .string ⟨#[]⟩, .int .i64 0] 80) := by rw [← hv2]; exact set_at kv1 1 _
  have Bv2 : Below w.heap.size w v2 := by rw [← hv2]; exact below_set Bv1 hleS
  clear kv1 Bv1
  obtain ⟨v3, hv3⟩ : ∃ y, v2.setCell ⟨S2, 2, none⟩ (.int .i64 0) = y := ⟨_, rfl⟩
  have z2 : v2.cell? ⟨S2, 2, none⟩ = some (.int .i64 0) := cell_at kv2 rfl
  have f2 : v2.frozen? ⟨S2, 2, none⟩ = false := frozen_at kv2 2
  have kv3 : v3.heap[S2]? = some (.cells #[.int .i64 0, .int .i64 3, .int .i64 0, .int .i64 0, .int .i64 0, .int .i64 0, .int .i64 0, .string ⟨#[]⟩, .int .i64 0] 80) := by rw [← hv3]; exact set_at kv2 2 _
  have Bv3 : Below w.heap.size w v3 := by rw [← hv3]; exact below_set Bv2 hleS
  clear kv2 Bv2
  obtain ⟨v4, hv4⟩ : ∃ y, v3.setCell ⟨S2, 3, none⟩ (.int .i64 0) = y := ⟨_, rfl⟩
  have z3 : v3.cell? ⟨S2, 3, none⟩ = some (.int .i64 0) := cell_at kv3 rfl
  have f3 : v3.frozen? ⟨S2, 3, none⟩ = false := frozen_at kv3 3
  have kv4 : v4.heap[S2]? = some (.cells #[.int .i64 0, .int .i64 3, .int .i64 0, .int .i64 0, .int .i64 0, .int .i64 0, .int .i64 0, .string ⟨#[]⟩, .int .i64 0] 80) := by rw [← hv4]; exact set_at kv3 3 _
  have Bv4 : Below w.heap.size w v4 := by rw [← hv4]; exact below_set Bv3 hleS
  clear kv3 Bv3
  obtain ⟨v5, hv5⟩ : ∃ y, v4.setCell ⟨S2, 4, none⟩ (.int .i64 0) = y := ⟨_, rfl⟩
  have z4 : v4.cell? ⟨S2, 4, none⟩ = some (.int .i64 0) := cell_at kv4 rfl
  have f4 : v4.frozen? ⟨S2, 4, none⟩ = false := frozen_at kv4 4
  have kv5 : v5.heap[S2]? = some (.cells #[.int .i64 0, .int .i64 3, .int .i64 0, .int .i64 0, .int .i64 0, .int .i64 0, .int .i64 0, .string ⟨#[]⟩, .int .i64 0] 80) := by rw [← hv5]; exact set_at kv4 4 _
  have Bv5 : Below w.heap.size w v5 := by rw [← hv5]; exact below_set Bv4 hleS
  clear kv4 Bv4
  obtain ⟨v6, hv6⟩ : ∃ y, v5.setCell ⟨S2, 5, none⟩ (.int .i64 0) = y := ⟨_, rfl⟩
  have z5 : v5.cell? ⟨S2, 5, none⟩ = some (.int .i64 0) := cell_at kv5 rfl
  have f5 : v5.frozen? ⟨S2, 5, none⟩ = false := frozen_at kv5 5
  have kv6 : v6.heap[S2]? = some (.cells #[.int .i64 0, .int .i64 3, .int .i64 0, .int .i64 0, .int .i64 0, .int .i64 0, .int .i64 0, .string ⟨#[]⟩, .int .i64 0] 80) := by rw [← hv6]; exact set_at kv5 5 _
  have Bv6 : Below w.heap.size w v6 := by rw [← hv6]; exact below_set Bv5 hleS
  clear kv5 Bv5
  obtain ⟨v7, hv7⟩ : ∃ y, v6.setCell ⟨S2, 6, none⟩ (.int .i64 0) = y := ⟨_, rfl⟩
  have z6 : v6.cell? ⟨S2, 6, none⟩ = some (.int .i64 0) := cell_at kv6 rfl
  have f6 : v6.frozen? ⟨S2, 6, none⟩ = false := frozen_at kv6 6
  have kv7 : v7.heap[S2]? = some (.cells #[.int .i64 0, .int .i64 3, .int .i64 0, .int .i64 0, .int .i64 0, .int .i64 0, .int .i64 0, .string ⟨#[]⟩, .int .i64 0] 80) := by rw [← hv7]; exact set_at kv6 6 _
  have Bv7 : Below w.heap.size w v7 := by rw [← hv7]; exact below_set Bv6 hleS
  clear kv6 Bv6
  obtain ⟨v8, hv8⟩ : ∃ y, v7.setCell ⟨S2, 7, none⟩ (.string ⟨#[]⟩) = y := ⟨_, rfl⟩
  have z7 : v7.cell? ⟨S2, 7, none⟩ = some (.string ⟨#[]⟩) := cell_at kv7 rfl
  have f7 : v7.frozen? ⟨S2, 7, none⟩ = false := frozen_at kv7 7
  have kv8 : v8.heap[S2]? = some (.cells #[.int .i64 0, .int .i64 3, .int .i64 0, .int .i64 0, .int .i64 0, .int .i64 0, .int .i64 0, .string ⟨#[]⟩, .int .i64 0] 80) := by rw [← hv8]; exact set_at kv7 7 _
  have Bv8 : Below w.heap.size w v8 := by rw [← hv8]; exact below_set Bv7 hleS
  clear kv7 Bv7
  obtain ⟨v9, hv9⟩ : ∃ y, v8.setCell ⟨S2, 8, none⟩ (.int .i64 0) = y := ⟨_, rfl⟩
  have z8 : v8.cell? ⟨S2, 8, none⟩ = some (.int .i64 0) := cell_at kv8 rfl
  have f8 : v8.frozen? ⟨S2, 8, none⟩ = false := frozen_at kv8 8
  have kv9 : v9.heap[S2]? = some (.cells #[.int .i64 0, .int .i64 3, .int .i64 0, .int .i64 0, .int .i64 0, .int .i64 0, .int .i64 0, .string ⟨#[]⟩, .int .i64 0] 80) := by rw [← hv9]; exact set_at kv8 8 _
  have Bv9 : Below w.heap.size w v9 := by rw [← hv9]; exact below_set Bv8 hleS
  clear kv8 Bv8
  have q0 : v9.cell? ⟨S2, 0, none⟩ = some (.int .i64 0) := cell_at kv9 rfl
  have q1 : v9.cell? ⟨S2, 1, none⟩ = some (.int .i64 3) := cell_at kv9 rfl
  have q2 : v9.cell? ⟨S2, 2, none⟩ = some (.int .i64 0) := cell_at kv9 rfl
  have q3 : v9.cell? ⟨S2, 3, none⟩ = some (.int .i64 0) := cell_at kv9 rfl
  have q4 : v9.cell? ⟨S2, 4, none⟩ = some (.int .i64 0) := cell_at kv9 rfl
  have q5 : v9.cell? ⟨S2, 5, none⟩ = some (.int .i64 0) := cell_at kv9 rfl
  have q6 : v9.cell? ⟨S2, 6, none⟩ = some (.int .i64 0) := cell_at kv9 rfl
  have q7 : v9.cell? ⟨S2, 7, none⟩ = some (.string ⟨#[]⟩) := cell_at kv9 rfl
  have q8 : v9.cell? ⟨S2, 8, none⟩ = some (.int .i64 0) := cell_at kv9 rfl
  have HB := hid Bv9
  have hb := fun w => bld80_ref w
  clear kv9 Bv9 k2 B2 k1 B1 k21 hlt1 hleS
  go_enter Tryz.func87, Tryz.ntmps87
  go_wp2
  refine bodyPost_ret (v := .agg #[.int .i64 0, .int .i64 3, .int .i64 0, .int .i64 0, .int .i64 0, .int .i64 0, .int .i64 0, .string ⟨#[]⟩, .int .i64 0]) (by simp [results, Tryz.results87, go_sem, q0, q1, q2, q3, q4, q5, q6, q7, q8]) rfl ?_
  exact ⟨rfl, HB.out⟩
theorem outcome_acc (xid fl acc rej why low high : Int) (dn : Bool) (bo res : ByteArray) (w : World) (h0 : dn = false) (h1 : acc ≠ 0) (h2 : acc ≠ 5) :
    Calls Tryz.prog 87 #[.agg #[.int .i64 xid, .bool dn, .int .i64 fl, .string bo, .int .i64 acc, .int .i64 rej, .int .i64 why, .int .i64 low, .int .i64 high, .string res]] w fun e w' => e = .returned (.agg #[.int .i64 0, .int .i64 4, .int .i64 acc, .int .i64 0, .int .i64 0, .int .i64 low, .int .i64 high, .string ⟨#[]⟩, .int .i64 0]) ∧ Below w.heap.size w w' := by
  subst h0
  have e0 : (acc == 0) = false := by simpa using h1
  have e5 : (acc == 5) = false := by simpa using h2
  clear h1 h2
  obtain ⟨S1, hS1⟩ : ∃ y, w.heap.size = y := ⟨_, rfl⟩
  obtain ⟨w1, hw1⟩ : ∃ y, w.alloc (.cells #[.int .i64 xid, .bool false, .int .i64 fl, .string bo, .int .i64 acc, .int .i64 rej, .int .i64 why, .int .i64 low, .int .i64 high, .string res] 46) = y := ⟨_, rfl⟩
  have B1 : Below w.heap.size w w1 := by rw [← hw1]; exact (Below.refl _ _).alloc (Nat.le_refl _) _
  have k1 : w1.heap[S1]? = some (.cells #[.int .i64 xid, .bool false, .int .i64 fl, .string bo, .int .i64 acc, .int .i64 rej, .int .i64 why, .int .i64 low, .int .i64 high, .string res] 46) := by rw [← hw1, ← hS1]; exact (MapKept.heap_alloc w _).1
  obtain ⟨S2, hS2⟩ : ∃ y, w1.heap.size = y := ⟨_, rfl⟩
  obtain ⟨w2, hw2⟩ : ∃ y, w1.alloc (.cells #[.int .i64 0, .int .i64 0, .int .i64 0, .int .i64 0, .int .i64 0, .int .i64 0, .int .i64 0, .string ⟨#[]⟩, .int .i64 0] 80) = y := ⟨_, rfl⟩
  have B2 : Below w.heap.size w w2 := by rw [← hw2]; exact B1.alloc B1.size _
  have k2 : w2.heap[S2]? = some (.cells #[.int .i64 0, .int .i64 0, .int .i64 0, .int .i64 0, .int .i64 0, .int .i64 0, .int .i64 0, .string ⟨#[]⟩, .int .i64 0] 80) := by rw [← hw2, ← hS2]; exact (MapKept.heap_alloc w1 _).1
  have hlt1 : S1 < S2 := by rw [← hS2]; exact (Array.getElem?_eq_some_iff.1 k1).1
  have k21 : w2.heap[S1]? = some (.cells #[.int .i64 xid, .bool false, .int .i64 fl, .string bo, .int .i64 acc, .int .i64 rej, .int .i64 why, .int .i64 low, .int .i64 high, .string res] 46) := by rw [← hw2]; exact (Below.heap_alloc _ _ _ (by omega)).trans k1
  have hleS : w.heap.size ≤ S2 := by omega
  have a1 : w2.cell? ⟨S1, 1, none⟩ = some (.bool false) := cell_at k21 rfl
  have a4 : w2.cell? ⟨S1, 4, none⟩ = some (.int .i64 acc) := cell_at k21 rfl
  have a5 : w2.cell? ⟨S1, 5, none⟩ = some (.int .i64 rej) := cell_at k21 rfl
  have a6 : w2.cell? ⟨S1, 6, none⟩ = some (.int .i64 why) := cell_at k21 rfl
  have a7 : w2.cell? ⟨S1, 7, none⟩ = some (.int .i64 low) := cell_at k21 rfl
  have a8 : w2.cell? ⟨S1, 8, none⟩ = some (.int .i64 high) := cell_at k21 rfl
  have a9 : w2.cell? ⟨S1, 9, none⟩ = some (.string res) := cell_at k21 rfl
  obtain ⟨v1, hv1⟩ : ∃ y, w2.setCell ⟨S2, 0, none⟩ (.int .i64 0) = y := ⟨_, rfl⟩
  have z0 : w2.cell? ⟨S2, 0, none⟩ = some (.int .i64 0) := cell_at k2 rfl
  have f0 : w2.frozen? ⟨S2, 0, none⟩ = false := frozen_at k2 0
  have kv1 : v1.heap[S2]? = some (.cells #[.int .i64 0, .int .i64 0, .int .i64 0, .int .i64 0, .int .i64 0, .int .i64 0, .int .i64 0, .string ⟨#[]⟩, .int .i64 0] 80) := by rw [← hv1]; exact set_at k2 0 _
  have Bv1 : Below w.heap.size w v1 := by rw [← hv1]; exact below_set B2 hleS
  obtain ⟨v2, hv2⟩ : ∃ y, v1.setCell ⟨S2, 1, none⟩ (.int .i64 4) = y := ⟨_, rfl⟩
  have z1 : v1.cell? ⟨S2, 1, none⟩ = some (.int .i64 0) := cell_at kv1 rfl
  have f1 : v1.frozen? ⟨S2, 1, none⟩ = false := frozen_at kv1 1
  have kv2 : v2.heap[S2]? = some (.cells #[.int .i64 0, .int .i64 4, .int .i64 0, .int .i64 0, .int .i64 0, .int .i64 0, .int .i64 0, .string ⟨#[]⟩, .int .i64 0] 80) := by rw [← hv2]; exact set_at kv1 1 _
  have Bv2 : Below w.heap.size w v2 := by rw [← hv2]; exact below_set Bv1 hleS
  clear kv1 Bv1
  obtain ⟨v3, hv3⟩ : ∃ y, v2.setCell ⟨S2, 2, none⟩ (.int .i64 acc) = y := ⟨_, rfl⟩
  have z2 : v2.cell? ⟨S2, 2, none⟩ = some (.int .i64 0) := cell_at kv2 rfl
  have f2 : v2.frozen? ⟨S2, 2, none⟩ = false := frozen_at kv2 2
  have kv3 : v3.heap[S2]? = some (.cells #[.int .i64 0, .int .i64 4, .int .i64 acc, .int .i64 0, .int .i64 0, .int .i64 0, .int .i64 0, .string ⟨#[]⟩, .int .i64 0] 80) := by rw [← hv3]; exact set_at kv2 2 _
  have Bv3 : Below w.heap.size w v3 := by rw [← hv3]; exact below_set Bv2 hleS
  clear kv2 Bv2
  obtain ⟨v4, hv4⟩ : ∃ y, v3.setCell ⟨S2, 3, none⟩ (.int .i64 0) = y := ⟨_, rfl⟩
  have z3 : v3.cell? ⟨S2, 3, none⟩ = some (.int .i64 0) := cell_at kv3 rfl
  have f3 : v3.frozen? ⟨S2, 3, none⟩ = false := frozen_at kv3 3
  have kv4 : v4.heap[S2]? = some (.cells #[.int .i64 0, .int .i64 4, .int .i64 acc, .int .i64 0, .int .i64 0, .int .i64 0, .int .i64 0, .string ⟨#[]⟩, .int .i64 0] 80) := by rw [← hv4]; exact set_at kv3 3 _
  have Bv4 : Below w.heap.size w v4 := by rw [← hv4]; exact below_set Bv3 hleS
  clear kv3 Bv3
  obtain ⟨v5, hv5⟩ : ∃ y, v4.setCell ⟨S2, 4, none⟩ (.int .i64 0) = y := ⟨_, rfl⟩
  have z4 : v4.cell? ⟨S2, 4, none⟩ = some (.int .i64 0) := cell_at kv4 rfl
  have f4 : v4.frozen? ⟨S2, 4, none⟩ = false := frozen_at kv4 4
  have kv5 : v5.heap[S2]? = some (.cells #[.int .i64 0, .int .i64 4, .int .i64 acc, .int .i64 0, .int .i64 0, .int .i64 0, .int .i64 0, .string ⟨#[]⟩, .int .i64 0] 80) := by rw [← hv5]; exact set_at kv4 4 _
  have Bv5 : Below w.heap.size w v5 := by rw [← hv5]; exact below_set Bv4 hleS
  clear kv4 Bv4
  obtain ⟨v6, hv6⟩ : ∃ y, v5.setCell ⟨S2, 5, none⟩ (.int .i64 low) = y := ⟨_, rfl⟩
  have z5 : v5.cell? ⟨S2, 5, none⟩ = some (.int .i64 0) := cell_at kv5 rfl
  have f5 : v5.frozen? ⟨S2, 5, none⟩ = false := frozen_at kv5 5
  have kv6 : v6.heap[S2]? = some (.cells #[.int .i64 0, .int .i64 4, .int .i64 acc, .int .i64 0, .int .i64 0, .int .i64 low, .int .i64 0, .string ⟨#[]⟩, .int .i64 0] 80) := by rw [← hv6]; exact set_at kv5 5 _
  have Bv6 : Below w.heap.size w v6 := by rw [← hv6]; exact below_set Bv5 hleS
  clear kv5 Bv5
  obtain ⟨v7, hv7⟩ : ∃ y, v6.setCell ⟨S2, 6, none⟩ (.int .i64 high) = y := ⟨_, rfl⟩
  have z6 : v6.cell? ⟨S2, 6, none⟩ = some (.int .i64 0) := cell_at kv6 rfl
  have f6 : v6.frozen? ⟨S2, 6, none⟩ = false := frozen_at kv6 6
  have kv7 : v7.heap[S2]? = some (.cells #[.int .i64 0, .int .i64 4, .int .i64 acc, .int .i64 0, .int .i64 0, .int .i64 low, .int .i64 high, .string ⟨#[]⟩, .int .i64 0] 80) := by rw [← hv7]; exact set_at kv6 6 _
  have Bv7 : Below w.heap.size w v7 := by rw [← hv7]; exact below_set Bv6 hleS
  clear kv6 Bv6
  obtain ⟨v8, hv8⟩ : ∃ y, v7.setCell ⟨S2, 7, none⟩ (.string ⟨#[]⟩) = y := ⟨_, rfl⟩
  have z7 : v7.cell? ⟨S2, 7, none⟩ = some (.string ⟨#[]⟩) := cell_at kv7 rfl
  have f7 : v7.frozen? ⟨S2, 7, none⟩ = false := frozen_at kv7 7
  have kv8 : v8.heap[S2]? = some (.cells #[.int .i64 0, .int .i64 4, .int .i64 acc, .int .i64 0, .int .i64 0, .int .i64 low, .int .i64 high, .string ⟨#[]⟩, .int .i64 0] 80) := by rw [← hv8]; exact set_at kv7 7 _
  have Bv8 : Below w.heap.size w v8 := by rw [← hv8]; exact below_set Bv7 hleS
  clear kv7 Bv7
  obtain ⟨v9, hv9⟩ : ∃ y, v8.setCell ⟨S2, 8, none⟩ (.int .i64 0) = y := ⟨_, rfl⟩
  have z8 : v8.cell? ⟨S2, 8, none⟩ = some (.int .i64 0) := cell_at kv8 rfl
  have f8 : v8.frozen? ⟨S2, 8, none⟩ = false := frozen_at kv8 8
  have kv9 : v9.heap[S2]? = some (.cells #[.int .i64 0, .int .i64 4, .int .i64 acc, .int .i64 0, .int .i64 0, .int .i64 low, .int .i64 high, .string ⟨#[]⟩, .int .i64 0] 80) := by rw [← hv9]; exact set_at kv8 8 _
  have Bv9 : Below w.heap.size w v9 := by rw [← hv9]; exact below_set Bv8 hleS
  clear kv8 Bv8
  have q0 : v9.cell? ⟨S2, 0, none⟩ = some (.int .i64 0) := cell_at kv9 rfl
  have q1 : v9.cell? ⟨S2, 1, none⟩ = some (.int .i64 4) := cell_at kv9 rfl
  have q2 : v9.cell? ⟨S2, 2, none⟩ = some (.int .i64 acc) := cell_at kv9 rfl
  have q3 : v9.cell? ⟨S2, 3, none⟩ = some (.int .i64 0) := cell_at kv9 rfl
  have q4 : v9.cell? ⟨S2, 4, none⟩ = some (.int .i64 0) := cell_at kv9 rfl
  have q5 : v9.cell? ⟨S2, 5, none⟩ = some (.int .i64 low) := cell_at kv9 rfl
  have q6 : v9.cell? ⟨S2, 6, none⟩ = some (.int .i64 high) := cell_at kv9 rfl
  have q7 : v9.cell? ⟨S2, 7, none⟩ = some (.string ⟨#[]⟩) := cell_at kv9 rfl
  have q8 : v9.cell? ⟨S2, 8, none⟩ = some (.int .i64 0) := cell_at kv9 rfl
  have HB := hid Bv9
  have hb := fun w => bld80_acc low high acc w
  clear kv9 Bv9 k2 B2 k1 B1 k21 hlt1 hleS
  go_enter Tryz.func87, Tryz.ntmps87
  go_wp2
  refine bodyPost_ret (v := .agg #[.int .i64 0, .int .i64 4, .int .i64 acc, .int .i64 0, .int .i64 0, .int .i64 low, .int .i64 high, .string ⟨#[]⟩, .int .i64 0]) (by simp [results, Tryz.results87, go_sem, q0, q1, q2, q3, q4, q5, q6, q7, q8]) rfl ?_
  exact ⟨rfl, HB.out⟩
theorem outcome_any (r : ReplyP) (w : World) : Calls Tryz.prog 87 #[.agg (replyV r).toArray] w fun e w' => e = .returned (.agg (ocC (outOf r)).toArray) ∧ Below w.heap.size w w' := by
  obtain ⟨xid, dn, vf, acc, low, high, res, rej, why⟩ := r
  unfold outOf
  dsimp only
  cases dn
  · by_cases h0 : acc = 0
    · rw [if_neg (by decide), if_pos h0]
      exact outcome_suc xid _ acc rej why low high false _ _ w rfl h0
    · by_cases h5 : acc = 5
      · rw [if_neg (by decide), if_neg h0, if_pos h5]
        exact outcome_ref xid _ acc rej why low high false _ _ w rfl h5
      · rw [if_neg (by decide), if_neg h0, if_neg h5]
        exact outcome_acc xid _ acc rej why low high false _ _ w rfl h0 h5
  · rw [if_pos rfl]
    exact outcome_den xid _ acc rej why low high true _ _ w rfl
end Go.Proofs.YtfcbjcebkahehaaGreatDoor.Cl
