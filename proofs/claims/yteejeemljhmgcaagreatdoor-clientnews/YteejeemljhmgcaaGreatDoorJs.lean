/- The client: begun. -/
import Derived.Test.YteejeemljhmgcaaGreatDoorJr
import Derived.Test.YteejeemljhmgcaaGreatDoorLf
namespace Go.Proofs.YteejeemljhmgcaaGreatDoor.Cl
open Go.RowKit
theorem bld52 (w : World) : (Instr.build 52 #[(0, .pointer none), (1, .pointer none)]).run Tryz.prog w = .ok (.agg #[.pointer none, .pointer none, .slice none 0 0]) w := by kernel_rfl
theorem bld52p (a b : Nat) (w : World) : (Instr.build 52 #[(0, ptr a), (1, ptr b)]).run Tryz.prog w = .ok (.agg #[ptr a, ptr b, .slice none 0 0]) w := by kernel_rfl
theorem cut24 (g n cap j : Nat) (hj : j ≤ cap) (w : World) : (Instr.slice 24 (.slice (some ⟨g, 0, none⟩) n cap) none (some (.int .i64 (j : Int))) none).run Tryz.prog w = .ok (.slice (some ⟨g, 0, none⟩) j cap) w := by
  obtain ⟨i, hi, _, _, _⟩ := info3
  simp [Instr.slice, run_underlying Tryz.underlying24, Instr.sliceBounds, Instr.sliceBound, asIntOf, sizeOf, typeInfo, hi, Addr.add]
  exact fun h => absurd h (by omega)
set_option maxRecDepth 8000 in
set_option maxHeartbeats 4000000 in
theorem begun_any (c : Cf) (oa : Option Addr) (cap n : Nat) (w : World) (hn : c.sys.groups.length = n) (hT : ErrT w) (hg : GsAt w w.heap.size oa c.sys.groups) (hcap : n ≤ cap) (hl : n ≤ 2147483647) (hmc : c.sys.machine.length ≤ 2147483647) :
    Calls Tryz.prog 8 #[.agg (cfA c oa cap)] w fun e w' => ∃ s, e = .returned (.tuple #[ptr s, .bool true]) ∧ Below w.heap.size w w' := by
  obtain ⟨w0, hw0⟩ : ∃ w0, w.alloc (cfB c oa cap) = w0 := ⟨_, rfl⟩
  obtain ⟨S0, hS0⟩ : ∃ S0, w.heap.size = S0 := ⟨_, rfl⟩
  have B0 : Below w.heap.size w w0 := by rw [← hw0]; exact (Below.refl _ _).alloc (Nat.le_refl _) _
  have k0 : w0.heap[S0]? = some (cfB c oa cap) := by rw [← hw0, ← hS0]; exact (MapKept.heap_alloc w _).1
  have hlt : S0 < w0.heap.size := (Array.getElem?_eq_some_iff.1 k0).1
  have hga : ∀ w', Below w.heap.size w w' → GsAt w' w'.heap.size oa c.sys.groups := fun w' hb h0 => by
    obtain ⟨q, off, e1, e2, e3⟩ := (hg.below hb) h0
    exact ⟨q, off, e1, Nat.lt_of_lt_of_le e2 hb.size, e3⟩
  have HGA := hid hga
  have HL : Hid (Calls Tryz.prog 25 #[.slice oa c.sys.groups.length cap] w0 fun e w' => e = .returned (.slice (some ⟨w0.heap.size, 0, none⟩) (n + 4) (n + 4)) ∧ Bk w' w0.heap.size (intsV c.sys.groups ++ List.replicate 4 (.int .i64 (-77))) 3 ∧ Below w0.heap.size w0 w') := by
    have := lent_any oa cap c.sys.groups w0 (hga w0 B0) (by omega)
    rw [hn] at this ⊢
    exact this
  have HK : Hid (w0.heap[S0]? = some (cfB c oa cap) ∧ S0 < w0.heap.size ∧ Below w.heap.size w w0 ∧ w.heap.size = S0) := ⟨k0, hlt, B0, hS0⟩
  have HX : Hid (ErrT w ∧ n ≤ cap ∧ n ≤ 2147483647 ∧ True ∧ c.sys.machine.length ≤ 2147483647 ∧ c.sys.groups.length = n) := ⟨hT, hcap, hl, trivial, hmc, hn⟩
  have a11 : w0.cell? ⟨S0, 11, none⟩ = some (.slice oa c.sys.groups.length cap) := cell_at k0 rfl
  obtain ⟨g, hgg⟩ : ∃ g, w0.heap.size = g := ⟨_, rfl⟩
  rw [hgg] at HL
  have HGG := hid hgg
  clear hn hT hg hcap hl hmc B0 k0 hlt hga hgg
  go_enter Tryz.func8, Tryz.ntmps8
  go_wp2_with fail
  refine HL.out.mono ?_
  rintro _ w1 ⟨rfl, hk1, hb1⟩
  have hb1' : Below w0.heap.size w0 w1 := by rw [HGG.out]; exact hb1
  have k1 : w1.heap[S0]? = some (cfB c oa cap) := (hb1'.block S0 HK.out.2.1).trans HK.out.1
  have b0 : w1.cell? ⟨S0, 0, none⟩ = some (.int .i64 c.ad) := cell_at k1 rfl
  have b1 : w1.cell? ⟨S0, 1, none⟩ = some (.int .i64 c.inst) := cell_at k1 rfl
  have b2 : w1.cell? ⟨S0, 2, none⟩ = some (.int .i64 c.first) := cell_at k1 rfl
  have b3 : w1.cell? ⟨S0, 3, none⟩ = some (.int .i64 c.win) := cell_at k1 rfl
  have b4 : w1.cell? ⟨S0, 4, none⟩ = some (.int .i64 c.pb) := cell_at k1 rfl
  have b5 : w1.cell? ⟨S0, 5, none⟩ = some (.int .i64 c.pc) := cell_at k1 rfl
  have b6 : w1.cell? ⟨S0, 6, none⟩ = some (.int .i64 c.pt) := cell_at k1 rfl
  have b7 : w1.cell? ⟨S0, 7, none⟩ = some (.int .i64 c.sys.stamp) := cell_at k1 rfl
  have b8 : w1.cell? ⟨S0, 8, none⟩ = some (.string ⟨c.sys.machine.toArray⟩) := cell_at k1 rfl
  have b9 : w1.cell? ⟨S0, 9, none⟩ = some (.int .i64 c.sys.user) := cell_at k1 rfl
  have b10 : w1.cell? ⟨S0, 10, none⟩ = some (.int .i64 c.sys.group) := cell_at k1 rfl
  have b11 : w1.cell? ⟨S0, 11, none⟩ = some (.slice oa c.sys.groups.length cap) := cell_at k1 rfl
  obtain ⟨S2, hS2⟩ : ∃ S2, w1.heap.size = S2 := ⟨_, rfl⟩
  obtain ⟨w2, hw2⟩ : ∃ w2, w1.alloc (.cells #[.int .i64 0, .int .i64 0, .int .i64 0, .int .i64 0, .int .i64 0, .int .i64 0, .int .i64 0, .int .i64 0, .string ⟨#[]⟩, .int .i64 0, .int .i64 0, .slice none 0 0] 28) = w2 := ⟨_, rfl⟩
  have k2 : w2.heap[S2]? = some (.cells #[.int .i64 0, .int .i64 0, .int .i64 0, .int .i64 0, .int .i64 0, .int .i64 0, .int .i64 0, .int .i64 0, .string ⟨#[]⟩, .int .i64 0, .int .i64 0, .slice none 0 0] 28) := by rw [← hw2, ← hS2]; exact (MapKept.heap_alloc w1 _).1
  have B2 : Below w1.heap.size w1 w2 := by rw [← hw2]; exact (Below.refl _ _).alloc (Nat.le_refl _) _
  have hleS : w1.heap.size ≤ S2 := by omega
  obtain ⟨v1, hv1⟩ : ∃ y, w2.setCell ⟨S2, 0, none⟩ (.int .i64 c.ad) = y := ⟨_, rfl⟩
  have z0 : w2.cell? ⟨S2, 0, none⟩ = some (.int .i64 0) := cell_at k2 rfl
  have f0 : w2.frozen? ⟨S2, 0, none⟩ = false := frozen_at k2 0
  have kv1 : v1.heap[S2]? = some (.cells #[.int .i64 c.ad, .int .i64 0, .int .i64 0, .int .i64 0, .int .i64 0, .int .i64 0, .int .i64 0, .int .i64 0, .string ⟨#[]⟩, .int .i64 0, .int .i64 0, .slice none 0 0] 28) := by rw [← hv1]; exact set_at k2 0 _
  have Bv1 : Below w1.heap.size w1 v1 := by rw [← hv1]; exact below_set B2 hleS
  obtain ⟨v2, hv2⟩ : ∃ y, v1.setCell ⟨S2, 1, none⟩ (.int .i64 c.inst) = y := ⟨_, rfl⟩
  have z1 : v1.cell? ⟨S2, 1, none⟩ = some (.int .i64 0) := cell_at kv1 rfl
  have f1 : v1.frozen? ⟨S2, 1, none⟩ = false := frozen_at kv1 1
  have kv2 : v2.heap[S2]? = some (.cells #[.int .i64 c.ad, .int .i64 c.inst, .int .i64 0, .int .i64 0, .int .i64 0, .int .i64 0, .int .i64 0, .int .i64 0, .string ⟨#[]⟩, .int .i64 0, .int .i64 0, .slice none 0 0] 28) := by rw [← hv2]; exact set_at kv1 1 _
  have Bv2 : Below w1.heap.size w1 v2 := by rw [← hv2]; exact below_set Bv1 hleS
  clear kv1 Bv1
  obtain ⟨v3, hv3⟩ : ∃ y, v2.setCell ⟨S2, 2, none⟩ (.int .i64 c.first) = y := ⟨_, rfl⟩
  have z2 : v2.cell? ⟨S2, 2, none⟩ = some (.int .i64 0) := cell_at kv2 rfl
  have f2 : v2.frozen? ⟨S2, 2, none⟩ = false := frozen_at kv2 2
  have kv3 : v3.heap[S2]? = some (.cells #[.int .i64 c.ad, .int .i64 c.inst, .int .i64 c.first, .int .i64 0, .int .i64 0, .int .i64 0, .int .i64 0, .int .i64 0, .string ⟨#[]⟩, .int .i64 0, .int .i64 0, .slice none 0 0] 28) := by rw [← hv3]; exact set_at kv2 2 _
  have Bv3 : Below w1.heap.size w1 v3 := by rw [← hv3]; exact below_set Bv2 hleS
  clear kv2 Bv2
  obtain ⟨v4, hv4⟩ : ∃ y, v3.setCell ⟨S2, 3, none⟩ (.int .i64 c.win) = y := ⟨_, rfl⟩
  have z3 : v3.cell? ⟨S2, 3, none⟩ = some (.int .i64 0) := cell_at kv3 rfl
  have f3 : v3.frozen? ⟨S2, 3, none⟩ = false := frozen_at kv3 3
  have kv4 : v4.heap[S2]? = some (.cells #[.int .i64 c.ad, .int .i64 c.inst, .int .i64 c.first, .int .i64 c.win, .int .i64 0, .int .i64 0, .int .i64 0, .int .i64 0, .string ⟨#[]⟩, .int .i64 0, .int .i64 0, .slice none 0 0] 28) := by rw [← hv4]; exact set_at kv3 3 _
  have Bv4 : Below w1.heap.size w1 v4 := by rw [← hv4]; exact below_set Bv3 hleS
  clear kv3 Bv3
  obtain ⟨v5, hv5⟩ : ∃ y, v4.setCell ⟨S2, 4, none⟩ (.int .i64 c.pb) = y := ⟨_, rfl⟩
  have z4 : v4.cell? ⟨S2, 4, none⟩ = some (.int .i64 0) := cell_at kv4 rfl
  have f4 : v4.frozen? ⟨S2, 4, none⟩ = false := frozen_at kv4 4
  have kv5 : v5.heap[S2]? = some (.cells #[.int .i64 c.ad, .int .i64 c.inst, .int .i64 c.first, .int .i64 c.win, .int .i64 c.pb, .int .i64 0, .int .i64 0, .int .i64 0, .string ⟨#[]⟩, .int .i64 0, .int .i64 0, .slice none 0 0] 28) := by rw [← hv5]; exact set_at kv4 4 _
  have Bv5 : Below w1.heap.size w1 v5 := by rw [← hv5]; exact below_set Bv4 hleS
  clear kv4 Bv4
  obtain ⟨v6, hv6⟩ : ∃ y, v5.setCell ⟨S2, 5, none⟩ (.int .i64 c.pc) = y := ⟨_, rfl⟩
  have z5 : v5.cell? ⟨S2, 5, none⟩ = some (.int .i64 0) := cell_at kv5 rfl
  have f5 : v5.frozen? ⟨S2, 5, none⟩ = false := frozen_at kv5 5
  have kv6 : v6.heap[S2]? = some (.cells #[.int .i64 c.ad, .int .i64 c.inst, .int .i64 c.first, .int .i64 c.win, .int .i64 c.pb, .int .i64 c.pc, .int .i64 0, .int .i64 0, .string ⟨#[]⟩, .int .i64 0, .int .i64 0, .slice none 0 0] 28) := by rw [← hv6]; exact set_at kv5 5 _
  have Bv6 : Below w1.heap.size w1 v6 := by rw [← hv6]; exact below_set Bv5 hleS
  clear kv5 Bv5
  obtain ⟨v7, hv7⟩ : ∃ y, v6.setCell ⟨S2, 6, none⟩ (.int .i64 c.pt) = y := ⟨_, rfl⟩
  have z6 : v6.cell? ⟨S2, 6, none⟩ = some (.int .i64 0) := cell_at kv6 rfl
  have f6 : v6.frozen? ⟨S2, 6, none⟩ = false := frozen_at kv6 6
  have kv7 : v7.heap[S2]? = some (.cells #[.int .i64 c.ad, .int .i64 c.inst, .int .i64 c.first, .int .i64 c.win, .int .i64 c.pb, .int .i64 c.pc, .int .i64 c.pt, .int .i64 0, .string ⟨#[]⟩, .int .i64 0, .int .i64 0, .slice none 0 0] 28) := by rw [← hv7]; exact set_at kv6 6 _
  have Bv7 : Below w1.heap.size w1 v7 := by rw [← hv7]; exact below_set Bv6 hleS
  clear kv6 Bv6
  obtain ⟨v8, hv8⟩ : ∃ y, v7.setCell ⟨S2, 7, none⟩ (.int .i64 c.sys.stamp) = y := ⟨_, rfl⟩
  have z7 : v7.cell? ⟨S2, 7, none⟩ = some (.int .i64 0) := cell_at kv7 rfl
  have f7 : v7.frozen? ⟨S2, 7, none⟩ = false := frozen_at kv7 7
  have kv8 : v8.heap[S2]? = some (.cells #[.int .i64 c.ad, .int .i64 c.inst, .int .i64 c.first, .int .i64 c.win, .int .i64 c.pb, .int .i64 c.pc, .int .i64 c.pt, .int .i64 c.sys.stamp, .string ⟨#[]⟩, .int .i64 0, .int .i64 0, .slice none 0 0] 28) := by rw [← hv8]; exact set_at kv7 7 _
  have Bv8 : Below w1.heap.size w1 v8 := by rw [← hv8]; exact below_set Bv7 hleS
  clear kv7 Bv7
  obtain ⟨v9, hv9⟩ : ∃ y, v8.setCell ⟨S2, 8, none⟩ (.string ⟨c.sys.machine.toArray⟩) = y := ⟨_, rfl⟩
  have z8 : v8.cell? ⟨S2, 8, none⟩ = some (.string ⟨#[]⟩) := cell_at kv8 rfl
  have f8 : v8.frozen? ⟨S2, 8, none⟩ = false := frozen_at kv8 8
  have kv9 : v9.heap[S2]? = some (.cells #[.int .i64 c.ad, .int .i64 c.inst, .int .i64 c.first, .int .i64 c.win, .int .i64 c.pb, .int .i64 c.pc, .int .i64 c.pt, .int .i64 c.sys.stamp, .string ⟨c.sys.machine.toArray⟩, .int .i64 0, .int .i64 0, .slice none 0 0] 28) := by rw [← hv9]; exact set_at kv8 8 _
  have Bv9 : Below w1.heap.size w1 v9 := by rw [← hv9]; exact below_set Bv8 hleS
  clear kv8 Bv8
  obtain ⟨v10, hv10⟩ : ∃ y, v9.setCell ⟨S2, 9, none⟩ (.int .i64 c.sys.user) = y := ⟨_, rfl⟩
  have z9 : v9.cell? ⟨S2, 9, none⟩ = some (.int .i64 0) := cell_at kv9 rfl
  have f9 : v9.frozen? ⟨S2, 9, none⟩ = false := frozen_at kv9 9
  have kv10 : v10.heap[S2]? = some (.cells #[.int .i64 c.ad, .int .i64 c.inst, .int .i64 c.first, .int .i64 c.win, .int .i64 c.pb, .int .i64 c.pc, .int .i64 c.pt, .int .i64 c.sys.stamp, .string ⟨c.sys.machine.toArray⟩, .int .i64 c.sys.user, .int .i64 0, .slice none 0 0] 28) := by rw [← hv10]; exact set_at kv9 9 _
  have Bv10 : Below w1.heap.size w1 v10 := by rw [← hv10]; exact below_set Bv9 hleS
  clear kv9 Bv9
  obtain ⟨v11, hv11⟩ : ∃ y, v10.setCell ⟨S2, 10, none⟩ (.int .i64 c.sys.group) = y := ⟨_, rfl⟩
  have z10 : v10.cell? ⟨S2, 10, none⟩ = some (.int .i64 0) := cell_at kv10 rfl
  have f10 : v10.frozen? ⟨S2, 10, none⟩ = false := frozen_at kv10 10
  have kv11 : v11.heap[S2]? = some (.cells #[.int .i64 c.ad, .int .i64 c.inst, .int .i64 c.first, .int .i64 c.win, .int .i64 c.pb, .int .i64 c.pc, .int .i64 c.pt, .int .i64 c.sys.stamp, .string ⟨c.sys.machine.toArray⟩, .int .i64 c.sys.user, .int .i64 c.sys.group, .slice none 0 0] 28) := by rw [← hv11]; exact set_at kv10 10 _
  have Bv11 : Below w1.heap.size w1 v11 := by rw [← hv11]; exact below_set Bv10 hleS
  clear kv10 Bv10
  obtain ⟨w3, hw3⟩ : ∃ y, v11.setCell ⟨S2, 11, none⟩ (.slice oa c.sys.groups.length cap) = y := ⟨_, rfl⟩
  have z11 : v11.cell? ⟨S2, 11, none⟩ = some (.slice none 0 0) := cell_at kv11 rfl
  have f11 : v11.frozen? ⟨S2, 11, none⟩ = false := frozen_at kv11 11
  have k3 : w3.heap[S2]? = some (.cells #[.int .i64 c.ad, .int .i64 c.inst, .int .i64 c.first, .int .i64 c.win, .int .i64 c.pb, .int .i64 c.pc, .int .i64 c.pt, .int .i64 c.sys.stamp, .string ⟨c.sys.machine.toArray⟩, .int .i64 c.sys.user, .int .i64 c.sys.group, .slice oa c.sys.groups.length cap] 28) := by rw [← hw3]; exact set_at kv11 11 _
  have B3 : Below w1.heap.size w1 w3 := by rw [← hw3]; exact below_set Bv11 hleS
  clear kv11 Bv11
  have HB3 : Hid (Below w1.heap.size w1 w3 ∧ w3.heap[S2]? = some (cfB c oa cap) ∧ w1.heap.size = S2) := ⟨B3, k3, hS2⟩
  have HW1 : Hid (Below w0.heap.size w0 w1 ∧ w1.heap[S0]? = some (cfB c oa cap) ∧ Bk w1 g (intsV c.sys.groups ++ List.replicate 4 (.int .i64 (-77))) 3) := ⟨hb1', k1, hk1⟩
  have hlt0 : S0 < w1.heap.size := (Array.getElem?_eq_some_iff.1 k1).1
  have y11 : w3.cell? ⟨S0, 11, none⟩ = some (.slice oa c.sys.groups.length cap) := cell_at ((B3.block S0 hlt0).trans k1) rfl
  have y211 : w3.cell? ⟨S2, 11, none⟩ = some (.slice oa c.sys.groups.length cap) := cell_at k3 rfl
  have fy := frozen_at k3 11
  obtain ⟨w4, hw4⟩ : ∃ w4, w3.setCell ⟨S2, 11, none⟩ (.slice (some ⟨g, 0, none⟩) n (n + 4)) = w4 := ⟨_, rfl⟩
  have hcut : ∀ w : World, (Instr.slice 24 (.slice (some ⟨g, 0, none⟩) (n + 4) (n + 4)) none (some (.int .i64 (c.sys.groups.length : Int))) none).run Tryz.prog w = .ok (.slice (some ⟨g, 0, none⟩) n (n + 4)) w := fun w => by
    rw [HX.out.2.2.2.2.2]
    exact cut24 g (n + 4) (n + 4) n (by omega) w
  have k4 : w4.heap[S2]? = some (.cells #[.int .i64 c.ad, .int .i64 c.inst, .int .i64 c.first, .int .i64 c.win, .int .i64 c.pb, .int .i64 c.pc, .int .i64 c.pt, .int .i64 c.sys.stamp, .string ⟨c.sys.machine.toArray⟩, .int .i64 c.sys.user, .int .i64 c.sys.group, .slice (some ⟨g, 0, none⟩) n (n + 4)] 28) := by rw [← hw4]; exact set_at k3 11 _
  have B4 : Below w1.heap.size w1 w4 := by rw [← hw4]; exact below_set B3 hleS
  have e0 : w4.cell? ⟨S2, 0, none⟩ = some (.int .i64 c.ad) := cell_at k4 rfl
  have e1 : w4.cell? ⟨S2, 1, none⟩ = some (.int .i64 c.inst) := cell_at k4 rfl
  have e2 : w4.cell? ⟨S2, 2, none⟩ = some (.int .i64 c.first) := cell_at k4 rfl
  have e3 : w4.cell? ⟨S2, 3, none⟩ = some (.int .i64 c.win) := cell_at k4 rfl
  have e4 : w4.cell? ⟨S2, 4, none⟩ = some (.int .i64 c.pb) := cell_at k4 rfl
  have e5 : w4.cell? ⟨S2, 5, none⟩ = some (.int .i64 c.pc) := cell_at k4 rfl
  have e6 : w4.cell? ⟨S2, 6, none⟩ = some (.int .i64 c.pt) := cell_at k4 rfl
  have e7 : w4.cell? ⟨S2, 7, none⟩ = some (.int .i64 c.sys.stamp) := cell_at k4 rfl
  have e8 : w4.cell? ⟨S2, 8, none⟩ = some (.string ⟨c.sys.machine.toArray⟩) := cell_at k4 rfl
  have e9 : w4.cell? ⟨S2, 9, none⟩ = some (.int .i64 c.sys.user) := cell_at k4 rfl
  have e10 : w4.cell? ⟨S2, 10, none⟩ = some (.int .i64 c.sys.group) := cell_at k4 rfl
  have e11 : w4.cell? ⟨S2, 11, none⟩ = some (.slice (some ⟨g, 0, none⟩) n (n + 4)) := cell_at k4 rfl
  have HB4 : Hid (Below w1.heap.size w1 w4) := B4
  have HB04 : Hid (Below w.heap.size w w4) := by
    have h1 := HK.out.2.2.1
    exact (h1.trans (hb1'.mono h1.size)).trans (B4.mono (Nat.le_trans h1.size hb1'.size))
  have HNW : Hid (Calls Tryz.prog 14 #[.agg #[.int .i64 c.ad, .int .i64 c.inst, .int .i64 c.first, .int .i64 c.win, .int .i64 c.pb, .int .i64 c.pc, .int .i64 c.pt, .int .i64 c.sys.stamp, .string ⟨c.sys.machine.toArray⟩, .int .i64 c.sys.user, .int .i64 c.sys.group, .slice (some ⟨g, 0, none⟩) n (n + 4)]] w4 fun e w' => (okC c = false ∧ e = .returned (.tuple #[.pointer none, .int .i64 170]) ∧ Below w4.heap.size w4 w') ∨ (okC c = true ∧ ∃ p, e = .returned (.tuple #[ptr p, .int .i64 0]) ∧ NewC w4 w' c p)) := by
    have hx := HX.out
    have gl : GsAt w4 w4.heap.size (some ⟨g, 0, none⟩) c.sys.groups := fun h0 => by
      obtain ⟨q, off, e1, e2, e3⟩ := ((lent_gs hk1).below B4) h0
      exact ⟨q, off, e1, Nat.lt_of_lt_of_le e2 B4.size, e3⟩
    have := new_any c (some ⟨g, 0, none⟩) (n + 4) w4 (hx.1.below HB04.out) gl (by omega) (by omega) (fun a ha => by cases ha; rfl) (by omega)
    unfold cfA at this
    rw [hx.2.2.2.2.2] at this
    exact this
  clear k1 k2 B2 hleS B3 k3 hb1 hb1' hk1 hlt0 HL a11 k4 B4
  go_wp2_with fail
  clear b0 b1 b2 b3 b4 b5 b6 b7 b8 b9 b10 b11 z0 z1 z2 z3 z4 z5 z6 z7 z8 z9 z10 z11 f0 f1 f2 f3 f4 f5 f6 f7 f8 f9 f10 f11 hv1 hv2 hv3 hv4 hv5 hv6 hv7 hv8 hv9 hv10 hv11 hw2 hw3 hw4 hcut y11 y211 fy e0 e1 e2 e3 e4 e5 e6 e7 e8 e9 e10 e11
  obtain ⟨ok, hok⟩ : ∃ ok, okC c = ok := ⟨_, rfl⟩
  rw [hok] at HNW
  have HOK := hid hok
  clear hok
  have HSTEP : Hid (∀ w5, Below w4.heap.size w4 w5 → w5.heap[S0]? = some (cfB c oa cap) ∧ Below w.heap.size w w5 ∧ Bk w5 g (intsV c.sys.groups ++ List.replicate 4 (.int .i64 (-77))) 3) := fun w5 hb => by
    have h4 := HB4.out
    have b15 : Below w1.heap.size w1 w5 := h4.trans (hb.mono h4.size)
    have hw1 := HW1.out
    exact ⟨(b15.block S0 (Array.getElem?_eq_some_iff.1 hw1.2.1).1).trans hw1.2.1, HB04.out.trans (hb.mono HB04.out.size), hw1.2.2.below b15 hw1.2.2.lt⟩
  have HDN : Hid (∀ w5, Below w4.heap.size w4 w5 → Calls Tryz.prog 26 #[.agg (cfA c oa cap)] w5 fun e w' => (ok = false ∧ e = .returned (.tuple #[.pointer none, .int .i64 170]) ∧ Below w5.heap.size w5 w') ∨ (ok = true ∧ ∃ p, e = .returned (.tuple #[ptr p, .int .i64 0]) ∧ Below w5.heap.size w5 w')) := fun w5 hb => by
    have hs := HSTEP.out w5 hb
    refine (dnew_any c oa cap w5 (HGA.out w5 hs.2.1)).mono ?_
    rintro e w' (⟨e1, e2, e3⟩ | ⟨e1, p, e2, e3⟩)
    · exact .inl ⟨HOK.out.symm.trans e1, e2, e3⟩
    · exact .inr ⟨HOK.out.symm.trans e1, p, e2, e3.be⟩
  have HWH : Hid (∀ w6, Below w4.heap.size w4 w6 → Calls Tryz.prog 27 #[.slice (some ⟨g, 0, none⟩) (n + 4) (n + 4), .slice oa c.sys.groups.length cap] w6 fun e w' => e = .returned (.bool true) ∧ Hid (Below w.heap.size w w')) := fun w6 hb => by
    have hs := HSTEP.out w6 hb
    have hx := HX.out
    have := whole_any g oa cap c.sys.groups w6 hs.2.2 (HGA.out w6 hs.2.1) (by omega)
    rw [hx.2.2.2.2.2] at this ⊢
    refine this.mono ?_
    rintro _ w' ⟨rfl, sl⟩
    have hgw : w.heap.size ≤ g := by have := HGG.out; have := HK.out.2.2.1.size; omega
    exact ⟨rfl, hs.2.1.trans (sl.belowB hgw hs.2.1.size)⟩
  clear HW1 HB3 HGA HX
  refine HNW.out.mono ?_
  rintro _ w5 (⟨rfl, rfl, hb5⟩ | ⟨rfl, p, rfl, hn5⟩)
  · have k5 := (HSTEP.out w5 hb5).1
    have s0 : w5.cell? ⟨S0, 0, none⟩ = some (.int .i64 c.ad) := cell_at k5 rfl
    have s1 : w5.cell? ⟨S0, 1, none⟩ = some (.int .i64 c.inst) := cell_at k5 rfl
    have s2 : w5.cell? ⟨S0, 2, none⟩ = some (.int .i64 c.first) := cell_at k5 rfl
    have s3 : w5.cell? ⟨S0, 3, none⟩ = some (.int .i64 c.win) := cell_at k5 rfl
    have s4 : w5.cell? ⟨S0, 4, none⟩ = some (.int .i64 c.pb) := cell_at k5 rfl
    have s5 : w5.cell? ⟨S0, 5, none⟩ = some (.int .i64 c.pc) := cell_at k5 rfl
    have s6 : w5.cell? ⟨S0, 6, none⟩ = some (.int .i64 c.pt) := cell_at k5 rfl
    have s7 : w5.cell? ⟨S0, 7, none⟩ = some (.int .i64 c.sys.stamp) := cell_at k5 rfl
    have s8 : w5.cell? ⟨S0, 8, none⟩ = some (.string ⟨c.sys.machine.toArray⟩) := cell_at k5 rfl
    have s9 : w5.cell? ⟨S0, 9, none⟩ = some (.int .i64 c.sys.user) := cell_at k5 rfl
    have s10 : w5.cell? ⟨S0, 10, none⟩ = some (.int .i64 c.sys.group) := cell_at k5 rfl
    have s11 : w5.cell? ⟨S0, 11, none⟩ = some (.slice oa c.sys.groups.length cap) := cell_at k5 rfl
    have HD5 := hid (HDN.out w5 hb5)
    have HB5 := hid hb5
    clear k5 hb5 HNW
    go_wp2_with fail
    refine HD5.out.mono ?_
    rintro _ w6 (⟨h6, e6, hb6⟩ | ⟨h6, q, e6, hb6⟩)
    rotate_left
    · cases h6
    subst e6
    have hb46 : Below w4.heap.size w4 w6 := HB5.out.trans (hb6.mono HB5.out.size)
    have x11 : w6.cell? ⟨S0, 11, none⟩ = some (.slice oa c.sys.groups.length cap) := cell_at (HSTEP.out w6 hb46).1 rfl
    have HW6 := hid (HWH.out w6 hb46)
    clear s0 s1 s2 s3 s4 s5 s6 s7 s8 s9 s10 s11 HD5 hb6 hb46 HDN HWH HSTEP
    go_wp2_with fail
    refine HW6.out.mono ?_
    rintro _ w7 ⟨rfl, HE7⟩
    have HE : Hid (∀ o, Below w.heap.size w (w7.alloc o)) := fun o => HE7.out.alloc HE7.out.size o
    have hbl := bld52
    clear HW6 x11
    go_wp2
    go_ret2
    exact ⟨_, rfl, HE.out _⟩
  · have hb5 := hn5.be
    have k5 := (HSTEP.out w5 hb5).1
    have s0 : w5.cell? ⟨S0, 0, none⟩ = some (.int .i64 c.ad) := cell_at k5 rfl
    have s1 : w5.cell? ⟨S0, 1, none⟩ = some (.int .i64 c.inst) := cell_at k5 rfl
    have s2 : w5.cell? ⟨S0, 2, none⟩ = some (.int .i64 c.first) := cell_at k5 rfl
    have s3 : w5.cell? ⟨S0, 3, none⟩ = some (.int .i64 c.win) := cell_at k5 rfl
    have s4 : w5.cell? ⟨S0, 4, none⟩ = some (.int .i64 c.pb) := cell_at k5 rfl
    have s5 : w5.cell? ⟨S0, 5, none⟩ = some (.int .i64 c.pc) := cell_at k5 rfl
    have s6 : w5.cell? ⟨S0, 6, none⟩ = some (.int .i64 c.pt) := cell_at k5 rfl
    have s7 : w5.cell? ⟨S0, 7, none⟩ = some (.int .i64 c.sys.stamp) := cell_at k5 rfl
    have s8 : w5.cell? ⟨S0, 8, none⟩ = some (.string ⟨c.sys.machine.toArray⟩) := cell_at k5 rfl
    have s9 : w5.cell? ⟨S0, 9, none⟩ = some (.int .i64 c.sys.user) := cell_at k5 rfl
    have s10 : w5.cell? ⟨S0, 10, none⟩ = some (.int .i64 c.sys.group) := cell_at k5 rfl
    have s11 : w5.cell? ⟨S0, 11, none⟩ = some (.slice oa c.sys.groups.length cap) := cell_at k5 rfl
    have HD5 := hid (HDN.out w5 hb5)
    have HB5 := hid hb5
    clear k5 hb5 HNW hn5
    go_wp2_with fail
    refine HD5.out.mono ?_
    rintro _ w6 (⟨h6, e6, hb6⟩ | ⟨h6, q, e6, hb6⟩)
    · cases h6
    subst e6
    have hb46 : Below w4.heap.size w4 w6 := HB5.out.trans (hb6.mono HB5.out.size)
    have x11 : w6.cell? ⟨S0, 11, none⟩ = some (.slice oa c.sys.groups.length cap) := cell_at (HSTEP.out w6 hb46).1 rfl
    have HW6 := hid (HWH.out w6 hb46)
    clear s0 s1 s2 s3 s4 s5 s6 s7 s8 s9 s10 s11 HD5 hb6 hb46 HDN HWH HSTEP
    go_wp2_with fail
    refine HW6.out.mono ?_
    rintro _ w7 ⟨rfl, HE7⟩
    have HE : Hid (∀ o, Below w.heap.size w (w7.alloc o)) := fun o => HE7.out.alloc HE7.out.size o
    have hbl := fun w => bld52p p q w
    clear HW6 x11
    go_wp2
    go_ret2
    exact ⟨_, rfl, HE.out _⟩
end Go.Proofs.YteejeemljhmgcaaGreatDoor.Cl
