/- ClientNews: the law. -/
import Derived.Test.YteejeemljhmgcaaGreatDoorHd
import Derived.Test.YteejeemljhmgcaaGreatDoorJs
namespace Go.Proofs.YteejeemljhmgcaaGreatDoor.Cl
open Go.RowKit
theorem addsUp_small (n m : Int) (h : n ≤ 2147483647 ∧ m ≤ 2147483647) (h0 : 0 ≤ n ∧ 0 ≤ m) (w : World) : Calls Tryz.prog 6 #[.int .i64 n, .int .i64 m] w fun e w' => e = .returned (.int .i64 (n + m)) ∧ w' = w := by
  have a : ¬ 2147483647 < n := by omega
  have b : ¬ 2147483647 < m := by omega
  have c : wrap64 (n + m) = n + m := by unfold wrap64; omega
  go_enter Tryz.func6, Tryz.ntmps6
  go_wp2
  go_ret
  exact ⟨rfl, rfl⟩
theorem addsUp_great (n m : Int) (h : 2147483647 < n ∨ 2147483647 < m) (w : World) : Calls Tryz.prog 6 #[.int .i64 n, .int .i64 m] w fun e w' => e = .returned (.int .i64 2147483648) ∧ w' = w := by
  by_cases a : 2147483647 < n
  · clear h
    go_enter Tryz.func6, Tryz.ntmps6
    go_wp2
    go_ret
    exact ⟨rfl, rfl⟩
  · have b : 2147483647 < m := by omega
    clear h
    go_enter Tryz.func6, Tryz.ntmps6
    go_wp2
    go_ret
    exact ⟨rfl, rfl⟩
set_option maxRecDepth 8000 in
set_option maxHeartbeats 8000000 in
theorem clientNews_any (c : Cf) (oa : Option Addr) (cap : Nat) (w : World) (hT : ErrT w) (hg : GsAt w w.heap.size oa c.sys.groups) (hcap : c.sys.groups.length ≤ cap) :
    Calls Tryz.prog 3 #[.agg (cfA c oa cap)] w fun e w' => e = .returned (.bool true) ∧ Below w.heap.size w w' := by
  obtain ⟨w0, hw0⟩ : ∃ w0, w.alloc (cfB c oa cap) = w0 := ⟨_, rfl⟩
  obtain ⟨S0, hS0⟩ : ∃ S0, w.heap.size = S0 := ⟨_, rfl⟩
  have B0 : Below w.heap.size w w0 := by rw [← hw0]; exact (Below.refl _ _).alloc (Nat.le_refl _) _
  have k0 : w0.heap[S0]? = some (cfB c oa cap) := by rw [← hw0, ← hS0]; exact (MapKept.heap_alloc w _).1
  have hl1 : 1 < w.heap.size := World.block_lt_of_cell? _ _ hT
  have hT0 : ErrT w0 := (World.cell?_of_block (a := ⟨1, 0, none⟩) (B0.block 1 hl1)).trans hT
  obtain ⟨ms, hms⟩ : ∃ ms : ByteArray, (⟨c.sys.machine.toArray⟩ : ByteArray) = ms := ⟨_, rfl⟩
  have hmz : ms.size = c.sys.machine.length := by rw [← hms]; simp [ByteArray.size]
  obtain ⟨n, hn⟩ : ∃ n, c.sys.groups.length = n := ⟨_, rfl⟩
  have c8 : w0.cell? ⟨S0, 8, none⟩ = some (.string ms) := by rw [← hms]; exact cell_at k0 rfl
  have c11 : w0.cell? ⟨S0, 11, none⟩ = some (.slice oa n cap) := by rw [← hn]; exact cell_at k0 rfl
  by_cases hbig : (2147483647 : Int) < ms.size ∨ (2147483647 : Int) < n
  · have HA := hid (addsUp_great ms.size n hbig w0)
    have HB := hid B0
    clear hbig B0 k0 hT hg hcap hT0 hms hmz hn hl1
    go_enter Tryz.func3, Tryz.ntmps3
    go_wp2_with fail
    refine HA.out.mono ?_
    rintro _ _ ⟨rfl, rfl⟩
    go_wp2
    go_ret
    exact ⟨rfl, HB.out⟩
  · by_cases hsum : (2147483647 : Int) < (ms.size : Int) + n
    · have HA := hid (addsUp_small ms.size n (by omega) (by omega) w0)
      have HB := hid B0
      clear hbig B0 k0 hT hg hcap hT0 hms hmz hn hl1
      go_enter Tryz.func3, Tryz.ntmps3
      go_wp2_with fail
      refine HA.out.mono ?_
      rintro _ _ ⟨rfl, rfl⟩
      go_wp2
      go_ret
      exact ⟨rfl, HB.out⟩
    · have HA := hid (addsUp_small ms.size n (by omega) (by omega) w0)
      obtain ⟨sm, hsm⟩ : ∃ sm : Int, (ms.size : Int) + n = sm := ⟨_, rfl⟩
      rw [hsm] at HA hsum
      have HW := hid (awake_any w0 hT0)
      have HK : Hid (∀ w1, Below w0.heap.size w0 w1 → w1.heap[S0]? = some (cfB c oa cap) ∧ Calls Tryz.prog 8 #[.agg (cfA c oa cap)] w1 fun e w' => ∃ s, e = .returned (.tuple #[ptr s, .bool true]) ∧ Hid (Below w.heap.size w w')) := fun w1 hb => by
        have hlt : S0 < w0.heap.size := (Array.getElem?_eq_some_iff.1 k0).1
        have b1 : Below w.heap.size w w1 := B0.trans (hb.mono B0.size)
        have hT1 : ErrT w1 := (World.cell?_of_block (a := ⟨1, 0, none⟩) (b1.block 1 hl1)).trans hT
        refine ⟨(hb.block S0 hlt).trans k0, ?_⟩
        refine (begun_any c oa cap n w1 hn hT1 (fun h0 => ?_) (by omega) (by omega) (by omega)).mono ?_
        · obtain ⟨q, off, e1, e2, e3⟩ := hg h0
          exact ⟨q, off, e1, Nat.lt_of_lt_of_le e2 b1.size, fun i hi => (World.cell?_of_block (a := ⟨q, off + i, none⟩) (b1.block q e2)).trans (e3 i hi)⟩
        · rintro e w' ⟨s, e1, hb'⟩
          exact ⟨s, e1, b1.trans (hb'.mono b1.size)⟩
      clear hbig B0 k0 hT hg hcap hT0 hms hmz hn hl1 hsm
      go_enter Tryz.func3, Tryz.ntmps3
      go_wp2_with fail
      refine HA.out.mono ?_
      rintro _ _ ⟨rfl, rfl⟩
      clear HA
      go_wp2_with fail
      refine HW.out.mono ?_
      rintro _ w1 ⟨rfl, hb1⟩
      obtain ⟨k1, hC⟩ := HK.out w1 hb1
      have HC := hid hC
      have a0 : w1.cell? ⟨S0, 0, none⟩ = some (.int .i64 c.ad) := cell_at k1 rfl
      have a1 : w1.cell? ⟨S0, 1, none⟩ = some (.int .i64 c.inst) := cell_at k1 rfl
      have a2 : w1.cell? ⟨S0, 2, none⟩ = some (.int .i64 c.first) := cell_at k1 rfl
      have a3 : w1.cell? ⟨S0, 3, none⟩ = some (.int .i64 c.win) := cell_at k1 rfl
      have a4 : w1.cell? ⟨S0, 4, none⟩ = some (.int .i64 c.pb) := cell_at k1 rfl
      have a5 : w1.cell? ⟨S0, 5, none⟩ = some (.int .i64 c.pc) := cell_at k1 rfl
      have a6 : w1.cell? ⟨S0, 6, none⟩ = some (.int .i64 c.pt) := cell_at k1 rfl
      have a7 : w1.cell? ⟨S0, 7, none⟩ = some (.int .i64 c.sys.stamp) := cell_at k1 rfl
      have a8 : w1.cell? ⟨S0, 8, none⟩ = some (.string ⟨c.sys.machine.toArray⟩) := cell_at k1 rfl
      have a9 : w1.cell? ⟨S0, 9, none⟩ = some (.int .i64 c.sys.user) := cell_at k1 rfl
      have a10 : w1.cell? ⟨S0, 10, none⟩ = some (.int .i64 c.sys.group) := cell_at k1 rfl
      have a11 : w1.cell? ⟨S0, 11, none⟩ = some (.slice oa c.sys.groups.length cap) := cell_at k1 rfl
      clear HK hC k1 hb1 HW c8 c11
      go_wp2_with fail
      refine HC.out.mono ?_
      rintro _ w2 ⟨s, rfl, hB2⟩
      clear HC
      go_wp2
      go_ret
      exact ⟨rfl, hB2.out⟩
end Go.Proofs.YteejeemljhmgcaaGreatDoor.Cl
