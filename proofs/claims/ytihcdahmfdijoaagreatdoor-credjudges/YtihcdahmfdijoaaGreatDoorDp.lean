/- The document's own padding. -/
import Derived.Test.YtihcdahmfdijoaaGreatDoorDa
namespace Go.Proofs.YtihcdahmfdijoaaGreatDoor
open Go.RowKit
def zeroB (k : Nat) : Array Value := Array.replicate k (.int .u8 0)
theorem mk_small (k : Nat) (h : k ≤ 3) (w : World) : (Instr.makeSlice 92 (.int .i64 (k : Int)) (.int .i64 (k : Int))).run Tryz.prog w = .ok (.slice (some ⟨w.heap.size, 0, none⟩) k k) (w.alloc (.cells (zeroB k) 5)) := by
  rcases (by omega : k = 0 ∨ k = 1 ∨ k = 2 ∨ k = 3) with rfl | rfl | rfl | rfl <;> kernel_rfl

theorem back_small (k : Nat) (w : World) : (convert 92 9 (.slice (some ⟨w.heap.size, 0, none⟩) k k)).run Tryz.prog (w.alloc (.cells (zeroB k) 5)) = .ok (.string ⟨(List.replicate k (0 : UInt8)).toArray⟩) (w.alloc (.cells (zeroB k) 5)) := by
  have h := run_convert_bytes_back (P := Tryz.prog) (w.alloc (.cells (zeroB k) 5)) 92 9 5 ⟨w.heap.size, 0, none⟩ k (List.replicate k (0 : UInt8)) Tryz.underlying92 Tryz.underlying5 Tryz.underlying9 (fun t ht => by
    have ht2 : t < k := by rw [List.length_replicate] at ht; exact ht
    have ea : (Addr.add ⟨w.heap.size, 0, none⟩ t) = ⟨w.heap.size, 0 + t, none⟩ := Lib.add_plain _ _ _
    rw [ea, World.cell?_alloc_new, Nat.zero_add]
    simp [zeroB, ht2])
  rw [List.length_replicate] at h
  exact h

set_option maxHeartbeats 400000 in
theorem Padding_core (n m z : Int) (w w1 : World) (v : Value) (t : ByteArray) (_hz0 : 0 ≤ z) (_hz1 : z ≤ 3) (hm0 : 0 ≤ m) (hm1 : m ≤ 3) (hm : n.tmod 4 = m) (hz : (4 - m).tmod 4 = z)
    (hmk : (Instr.makeSlice 92 (.int .i64 z) (.int .i64 z)).run Tryz.prog w = .ok v w1) (hcv : (convert 92 9 v).run Tryz.prog w1 = .ok (.string t) w1) :
    Calls Tryz.prog 86 #[.int .i64 n] w fun e w' => e = .returned (.string t) ∧ w' = w1 := by
  go_enter Tryz.func86, Tryz.ntmps86
  go_wp2
  go_ret
  exact ⟨rfl, rfl⟩

theorem Padding_any (n : Nat) (w : World) : Calls Tryz.prog 86 #[.int .i64 n] w fun e w' => e = .returned (B (padL n)) ∧ Below w.heap.size w w' := by
  have hp : padN n ≤ 3 := by unfold padN; omega
  have h1 : (n : Int).tmod 4 = ((n % 4 : Nat) : Int) := by rw [Int.tmod_eq_emod_of_nonneg (by omega)]; omega
  have h2 : (4 - ((n % 4 : Nat) : Int)).tmod 4 = ((padN n : Nat) : Int) := by
    rw [Int.tmod_eq_emod_of_nonneg (by omega)]; unfold padN; omega
  refine (Padding_core (n : Int) _ _ w _ _ _ (by omega) (by omega) (by omega) (by omega) h1 h2 (mk_small _ hp w) (back_small _ w)).mono fun e w' ⟨a, b⟩ => ⟨a, ?_⟩
  rw [b]; exact (Below.refl _ _).alloc (Nat.le_refl _) _




end Go.Proofs.YtihcdahmfdijoaaGreatDoor
