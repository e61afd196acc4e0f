/- How much a call weighs. -/
import Derived.Test.YtihcdahmfdijoaaDoorCu
import Derived.Deep.QuietTactic
import Derived.BigQuiet
namespace Go.Proofs.YtihcdahmfdijoaaDoor
open Go.RowKit
set_option maxRecDepth 4000 in
set_option maxHeartbeats 400000 in
theorem callWeighs_any (xid rpc prog vers proc cf vf : Int) (cb vb ar : ByteArray) (w : World) :
    Calls Tryd.prog 14 #[.agg #[.int .i64 xid, .int .i64 rpc, .int .i64 prog, .int .i64 vers, .int .i64 proc, .int .i64 cf, .string cb, .int .i64 vf, .string vb, .string ar]] w fun e w' => e = .returned (.int .i64 (addF (addF cb.size vb.size) ar.size)) ∧ Below w.heap.size w w' := by
  have HA : Hid (∀ w, Calls Tryd.prog 5 #[.int .i64 (cb.size : Int), .int .i64 (vb.size : Int)] w fun e w' => e = .returned (.int .i64 (addF cb.size vb.size)) ∧ w' = w) := fun w => addsUp_any _ _ w (by omega) (by omega)
  have HB : Hid (∀ w, Calls Tryd.prog 5 #[.int .i64 (addF cb.size vb.size), .int .i64 (ar.size : Int)] w fun e w' => e = .returned (.int .i64 (addF (addF cb.size vb.size) ar.size)) ∧ w' = w) := fun w => addsUp_any _ _ w (addF_pos (by omega) (by omega)) (by omega)
  generalize addF (addF cb.size vb.size) ar.size = Z at HB ⊢
  generalize addF cb.size vb.size = Y at HA HB
  obtain ⟨w2, hw2⟩ : ∃ x, w.alloc (.cells #[.int .i64 xid, .int .i64 rpc, .int .i64 prog, .int .i64 vers, .int .i64 proc, .int .i64 cf, .string cb, .int .i64 vf, .string vb, .string ar] 40) = x := ⟨_, rfl⟩
  have hk : Bk w2 w.heap.size [.int .i64 xid, .int .i64 rpc, .int .i64 prog, .int .i64 vers, .int .i64 proc, .int .i64 cf, .string cb, .int .i64 vf, .string vb, .string ar] 40 := by rw [← hw2]; exact Bk.new _ _ _
  have HBe : Hid (Below w.heap.size w w2) := by rw [← hw2]; exact below_new _ _
  have c6 := hk.cell 6 rfl
  have c8 := hk.cell 8 rfl
  have c9 := hk.cell 9 rfl
  clear hk
  go_enter Tryd.func14, Tryd.ntmps14
  go_wp2_with fail
  obtain ⟨A, hA⟩ : ∃ A, (cb.size : Int) = A := ⟨_, rfl⟩
  obtain ⟨B, hB⟩ : ∃ A, (vb.size : Int) = A := ⟨_, rfl⟩
  obtain ⟨C, hC⟩ : ∃ A, (ar.size : Int) = A := ⟨_, rfl⟩
  rw [hA, hB] at HA
  rw [hC] at HB
  go_quiet (first | (go_at_call 5; with_reducible exact Calls.quiet_of_same (HA.out _)) | (go_at_call 5; with_reducible exact Calls.quiet_of_same (HB.out _)))
  go_wp2
  go_ret
  exact ⟨rfl, below_drew HBe.out _⟩
end Go.Proofs.YtihcdahmfdijoaaDoor
