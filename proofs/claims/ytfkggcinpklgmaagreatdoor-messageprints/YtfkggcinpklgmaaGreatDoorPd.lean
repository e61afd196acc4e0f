/- The law's own functions: a credential, a call made fit. -/
import Derived.Test.YtfkggcinpklgmaaGreatDoorPc
namespace Go.Proofs.YtfkggcinpklgmaaGreatDoor
open Go.RowKit
def In64 (n : Int) : Prop := -9223372036854775808 ≤ n ∧ n ≤ 9223372036854775807
set_option maxRecDepth 4000 in
set_option maxHeartbeats 1000000 in
theorem auth_any (a : AuthP) (w : World) (hf : In64 a.flavor) (hl : a.body.length ≤ 281474976710656) :
    Calls Tryz.prog 33 #[.agg #[.int .i64 a.flavor, .string ⟨a.body.toArray⟩]] w fun e w' => e = .returned (.agg #[.int .i64 (autP a).flavor, .string ⟨(autP a).body.toArray⟩]) ∧ Below w.heap.size w w' := by
  obtain ⟨f, s⟩ := a
  obtain ⟨wa, hwa⟩ : ∃ x, w.alloc (.cells #[.int .i64 f, .string ⟨s.toArray⟩] 23) = x := ⟨_, rfl⟩
  obtain ⟨hk, hB, hz⟩ := boxed w wa _ _ hwa
  obtain ⟨wb, hwb⟩ : ∃ x, wa.alloc (.cells #[.int .i64 0, .string ⟨#[]⟩] 23) = x := ⟨_, rfl⟩
  obtain ⟨hk2, hB2, hz2⟩ := boxed wa wb _ _ hwb
  obtain ⟨n, hn⟩ : ∃ n, s.length = n := ⟨_, rfl⟩
  obtain ⟨m, hm⟩ : ∃ m : Nat, min n 400 = m := ⟨_, rfl⟩
  have hsz : (⟨s.toArray⟩ : ByteArray).size = n := (ba_size s).trans hn
  have hmi : min (n : Int) 400 = (m : Int) := by omega
  have hm1 : m ≤ n := by omega
  have hl1 : n ≤ 281474976710656 := hn ▸ hl
  have HP : Hid (∀ w, Calls Tryz.prog 14 #[.int .i64 f, .int .i64 4294967296] w fun e w' => e = .returned (.int .i64 (pickP f 4294967296)) ∧ w' = w) := fun w => pick_any f _ w hf.1 hf.2 (by decide) (by decide)
  unfold autP
  simp only
  rw [← extract_take, hn, hm]
  generalize (⟨s.toArray⟩ : ByteArray) = S at *
  generalize pickP f 4294967296 = F at *
  subst hsz
  have a0 : wb.cell? ⟨w.heap.size, 0, none⟩ = some (.int .i64 f) := (hk.below hB2 (by omega)).cell 0 rfl
  have a1 : wb.cell? ⟨w.heap.size, 1, none⟩ = some (.string S) := (hk.below hB2 (by omega)).cell 1 rfl
  rw [hz] at hk2
  have b0 := hk2.cell 0 rfl
  have b1 := hk2.cell 1 rfl
  have g0 := hk2.frozen 0
  have g1 := hk2.frozen 1
  have HK : Hid (Bk wb.drew (w.heap.size + 1) [.int .i64 0, .string ⟨#[]⟩] 23) := hk2
  have HB : Hid (Below w.heap.size w wb.drew) := (hB.trans (hB2.mono (by omega))).drew
  clear hk hk2 hB hB2 hn hm hf hl hz2
  have hza := hz
  clear hz
  go_enter Tryz.func33, Tryz.ntmps33
  go_wp2_with fail
  go_still_tail 11, (by kernel_rfl)
  still_call (HP.out _)
  repeat still_step
  refine wpStill_nil ?_
  obtain ⟨w5, hw5⟩ : ∃ x, x = wb.drew := ⟨_, rfl⟩
  have hk5 : Bk w5 (w.heap.size + 1) [.int .i64 0, .string ⟨#[]⟩] 23 := by rw [hw5]; exact HK.out
  have HB5 : Hid (Below w.heap.size w w5) := by rw [hw5]; exact HB.out
  change wpList _ _ _ _ _ wb.drew
  rw [← hw5]
  clear hw5 b0 b1 g0 g1 a0 a1
  have b0 := hk5.cell 0 rfl
  have b1 := hk5.cell 1 rfl
  have g0 := hk5.frozen 0
  have g1 := hk5.frozen 1
  have HZ := (hk5.set 0 (.int .i64 F)).set 1 (.string (S.extract 0 m))
  have q0 := HZ.cell 0 rfl
  have q1 := HZ.cell 1 rfl
  have HE : Hid (Below w.heap.size w ((w5.setCell ⟨w.heap.size + 1, 0, none⟩ (.int .i64 F)).setCell ⟨w.heap.size + 1, 1, none⟩ (.string (S.extract 0 m)))) := (HB5.out.setCell (Nat.le_succ _) _).setCell (Nat.le_succ _) _
  clear hk5 HZ
  go_wp2
  refine bodyPost_ret (v := .agg #[.int .i64 F, .string (S.extract 0 m)]) (by simp [results, Tryz.results33, go_sem, q0, q1]) rfl ⟨rfl, HE.out⟩
end Go.Proofs.YtfkggcinpklgmaaGreatDoor
