/- The law's own functions: numbers and texts made fit. The law's own functions: a credential, a call made fit. -/
import Derived.Test.YtebjheaohichpaaGreatDoorPb
import Derived.Deep.RegionHeld3
import Derived.Lib.MinMax
namespace Go.Proofs.YtebjheaohichpaaGreatDoor
open Go.RowKit
def pickP (c n : Int) : Int := (if c < 0 then -(c + 1) else c) % n
theorem pick_range (c n : Int) (h : 0 < n) : 0 ≤ pickP c n ∧ pickP c n < n := ⟨Int.emod_nonneg _ (by omega), Int.emod_lt_of_pos _ h⟩
theorem pick_word (c : Int) : isW (pickP c 4294967296) := by
  have := pick_range c 4294967296 (by decide)
  exact ⟨this.1, by omega⟩
theorem pick_any (c n : Int) (w : World) (h0 : -9223372036854775808 ≤ c) (h1 : c ≤ 9223372036854775807) (hn0 : 1 ≤ n) (hn1 : n ≤ 9223372036854775807) :
    Calls Tryz.prog 14 #[.int .i64 c, .int .i64 n] w fun e w' => e = .returned (.int .i64 (pickP c n)) ∧ w' = w := by
  unfold pickP
  by_cases hc : c < 0
  · rw [if_pos hc]
    obtain ⟨d, hd⟩ : ∃ d, -(c + 1) = d := ⟨_, rfl⟩
    rw [hd]
    have hd0 : 0 ≤ d := by omega
    have hd1 : d ≤ 9223372036854775807 := by omega
    go_enter Tryz.func14, Tryz.ntmps14
    go_wp2
    go_ret
    exact ⟨by rw [← hd]; rfl, rfl⟩
  · rw [if_neg hc]
    go_enter Tryz.func14, Tryz.ntmps14
    go_wp2
    go_ret
    exact ⟨rfl, rfl⟩
def fourP (s : List UInt8) : List UInt8 := s.take (min s.length 1000 - min s.length 1000 % 4)
theorem four_plain (s : List UInt8) : plainB (fourP s) := by
  unfold plainB fourP
  rw [List.length_take]
  omega
theorem extract_take (s : List UInt8) (k : Nat) : (⟨s.toArray⟩ : ByteArray).extract 0 k = ⟨(s.take k).toArray⟩ := by
  rw [ByteArray.extract_mk]
  simp
theorem four_any (s : List UInt8) (w : World) (hl : s.length ≤ 281474976710656) :
    Calls Tryz.prog 34 #[.string ⟨s.toArray⟩, .int .i64 1000] w fun e w' => e = .returned (.string ⟨(fourP s).toArray⟩) ∧ w' = w := by
  obtain ⟨n, hn⟩ : ∃ n, s.length = n := ⟨_, rfl⟩
  obtain ⟨m, hm⟩ : ∃ m : Nat, min n 1000 = m := ⟨_, rfl⟩
  have hsz : (⟨s.toArray⟩ : ByteArray).size = n := (ba_size s).trans hn
  have hmi : min (n : Int) 1000 = (m : Int) := by omega
  have hm1 : m ≤ n := by omega
  have hm2 : m ≤ 1000 := by omega
  unfold fourP
  rw [← extract_take, hn, hm]
  generalize (⟨s.toArray⟩ : ByteArray) = S at *
  have h4 : ((m : Int) - (m : Int) % 4) = ((m - m % 4 : Nat) : Int) := by omega
  clear hm
  subst hsz
  go_enter Tryz.func34, Tryz.ntmps34
  go_wp2
  go_ret
  exact ⟨rfl, rfl⟩
def autP (a : AuthP) : AuthP := ⟨pickP a.flavor 4294967296, a.body.take (min a.body.length 400)⟩
theorem aut_may (a : AuthP) : (autP a).may := ⟨pick_word _, by unfold autP; rw [List.length_take]; omega⟩
end Go.Proofs.YtebjheaohichpaaGreatDoor
namespace Go.Proofs.YtebjheaohichpaaGreatDoor
open Go.RowKit
def In64 (n : Int) : Prop := -9223372036854775808 ≤ n ∧ n ≤ 9223372036854775807
set_option maxRecDepth 4000 in
set_option maxHeartbeats 1000000 in
theorem auth_any (a : AuthP) (w : World) (hf : In64 a.flavor) (hl : a.body.length ≤ 281474976710656) :
    Calls Tryz.prog 33 #[.agg #[.int .i64 a.flavor, .string ⟨a.body.toArray⟩]] w fun e w' => e = .returned (.agg #[.int .i64 (autP a).flavor, .string ⟨(autP a).body.toArray⟩]) ∧ Below w.heap.size w w' := by
  obtain ⟨f, s⟩ := a
  obtain ⟨wa, hwa⟩ : ∃ x, w.alloc (.cells #[.int .i64 f, .string ⟨s.toArray⟩] 23) = x := ⟨_, rfl⟩
  obtain ⟨hk, hB, hz⟩ := boxed w wa _ _ hwa
  obtain ⟨wb, hwb⟩ : ∃ x, wa.alloc (.cells #[.int .i64 0, .string ⟨#[]⟩] 23) = x := ⟨_, rfl⟩
  obtain ⟨hk2, hB2, hz2⟩ := boxed wa wb _ _ hwb
  obtain ⟨n, hn⟩ : ∃ n, s.length = n := ⟨_, rfl⟩
  obtain ⟨m, hm⟩ : ∃ m : Nat, min n 400 = m := ⟨_, rfl⟩
  have hsz : (⟨s.toArray⟩ : ByteArray).size = n := (ba_size s).trans hn
  have hmi : min (n : Int) 400 = (m : Int) := by omega
  have hm1 : m ≤ n := by omega
  have hl1 : n ≤ 281474976710656 := hn ▸ hl
  have HP : Hid (∀ w, Calls Tryz.prog 14 #[.int .i64 f, .int .i64 4294967296] w fun e w' => e = .returned (.int .i64 (pickP f 4294967296)) ∧ w' = w) := fun w => pick_any f _ w hf.1 hf.2 (by decide) (by decide)
  unfold autP
  simp only
  rw [← extract_take, hn, hm]
  generalize (⟨s.toArray⟩ : ByteArray) = S at *
  generalize pickP f 4294967296 = F at *
  subst hsz
  have a0 : wb.cell? ⟨w.heap.size, 0, none⟩ = some (.int .i64 f) := (hk.below hB2 (by omega)).cell 0 rfl
  have a1 : wb.cell? ⟨w.heap.size, 1, none⟩ = some (.string S) := (hk.below hB2 (by omega)).cell 1 rfl
  rw [hz] at hk2
  have b0 := hk2.cell 0 rfl
  have b1 := hk2.cell 1 rfl
  have g0 := hk2.frozen 0
  have g1 := hk2.frozen 1
  have HK : Hid (Bk wb.drew (w.heap.size + 1) [.int .i64 0, .string ⟨#[]⟩] 23) := hk2
  have HB : Hid (Below w.heap.size w wb.drew) := (hB.trans (hB2.mono (by omega))).drew
  clear hk hk2 hB hB2 hn hm hf hl hz2
  have hza := hz
  clear hz
  go_enter Tryz.func33, Tryz.ntmps33
  go_wp2_with fail
  go_still_tail 11, (by kernel_rfl)
  still_call (HP.out _)
  repeat still_step
  refine wpStill_nil ?_
  obtain ⟨w5, hw5⟩ : ∃ x, x = wb.drew := ⟨_, rfl⟩
  have hk5 : Bk w5 (w.heap.size + 1) [.int .i64 0, .string ⟨#[]⟩] 23 := by rw [hw5]; exact HK.out
  have HB5 : Hid (Below w.heap.size w w5) := by rw [hw5]; exact HB.out
  change wpList _ _ _ _ _ wb.drew
  rw [← hw5]
  clear hw5 b0 b1 g0 g1 a0 a1
  have b0 := hk5.cell 0 rfl
  have b1 := hk5.cell 1 rfl
  have g0 := hk5.frozen 0
  have g1 := hk5.frozen 1
  have HZ := (hk5.set 0 (.int .i64 F)).set 1 (.string (S.extract 0 m))
  have q0 := HZ.cell 0 rfl
  have q1 := HZ.cell 1 rfl
  have HE : Hid (Below w.heap.size w ((w5.setCell ⟨w.heap.size + 1, 0, none⟩ (.int .i64 F)).setCell ⟨w.heap.size + 1, 1, none⟩ (.string (S.extract 0 m)))) := (HB5.out.setCell (Nat.le_succ _) _).setCell (Nat.le_succ _) _
  clear hk5 HZ
  go_wp2
  refine bodyPost_ret (v := .agg #[.int .i64 F, .string (S.extract 0 m)]) (by simp [results, Tryz.results33, go_sem, q0, q1]) rfl ⟨rfl, HE.out⟩
end Go.Proofs.YtebjheaohichpaaGreatDoor
