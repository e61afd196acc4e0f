/- The statement on the nearest narrow number: whatever the input, its walk answers true, and nothing that was there has turned. -/
import Derived.Test.YtbbikogpfpghbaaDoorNf
import Derived.Test.YtbbikogpfpghbaaDoorW16
import Derived.Test.YtbbikogpfpghbaaDoorW21
namespace Go.Proofs.YtbbikogpfpghbaaDoor
open Go.RowKit

theorem c64_c64 (x : Nat) : c64 (c64 x) = c64 x := by
  cases h : nan64 x with
  | true => rw [c64_nan x h]; decide
  | false => rw [c64_num x h, c64_num x h]
theorem narF_c64 (x : Nat) : narF (c64 x) = narF x := by
  cases h : nan64 x with
  | true => rw [c64_nan x h]; unfold narF; rw [h, if_pos (by decide), if_pos rfl]
  | false => rw [c64_num x h]
theorem c64_lt' (x : Nat) (h : x < 18446744073709551616) : c64 x < 18446744073709551616 := by
  unfold c64; split <;> omega

/-- The document's From32 of the nearest narrow one's bits. -/
theorem from_narF (f : Nat) (w : World) (h : f < 18446744073709551616) :
    Calls Tryd.prog 15 #[.int .u32 (narF f : Nat)] w fun e w' => ∃ g k, g < 4294967296 ∧ c32 g = c32 (narF f) ∧ e = .returned (.tuple #[.float .f32 g, .int .i64 0]) ∧ w' = w.drewN k := by
  have hl := narF_lt f h
  cases hn : nan64 f with
  | true =>
    have e : narF f = 2143289344 := by unfold narF; rw [hn]; rfl
    rw [e]
    refine (from32_nan w).mono fun e w' ⟨z, h1, h2, h3, k, h4⟩ => ⟨z, k, h2, ?_, h3, h4⟩
    rw [c32_nan z h1]; rfl
  | false => exact (from32_ok (narF f) w hl.1 (hl.2 hn)).mono fun e w' ⟨a, b⟩ => ⟨narF f, 0, hl.1, rfl, a, b⟩

set_option maxHeartbeats 400000 in
theorem dnarrow (f : Nat) (w : World) (h : f < 18446744073709551616) :
    Calls Tryd.prog 26 #[.float .f64 f] w fun e w' => ∃ g k, g < 4294967296 ∧ c32 g = c32 (narF f) ∧ e = .returned (.tuple #[.float .f32 g, .bool ((c64 (wid (narF f)) : Int) == (c64 f : Int))]) ∧ w' = w.drewN k := by
  have H1 : Hid (∀ w, Calls Tryd.prog 16 #[.float .f64 f] w fun e w' => e = .returned (.int .u64 (c64 f)) ∧ w' = w) := fun w => bits64_any f w h
  have H2 : Hid (∀ w, Calls Tryd.prog 46 #[.int .u64 (c64 f)] w fun e w' => e = .returned (.tuple #[.int .u32 (narF f : Nat), .bool ((c64 (wid (narF f)) : Int) == (c64 f : Int))]) ∧ w' = w) := fun w => by
    have := narrow_ref (c64 f) w (c64_lt' f h) (c64_c64 f)
    rw [narF_c64] at this
    exact this
  have H3 : Hid (∀ w, Calls Tryd.prog 15 #[.int .u32 (narF f : Nat)] w fun e w' => ∃ g k, g < 4294967296 ∧ c32 g = c32 (narF f) ∧ e = .returned (.tuple #[.float .f32 g, .int .i64 0]) ∧ w' = w.drewN k) := fun w => from_narF f w h
  clear h
  go_enter Tryd.func26, Tryd.ntmps26
  go_wp2_with first | (go_at_call 16; refine (H1.out _).mono ?_; rintro e w' ⟨rfl, rfl⟩) | (go_at_call 46; refine (H2.out _).mono ?_; rintro e w' ⟨rfl, rfl⟩)
  refine (H3.out _).mono ?_
  rintro e w1 ⟨g, k, hg, hc, rfl, rfl⟩
  have HG : Hid (g < 4294967296 ∧ c32 g = c32 (narF f)) := ⟨hg, hc⟩
  clear hg hc
  go_wp2
  go_ret2
  exact ⟨g, k, HG.out.1, HG.out.2, rfl, rfl⟩

set_option maxHeartbeats 400000 in
theorem pick_pos (c n : Int) (w : World) (h0 : 0 ≤ c) (h1 : c ≤ 9223372036854775807) (hn : 0 < n) (hn2 : n ≤ 9223372036854775807) :
    Calls Tryd.prog 24 #[.int .i64 c, .int .i64 n] w fun e w' => e = .returned (.int .i64 (c % n)) ∧ w' = w := by
  have hz : ¬ n = 0 := by omega
  have ht : c.tmod n = c % n := Int.tmod_eq_emod_of_nonneg h0
  have hm1 := Int.emod_nonneg c hz
  have hm2 := Int.emod_lt_of_pos c hn
  go_enter Tryd.func24, Tryd.ntmps24
  go_wp2
  go_ret
  exact ⟨rfl, rfl⟩

set_option maxHeartbeats 400000 in
theorem pick_neg (c n : Int) (w : World) (h0 : c < 0) (h1 : -9223372036854775808 ≤ c) (hn : 0 < n) (hn2 : n ≤ 9223372036854775807) :
    Calls Tryd.prog 24 #[.int .i64 c, .int .i64 n] w fun e w' => e = .returned (.int .i64 ((-(c + 1)) % n)) ∧ w' = w := by
  have hz : ¬ n = 0 := by omega
  have ht : (-(c + 1)).tmod n = (-(c + 1)) % n := Int.tmod_eq_emod_of_nonneg (by omega)
  have hm1 := Int.emod_nonneg (-(c + 1)) hz
  have hm2 := Int.emod_lt_of_pos (-(c + 1)) hn
  go_enter Tryd.func24, Tryd.ntmps24
  go_wp2
  go_ret
  exact ⟨rfl, rfl⟩

theorem pick_any (c n : Int) (w : World) (h0 : -9223372036854775808 ≤ c) (h1 : c ≤ 9223372036854775807) (hn : 0 < n) (hn2 : n ≤ 9223372036854775807) :
    Calls Tryd.prog 24 #[.int .i64 c, .int .i64 n] w fun e w' => ∃ z, 0 ≤ z ∧ z < n ∧ e = .returned (.int .i64 z) ∧ w' = w := by
  by_cases h : c < 0
  · exact (pick_neg c n w h h0 hn hn2).mono fun e w' ⟨a, b⟩ => ⟨_, Int.emod_nonneg _ (by omega), Int.emod_lt_of_pos _ hn, a, b⟩
  · exact (pick_pos c n w (by omega) h1 hn hn2).mono fun e w' ⟨a, b⟩ => ⟨_, Int.emod_nonneg _ (by omega), Int.emod_lt_of_pos _ hn, a, b⟩

set_option maxHeartbeats 2000000 in
theorem realNarrow_walk (a c near : Int) (w : World) (hR : Rd w) (hn0 : -9223372036854775808 ≤ near) (hn1 : near ≤ 9223372036854775807) :
    Calls Tryd.prog 4 #[.int .i64 a, .int .i64 c, .int .i64 near] w fun e w' => e = .returned (.bool true) ∧ Below w.heap.size w w' := by
  have HW : Hid (∀ (a : Int) w, Calls Tryd.prog 10 #[.int .i64 a] w fun e w' => ∃ x k, x < 18446744073709551616 ∧ e = .returned (.float .f64 x) ∧ w' = w.drewN k) := fun a w => by
    obtain ⟨na, ha, hna⟩ := wrapU64 a
    exact (wide_any a na w ha hna).mono fun e w' ⟨x, k, h1, _, _, h4, h5⟩ => ⟨x, k, h1, h4, h5⟩
  have HS : Hid (∀ w, Calls Tryd.prog 11 #[.int .i64 c] w fun e w' => ∃ x k, x < 4294967296 ∧ e = .returned (.float .f32 x) ∧ w' = w.drewN k) := fun w => by
    obtain ⟨nc, hc, hnc⟩ := wrapU32 c
    exact (slim_any c nc w hc hnc).mono fun e w' ⟨x, k, h1, _, _, h4, h5⟩ => ⟨x, k, h1, h4, h5⟩
  have HP : Hid (∀ (n : Int) w, 0 < n → n ≤ 9223372036854775807 → Calls Tryd.prog 24 #[.int .i64 near, .int .i64 n] w fun e w' => ∃ z, 0 ≤ z ∧ z < n ∧ e = .returned (.int .i64 z) ∧ w' = w) := fun n w h1 h2 => pick_any near n w hn0 hn1 h1 h2
  have HR : Hid (Rd w) := hR
  clear hR hn0 hn1
  go_enter Tryd.func4, Tryd.ntmps4
  go_wp2_with fail
  refine (awake_any _ HR.out).mono ?_
  rintro e w1 ⟨rfl, hB⟩
  have HB : Hid (Below w.heap.size w w1) := hB
  clear hB
  go_wp2_with fail
  refine (HS.out _).mono ?_
  rintro e w2 ⟨u, k1, hu, rfl, rfl⟩
  have HU : Hid (u < 4294967296) := hu
  have hcv := fun W => run_wid u W hu
  have HX : Hid (∀ W, widW u W < 18446744073709551616) := fun W => (widW_c u W hu).1
  clear hu
  go_wp2_with fail
  refine (bits64_any _ _ (HX.out _)).mono ?_
  rintro e w2 ⟨rfl, rfl⟩
  go_wp2_with fail
  refine (HP.out 5 _ (by omega) (by omega)).mono ?_
  rintro e w2 ⟨z, hz0, hz1, rfl, rfl⟩
  go_wp2_with fail
  refine (HW.out _ _).mono ?_
  rintro e w2 ⟨x0, k2, hx0, rfl, rfl⟩
  have HX0 : Hid (x0 < 18446744073709551616) := hx0
  clear hx0
  go_wp2_with fail
  refine (HW.out _ _).mono ?_
  rintro e w2 ⟨x2, k3, hx0, rfl, rfl⟩
  have HX2 : Hid (x2 < 18446744073709551616) := hx0
  clear hx0
  go_wp2_with fail
  refine (HP.out 9007199254740992 _ (by omega) (by omega)).mono ?_
  rintro e w2 ⟨z2, _, _, rfl, rfl⟩
  go_wp2_with fail
  refine (HW.out _ _).mono ?_
  rintro e w2 ⟨x3, k4, hx0, rfl, rfl⟩
  have HX3 : Hid (x3 < 18446744073709551616) := hx0
  clear hx0
  go_wp2_with fail
  go_loopw [11] (fun i wr => ∃ k : Nat, i = .int .i64 k ∧ k ≤ 4 ∧ Hid (∀ j : Nat, j < 4 → ∃ v, v < 18446744073709551616 ∧ wr.cell? ⟨w1.heap.size, j, none⟩ = some (.float .f64 v)) ∧ Hid (Below w.heap.size w wr)) (fun i _ => 10 - (intOf i).toNat)
  case atStart =>
    refine ⟨0, rfl, by omega, ?_, ?_⟩
    · intro j hj
      rcases (by omega : j = 0 ∨ j = 1 ∨ j = 2 ∨ j = 3) with rfl | rfl | rfl | rfl
      · exact ⟨_, HX0.out, by simp [World.cell?, World.alloc, World.drewN]⟩
      · exact ⟨widW u (w1.drewN (k1 + widK u + k2)), HX.out _, by simp [World.cell?, World.alloc, World.drewN]⟩
      · exact ⟨_, HX2.out, by simp [World.cell?, World.alloc, World.drewN]⟩
      · exact ⟨_, HX3.out, by simp [World.cell?, World.alloc, World.drewN]⟩
    · exact (below_drewN HB.out _).alloc HB.out.size _
  case round =>
    obtain ⟨k, rfl, hk, HCE, HBW⟩ := hrel
    by_cases hlt : k < 4
    · obtain ⟨v, hv, hcell⟩ := HCE.out k hlt
      have HV : Hid (v < 18446744073709551616) := hv
      clear hv
      go_wp2_with fail
      refine (narrow_real v _ HV.out).mono ?_
      rintro e w2 ⟨rfl, rfl⟩
      go_wp2_with fail
      refine (dnarrow v _ HV.out).mono ?_
      rintro e w2 ⟨g, k5, hg, hcg, rfl, rfl⟩
      have HG : Hid (g < 4294967296 ∧ c32 g = c32 (narF v)) := ⟨hg, hcg⟩
      clear hg hcg
      go_wp2_with fail
      refine (bits32_any (narF v) _ (narF_lt v HV.out).1).mono ?_
      rintro e w2 ⟨rfl, k6, rfl⟩
      go_wp2_with fail
      refine (bits32_any g _ HG.out.1).mono ?_
      rw [HG.out.2]
      rintro e w2 ⟨rfl, k7, rfl⟩
      go_wp2
      go_roundw
      case rel => exact ⟨k + 1, by go_num, by omega, fun j hj => by simpa [go_sem] using HCE.out j hj, below_drewN HBW.out _⟩
      case measure => simp [intOf]; omega
    · obtain rfl : k = 4 := by omega
      go_wp2
      go_ret
      exact ⟨rfl, HBW.out⟩

end Go.Proofs.YtbbikogpfpghbaaDoor
