/- Some of the chapter's examples, called: the statements' first calls. -/
import Derived.Test.YtbbikogpfpghbaaDoorW13
import Derived.Test.YtbbikogpfpghbaaDoorNr
namespace Go.Proofs.YtbbikogpfpghbaaDoor
open Go.RowKit
attribute [local go_sem] x35 x36 x40 x41

set_option maxHeartbeats 400000 in
theorem parsePower_p1 (w : World) :
    Calls Tryd.prog 123 #[.string ⟨#[43, 49]⟩] w fun e w' => e = .returned (.tuple #[.int .i64 1, .bool true]) ∧ w' = w := by
  go_enter Tryd.func123, Tryd.ntmps123
  go_wp2
  go_loop [4, 5] (fun p i => ∃ k : Int, p = .int .i64 (k - 1) ∧ i = .int .i64 k ∧ (k = 1 ∨ k = 2)) (fun _ i => 3 - (intOf i).toNat)
  case atStart => exact ⟨1, rfl, rfl, .inl rfl⟩
  case round =>
    obtain ⟨k, rfl, rfl, hk⟩ := hrel
    rcases hk with rfl | rfl
    · go_wp2
      refine ⟨⟨_, _, _, _, ⟨2, ?_, rfl, .inr rfl⟩, rfl, rfl, rfl, rfl⟩, ?_⟩
      · exact in_eq (by decide)
      · simp [intOf]
    · go_wp2
      go_ret2
      exact ⟨rfl, rfl⟩

set_option maxHeartbeats 400000 in
theorem parsePower_0 (w : World) :
    Calls Tryd.prog 123 #[.string ⟨#[48]⟩] w fun e w' => e = .returned (.tuple #[.int .i64 0, .bool false]) ∧ w' = w := by
  go_enter Tryd.func123, Tryd.ntmps123
  go_wp2
  go_ret2
  exact ⟨rfl, rfl⟩

set_option maxHeartbeats 400000 in
theorem parseFraction_e (w : World) :
    Calls Tryd.prog 122 #[.string ⟨#[]⟩] w fun e w' => e = .returned (.tuple #[.int .u64 0, .bool true]) ∧ w' = w := by
  go_enter Tryd.func122, Tryd.ntmps122
  go_wp2
  go_ret2
  exact ⟨rfl, rfl⟩

theorem or_1024 : bits .or .u64 4611686018427387904 0 = 4611686018427387904 := by decide
set_option maxHeartbeats 400000 in
theorem pack_1 (w : World) :
    Calls Tryd.prog 124 #[.int .u64 0, .int .i64 1] w fun e w' => e = .returned (.tuple #[.int .u64 4611686018427387904, .bool true]) ∧ w' = w := by
  have h := or_1024
  go_enter Tryd.func124, Tryd.ntmps124
  go_wp2
  go_ret2
  exact ⟨rfl, rfl⟩

theorem cp1 : Lib.trimPrefix [48, 120, 49, 112, 43, 49] [48, 120, 49] = [112, 43, 49] ∧ Lib.hasPrefix [48, 120, 49, 112, 43, 49] [48, 120, 49] = true := by decide
theorem cp2 : Lib.trimPrefix [48, 120, 49, 112, 48] [48, 120, 49] = [112, 48] ∧ Lib.hasPrefix [48, 120, 49, 112, 48] [48, 120, 49] = true := by decide
theorem cp3 : Lib.trimPrefix [45, 48, 120, 49, 112, 43, 49] [45] = [48, 120, 49, 112, 43, 49] ∧ Lib.hasPrefix [45, 48, 120, 49, 112, 43, 49] [45] = true := by decide
theorem cp4 : Lib.trimPrefix [48, 120, 49, 112, 48] [45] = [48, 120, 49, 112, 48] ∧ Lib.hasPrefix [48, 120, 49, 112, 48] [45] = false := by decide
theorem ct1 : Lib.cut [112, 43, 49] [112] = ([], [43, 49], true) := by decide
theorem ct2 : Lib.cut [112, 48] [112] = ([], [48], true) := by decide

theorem cutp1 (w : World) : Calls Tryd.prog 94 #[.string ⟨#[48, 120, 49, 112, 43, 49]⟩, .string ⟨#[48, 120, 49]⟩] w fun e w' => e = .returned (.tuple #[.string ⟨#[112, 43, 49]⟩, .bool true]) ∧ w' = w := by
  have h := Tryd.strings_CutPrefix ⟨#[48, 120, 49, 112, 43, 49]⟩ ⟨#[48, 120, 49]⟩ w
  simp only [cp1.1, cp1.2] at h
  exact h
theorem cutp2 (w : World) : Calls Tryd.prog 94 #[.string ⟨#[48, 120, 49, 112, 48]⟩, .string ⟨#[48, 120, 49]⟩] w fun e w' => e = .returned (.tuple #[.string ⟨#[112, 48]⟩, .bool true]) ∧ w' = w := by
  have h := Tryd.strings_CutPrefix ⟨#[48, 120, 49, 112, 48]⟩ ⟨#[48, 120, 49]⟩ w
  simp only [cp2.1, cp2.2] at h
  exact h
theorem cutp3 (w : World) : Calls Tryd.prog 94 #[.string ⟨#[45, 48, 120, 49, 112, 43, 49]⟩, .string ⟨#[45]⟩] w fun e w' => e = .returned (.tuple #[.string ⟨#[48, 120, 49, 112, 43, 49]⟩, .bool true]) ∧ w' = w := by
  have h := Tryd.strings_CutPrefix ⟨#[45, 48, 120, 49, 112, 43, 49]⟩ ⟨#[45]⟩ w
  simp only [cp3.1, cp3.2] at h
  exact h
theorem cutp4 (w : World) : Calls Tryd.prog 94 #[.string ⟨#[48, 120, 49, 112, 48]⟩, .string ⟨#[45]⟩] w fun e w' => e = .returned (.tuple #[.string ⟨#[48, 120, 49, 112, 48]⟩, .bool false]) ∧ w' = w := by
  have h := Tryd.strings_CutPrefix ⟨#[48, 120, 49, 112, 48]⟩ ⟨#[45]⟩ w
  simp only [cp4.1, cp4.2] at h
  exact h
theorem cut1p (w : World) (hR : Rd w) : Calls Tryd.prog 121 #[.string ⟨#[112, 43, 49]⟩, .string ⟨#[112]⟩] w fun e w' => e = .returned (.tuple #[.string ⟨#[]⟩, .string ⟨#[43, 49]⟩, .bool true]) ∧ ∃ n, w' = w.drewN n := by
  obtain ⟨m, hm⟩ := hR.most
  have h := Tryd.strings_Cut ⟨#[112, 43, 49]⟩ ⟨#[112]⟩ m w (by decide) hm
  simp only [ct1] at h
  exact h
theorem cut2p (w : World) (hR : Rd w) : Calls Tryd.prog 121 #[.string ⟨#[112, 48]⟩, .string ⟨#[112]⟩] w fun e w' => e = .returned (.tuple #[.string ⟨#[]⟩, .string ⟨#[48]⟩, .bool true]) ∧ ∃ n, w' = w.drewN n := by
  obtain ⟨m, hm⟩ := hR.most
  have h := Tryd.strings_Cut ⟨#[112, 48]⟩ ⟨#[112]⟩ m w (by decide) hm
  simp only [ct2] at h
  exact h

set_option maxHeartbeats 400000 in
theorem parseSize_a (w : World) (hR : Rd w) :
    Calls Tryd.prog 95 #[.string ⟨#[48, 120, 49, 112, 43, 49]⟩] w fun e w' => e = .returned (.tuple #[.int .u64 4611686018427387904, .bool true]) ∧ ∃ n, w' = w.drewN n := by
  have HR : Hid (Rd w) := hR
  clear hR
  go_enter Tryd.func95, Tryd.ntmps95
  go_wp2_with fail
  refine (cutp1 _).mono ?_
  rintro e w' ⟨rfl, rfl⟩
  go_wp2_with fail
  refine (cut1p _ HR.out).mono ?_
  rintro e w1 ⟨rfl, n, rfl⟩
  go_wp2_with (first | (go_at_call 122; refine (parseFraction_e _).mono ?_; rintro e w' ⟨rfl, rfl⟩) | (go_at_call 123; refine (parsePower_p1 _).mono ?_; rintro e w' ⟨rfl, rfl⟩) | (go_at_call 124; refine (pack_1 _).mono ?_; rintro e w' ⟨rfl, rfl⟩))
  go_ret2
  exact ⟨rfl, n, rfl⟩

set_option maxHeartbeats 400000 in
theorem parseSize_b (w : World) (hR : Rd w) :
    Calls Tryd.prog 95 #[.string ⟨#[48, 120, 49, 112, 48]⟩] w fun e w' => e = .returned (.tuple #[.int .u64 0, .bool false]) ∧ ∃ n, w' = w.drewN n := by
  have HR : Hid (Rd w) := hR
  clear hR
  go_enter Tryd.func95, Tryd.ntmps95
  go_wp2_with fail
  refine (cutp2 _).mono ?_
  rintro e w' ⟨rfl, rfl⟩
  go_wp2_with fail
  refine (cut2p _ HR.out).mono ?_
  rintro e w1 ⟨rfl, n, rfl⟩
  go_wp2_with (first | (go_at_call 122; refine (parseFraction_e _).mono ?_; rintro e w' ⟨rfl, rfl⟩) | (go_at_call 123; refine (parsePower_0 _).mono ?_; rintro e w' ⟨rfl, rfl⟩))
  go_ret2
  exact ⟨rfl, n, rfl⟩

theorem or_neg2 : bits .or .u64 4611686018427387904 9223372036854775808 = 13835058055282163712 := by decide
set_option maxHeartbeats 400000 in
theorem parseSigned_a (w : World) (hR : Rd w) :
    Calls Tryd.prog 53 #[.string ⟨#[45, 48, 120, 49, 112, 43, 49]⟩] w fun e w' => e = .returned (.tuple #[.int .u64 13835058055282163712, .bool true]) ∧ ∃ n, w' = w.drewN n := by
  have HR : Hid (Rd w) := hR
  have h := or_neg2
  clear hR
  go_enter Tryd.func53, Tryd.ntmps53
  go_wp2_with fail
  refine (cutp3 _).mono ?_
  rintro e w' ⟨rfl, rfl⟩
  go_wp2_with fail
  refine (parseSize_a _ HR.out).mono ?_
  rintro e w1 ⟨rfl, n, rfl⟩
  go_wp2
  go_ret2
  exact ⟨rfl, n, rfl⟩
set_option maxHeartbeats 400000 in
theorem parseSigned_b (w : World) (hR : Rd w) :
    Calls Tryd.prog 53 #[.string ⟨#[48, 120, 49, 112, 48]⟩] w fun e w' => e = .returned (.tuple #[.int .u64 0, .bool false]) ∧ ∃ n, w' = w.drewN n := by
  have HR : Hid (Rd w) := hR
  clear hR
  go_enter Tryd.func53, Tryd.ntmps53
  go_wp2_with fail
  refine (cutp4 _).mono ?_
  rintro e w' ⟨rfl, rfl⟩
  go_wp2_with fail
  refine (parseSize_b _ HR.out).mono ?_
  rintro e w1 ⟨rfl, n, rfl⟩
  go_wp2
  go_ret2
  exact ⟨rfl, n, rfl⟩
set_option maxHeartbeats 400000 in
theorem parse64_a (w : World) (hR : Rd w) :
    Calls Tryd.prog 34 #[.string ⟨#[45, 48, 120, 49, 112, 43, 49]⟩] w fun e w' => e = .returned (.tuple #[.float .f64 13835058055282163712, .int .i64 0]) ∧ ∃ n, w' = w.drewN n := by
  have HR : Hid (Rd w) := hR
  clear hR
  go_enter Tryd.func34, Tryd.ntmps34
  go_wp2_with fail
  refine (parseSigned_a _ HR.out).mono ?_
  rintro e w1 ⟨rfl, n, rfl⟩
  go_wp2
  go_ret2
  exact ⟨rfl, n, rfl⟩
set_option maxHeartbeats 400000 in
theorem parse64_b (w : World) (hR : Rd w) :
    Calls Tryd.prog 34 #[.string ⟨#[48, 120, 49, 112, 48]⟩] w fun e w' => e = .returned (.tuple #[.float .f64 0, .int .i64 11]) ∧ ∃ n, w' = w.drewN n := by
  have HR : Hid (Rd w) := hR
  clear hR
  go_enter Tryd.func34, Tryd.ntmps34
  go_wp2_with fail
  refine (parseSigned_b _ HR.out).mono ?_
  rintro e w1 ⟨rfl, n, rfl⟩
  go_wp2
  go_ret2
  exact ⟨rfl, n, rfl⟩
set_option maxHeartbeats 400000 in
theorem parse32_b (w : World) (hR : Rd w) :
    Calls Tryd.prog 35 #[.string ⟨#[48, 120, 49, 112, 48]⟩] w fun e w' => e = .returned (.tuple #[.float .f32 0, .int .i64 11]) ∧ ∃ n, w' = w.drewN n := by
  have HR : Hid (Rd w) := hR
  clear hR
  go_enter Tryd.func35, Tryd.ntmps35
  go_wp2_with fail
  refine (parse64_b _ HR.out).mono ?_
  rintro e w1 ⟨rfl, n, rfl⟩
  go_wp2
  go_ret2
  exact ⟨rfl, n, rfl⟩

theorem nar01 : floatToFloatBits .f64 4591870180066957722 .f32 = some 1036831949 := by decide
theorem narF01 : narF 4591870180066957722 = 1036831949 := by
  unfold narF
  rw [show nan64 4591870180066957722 = false from by decide, nar01]
  rfl
theorem nar01_other : ((c64 (wid 1036831949) : Int) == (c64 4591870180066957722 : Int)) = false := by decide +kernel
theorem narrow01 (w : World) :
    Calls Tryd.prog 25 #[.float .f64 4591870180066957722] w fun e w' => e = .returned (.tuple #[.float .f32 1036831949, .bool false]) ∧ w' = w := by
  have h := narrow_real 4591870180066957722 w (by omega)
  rw [narF01, nar01_other] at h
  exact h

end Go.Proofs.YtbbikogpfpghbaaDoor
