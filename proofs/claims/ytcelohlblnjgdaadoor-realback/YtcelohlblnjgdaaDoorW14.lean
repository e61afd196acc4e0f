/- Some of the chapter's examples, called: the statements' first calls. -/
import Derived.Test.YtcelohlblnjgdaaDoorW13
namespace Go.Proofs.YtcelohlblnjgdaaDoor
open Go.RowKit
attribute [local go_sem] x35 x36 x40 x41

set_option maxHeartbeats 400000 in
theorem parsePower_p1 (w : World) :
    Calls Tryd.prog 64 #[.string ⟨#[43, 49]⟩] w fun e w' => e = .returned (.tuple #[.int .i64 1, .bool true]) ∧ w' = w := by
  go_enter Tryd.func64, Tryd.ntmps64
  go_wp2
  go_loop [4, 5] (fun p i => ∃ k : Int, p = .int .i64 (k - 1) ∧ i = .int .i64 k ∧ (k = 1 ∨ k = 2)) (fun _ i => 3 - (intOf i).toNat)
  case atStart => exact ⟨1, rfl, rfl, .inl rfl⟩
  case round =>
    obtain ⟨k, rfl, rfl, hk⟩ := hrel
    rcases hk with rfl | rfl
    · go_wp2
      refine ⟨⟨_, _, _, _, ⟨2, ?_, rfl, .inr rfl⟩, rfl, rfl, rfl, rfl⟩, ?_⟩
      · exact in_eq (by decide)
      · simp [intOf]
    · go_wp2
      go_ret2
      exact ⟨rfl, rfl⟩

set_option maxHeartbeats 400000 in
theorem parsePower_0 (w : World) :
    Calls Tryd.prog 64 #[.string ⟨#[48]⟩] w fun e w' => e = .returned (.tuple #[.int .i64 0, .bool false]) ∧ w' = w := by
  go_enter Tryd.func64, Tryd.ntmps64
  go_wp2
  go_ret2
  exact ⟨rfl, rfl⟩

set_option maxHeartbeats 400000 in
theorem parseFraction_e (w : World) :
    Calls Tryd.prog 63 #[.string ⟨#[]⟩] w fun e w' => e = .returned (.tuple #[.int .u64 0, .bool true]) ∧ w' = w := by
  go_enter Tryd.func63, Tryd.ntmps63
  go_wp2
  go_ret2
  exact ⟨rfl, rfl⟩

theorem or_1024 : bits .or .u64 4611686018427387904 0 = 4611686018427387904 := by decide
set_option maxHeartbeats 400000 in
theorem pack_1 (w : World) :
    Calls Tryd.prog 65 #[.int .u64 0, .int .i64 1] w fun e w' => e = .returned (.tuple #[.int .u64 4611686018427387904, .bool true]) ∧ w' = w := by
  have h := or_1024
  go_enter Tryd.func65, Tryd.ntmps65
  go_wp2
  go_ret2
  exact ⟨rfl, rfl⟩

theorem cp1 : Lib.trimPrefix [48, 120, 49, 112, 43, 49] [48, 120, 49] = [112, 43, 49] ∧ Lib.hasPrefix [48, 120, 49, 112, 43, 49] [48, 120, 49] = true := by decide
theorem cp2 : Lib.trimPrefix [48, 120, 49, 112, 48] [48, 120, 49] = [112, 48] ∧ Lib.hasPrefix [48, 120, 49, 112, 48] [48, 120, 49] = true := by decide
theorem cp3 : Lib.trimPrefix [45, 48, 120, 49, 112, 43, 49] [45] = [48, 120, 49, 112, 43, 49] ∧ Lib.hasPrefix [45, 48, 120, 49, 112, 43, 49] [45] = true := by decide
theorem cp4 : Lib.trimPrefix [48, 120, 49, 112, 48] [45] = [48, 120, 49, 112, 48] ∧ Lib.hasPrefix [48, 120, 49, 112, 48] [45] = false := by decide
theorem ct1 : Lib.cut [112, 43, 49] [112] = ([], [43, 49], true) := by decide
theorem ct2 : Lib.cut [112, 48] [112] = ([], [48], true) := by decide

theorem cutp1 (w : World) : Calls Tryd.prog 53 #[.string ⟨#[48, 120, 49, 112, 43, 49]⟩, .string ⟨#[48, 120, 49]⟩] w fun e w' => e = .returned (.tuple #[.string ⟨#[112, 43, 49]⟩, .bool true]) ∧ w' = w := by
  have h := Tryd.strings_CutPrefix ⟨#[48, 120, 49, 112, 43, 49]⟩ ⟨#[48, 120, 49]⟩ w
  simp only [cp1.1, cp1.2] at h
  exact h
theorem cutp2 (w : World) : Calls Tryd.prog 53 #[.string ⟨#[48, 120, 49, 112, 48]⟩, .string ⟨#[48, 120, 49]⟩] w fun e w' => e = .returned (.tuple #[.string ⟨#[112, 48]⟩, .bool true]) ∧ w' = w := by
  have h := Tryd.strings_CutPrefix ⟨#[48, 120, 49, 112, 48]⟩ ⟨#[48, 120, 49]⟩ w
  simp only [cp2.1, cp2.2] at h
  exact h
theorem cutp3 (w : World) : Calls Tryd.prog 53 #[.string ⟨#[45, 48, 120, 49, 112, 43, 49]⟩, .string ⟨#[45]⟩] w fun e w' => e = .returned (.tuple #[.string ⟨#[48, 120, 49, 112, 43, 49]⟩, .bool true]) ∧ w' = w := by
  have h := Tryd.strings_CutPrefix ⟨#[45, 48, 120, 49, 112, 43, 49]⟩ ⟨#[45]⟩ w
  simp only [cp3.1, cp3.2] at h
  exact h
theorem cutp4 (w : World) : Calls Tryd.prog 53 #[.string ⟨#[48, 120, 49, 112, 48]⟩, .string ⟨#[45]⟩] w fun e w' => e = .returned (.tuple #[.string ⟨#[48, 120, 49, 112, 48]⟩, .bool false]) ∧ w' = w := by
  have h := Tryd.strings_CutPrefix ⟨#[48, 120, 49, 112, 48]⟩ ⟨#[45]⟩ w
  simp only [cp4.1, cp4.2] at h
  exact h
theorem cut1p (w : World) (hR : Rd w) : Calls Tryd.prog 62 #[.string ⟨#[112, 43, 49]⟩, .string ⟨#[112]⟩] w fun e w' => e = .returned (.tuple #[.string ⟨#[]⟩, .string ⟨#[43, 49]⟩, .bool true]) ∧ ∃ n, w' = w.drewN n := by
  obtain ⟨m, hm⟩ := hR.most
  have h := Tryd.strings_Cut ⟨#[112, 43, 49]⟩ ⟨#[112]⟩ m w (by decide) hm
  simp only [ct1] at h
  exact h
theorem cut2p (w : World) (hR : Rd w) : Calls Tryd.prog 62 #[.string ⟨#[112, 48]⟩, .string ⟨#[112]⟩] w fun e w' => e = .returned (.tuple #[.string ⟨#[]⟩, .string ⟨#[48]⟩, .bool true]) ∧ ∃ n, w' = w.drewN n := by
  obtain ⟨m, hm⟩ := hR.most
  have h := Tryd.strings_Cut ⟨#[112, 48]⟩ ⟨#[112]⟩ m w (by decide) hm
  simp only [ct2] at h
  exact h

set_option maxHeartbeats 400000 in
theorem parseSize_a (w : World) (hR : Rd w) :
    Calls Tryd.prog 54 #[.string ⟨#[48, 120, 49, 112, 43, 49]⟩] w fun e w' => e = .returned (.tuple #[.int .u64 4611686018427387904, .bool true]) ∧ ∃ n, w' = w.drewN n := by
  have HR : Hid (Rd w) := hR
  clear hR
  go_enter Tryd.func54, Tryd.ntmps54
  go_wp2_with fail
  refine (cutp1 _).mono ?_
  rintro e w' ⟨rfl, rfl⟩
  go_wp2_with fail
  refine (cut1p _ HR.out).mono ?_
  rintro e w1 ⟨rfl, n, rfl⟩
  go_wp2_with (first | (go_at_call 63; refine (parseFraction_e _).mono ?_; rintro e w' ⟨rfl, rfl⟩) | (go_at_call 64; refine (parsePower_p1 _).mono ?_; rintro e w' ⟨rfl, rfl⟩) | (go_at_call 65; refine (pack_1 _).mono ?_; rintro e w' ⟨rfl, rfl⟩))
  go_ret2
  exact ⟨rfl, n, rfl⟩

set_option maxHeartbeats 400000 in
theorem parseSize_b (w : World) (hR : Rd w) :
    Calls Tryd.prog 54 #[.string ⟨#[48, 120, 49, 112, 48]⟩] w fun e w' => e = .returned (.tuple #[.int .u64 0, .bool false]) ∧ ∃ n, w' = w.drewN n := by
  have HR : Hid (Rd w) := hR
  clear hR
  go_enter Tryd.func54, Tryd.ntmps54
  go_wp2_with fail
  refine (cutp2 _).mono ?_
  rintro e w' ⟨rfl, rfl⟩
  go_wp2_with fail
  refine (cut2p _ HR.out).mono ?_
  rintro e w1 ⟨rfl, n, rfl⟩
  go_wp2_with (first | (go_at_call 63; refine (parseFraction_e _).mono ?_; rintro e w' ⟨rfl, rfl⟩) | (go_at_call 64; refine (parsePower_0 _).mono ?_; rintro e w' ⟨rfl, rfl⟩))
  go_ret2
  exact ⟨rfl, n, rfl⟩

theorem or_neg2 : bits .or .u64 4611686018427387904 9223372036854775808 = 13835058055282163712 := by decide
set_option maxHeartbeats 400000 in
theorem parseSigned_a (w : World) (hR : Rd w) :
    Calls Tryd.prog 46 #[.string ⟨#[45, 48, 120, 49, 112, 43, 49]⟩] w fun e w' => e = .returned (.tuple #[.int .u64 13835058055282163712, .bool true]) ∧ ∃ n, w' = w.drewN n := by
  have HR : Hid (Rd w) := hR
  have h := or_neg2
  clear hR
  go_enter Tryd.func46, Tryd.ntmps46
  go_wp2_with fail
  refine (cutp3 _).mono ?_
  rintro e w' ⟨rfl, rfl⟩
  go_wp2_with fail
  refine (parseSize_a _ HR.out).mono ?_
  rintro e w1 ⟨rfl, n, rfl⟩
  go_wp2
  go_ret2
  exact ⟨rfl, n, rfl⟩
set_option maxHeartbeats 400000 in
theorem parseSigned_b (w : World) (hR : Rd w) :
    Calls Tryd.prog 46 #[.string ⟨#[48, 120, 49, 112, 48]⟩] w fun e w' => e = .returned (.tuple #[.int .u64 0, .bool false]) ∧ ∃ n, w' = w.drewN n := by
  have HR : Hid (Rd w) := hR
  clear hR
  go_enter Tryd.func46, Tryd.ntmps46
  go_wp2_with fail
  refine (cutp4 _).mono ?_
  rintro e w' ⟨rfl, rfl⟩
  go_wp2_with fail
  refine (parseSize_b _ HR.out).mono ?_
  rintro e w1 ⟨rfl, n, rfl⟩
  go_wp2
  go_ret2
  exact ⟨rfl, n, rfl⟩
set_option maxHeartbeats 400000 in
theorem parse64_a (w : World) (hR : Rd w) :
    Calls Tryd.prog 33 #[.string ⟨#[45, 48, 120, 49, 112, 43, 49]⟩] w fun e w' => e = .returned (.tuple #[.float .f64 13835058055282163712, .int .i64 0]) ∧ ∃ n, w' = w.drewN n := by
  have HR : Hid (Rd w) := hR
  clear hR
  go_enter Tryd.func33, Tryd.ntmps33
  go_wp2_with fail
  refine (parseSigned_a _ HR.out).mono ?_
  rintro e w1 ⟨rfl, n, rfl⟩
  go_wp2
  go_ret2
  exact ⟨rfl, n, rfl⟩
set_option maxHeartbeats 400000 in
theorem parse64_b (w : World) (hR : Rd w) :
    Calls Tryd.prog 33 #[.string ⟨#[48, 120, 49, 112, 48]⟩] w fun e w' => e = .returned (.tuple #[.float .f64 0, .int .i64 11]) ∧ ∃ n, w' = w.drewN n := by
  have HR : Hid (Rd w) := hR
  clear hR
  go_enter Tryd.func33, Tryd.ntmps33
  go_wp2_with fail
  refine (parseSigned_b _ HR.out).mono ?_
  rintro e w1 ⟨rfl, n, rfl⟩
  go_wp2
  go_ret2
  exact ⟨rfl, n, rfl⟩
set_option maxHeartbeats 400000 in
theorem parse32_b (w : World) (hR : Rd w) :
    Calls Tryd.prog 34 #[.string ⟨#[48, 120, 49, 112, 48]⟩] w fun e w' => e = .returned (.tuple #[.float .f32 0, .int .i64 11]) ∧ ∃ n, w' = w.drewN n := by
  have HR : Hid (Rd w) := hR
  clear hR
  go_enter Tryd.func34, Tryd.ntmps34
  go_wp2_with fail
  refine (parse64_b _ HR.out).mono ?_
  rintro e w1 ⟨rfl, n, rfl⟩
  go_wp2
  go_ret2
  exact ⟨rfl, n, rfl⟩

theorem nar01 : floatToFloatBits .f64 4591870180066957722 .f32 = some 1036831949 := by decide
theorem wid01 : floatToFloatBits .f32 1036831949 .f64 = some 4591870180174331904 := by decide
set_option maxHeartbeats 400000 in
theorem narrow01 (w : World) :
    Calls Tryd.prog 24 #[.float .f64 4591870180066957722] w fun e w' => e = .returned (.tuple #[.float .f32 1036831949, .bool false]) ∧ w' = w := by
  have hn : FloatKind.f64.format.order 4591870180066957722 4591870180066957722 = some .eq := by decide
  have h1 := fun w => run_convert_float_float (P := Tryd.prog) w 23 25 .f64 .f32 _ _ (by kernel_rfl) Tryd.underlying25 nar01
  have h2 := fun w => run_convert_float_float (P := Tryd.prog) w 25 23 .f32 .f64 _ _ (by kernel_rfl) Tryd.underlying23 wid01
  have HC : Hid (∀ w, Calls Tryd.prog 19 #[.float .f64 4591870180174331904, .float .f64 4591870180066957722] w fun e w' => e = .returned (.bool false) ∧ w' = w) := fun w => rsame64 4591870180174331904 4591870180066957722 w (by omega) (by omega)
  go_enter Tryd.func24, Tryd.ntmps24
  go_wp2_with (go_at_call 19; refine (HC.out _).mono ?_; rintro e w' ⟨rfl, rfl⟩)
  go_ret2
  exact ⟨rfl, rfl⟩

end Go.Proofs.YtcelohlblnjgdaaDoor
