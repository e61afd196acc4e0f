/- The statements' first calls, at fixed inputs: they answer as the chapter's examples say. -/
import Derived.Test.YtbbikogpfpghbaaDoorW14
namespace Go.Proofs.YtbbikogpfpghbaaDoor
open Go.RowKit

theorem text01 : textL 4591870180066957722 = [48, 120, 49, 46, 57, 57, 57, 57, 57, 57, 57, 57, 57, 57, 57, 57, 97, 112, 45, 52] := by decide +kernel
theorem text32 : textL (wid 1036831949) = [48, 120, 49, 46, 57, 57, 57, 57, 57, 97, 112, 45, 52] := by decide +kernel

theorem aw_p64 (w : World) (hR : Rd w) : Calls Tryd.prog 30 #[.float .f64 4591870180066957722] w fun e w' => e = .returned (.string ⟨#[48, 120, 49, 46, 57, 57, 57, 57, 57, 57, 57, 57, 57, 57, 57, 57, 97, 112, 45, 52]⟩) ∧ Below w.heap.size w w' := by
  have h := print64_any 4591870180066957722 w (by omega) hR
  rw [text01] at h
  exact h
theorem aw_p32 (w : World) (hR : Rd w) : Calls Tryd.prog 31 #[.float .f32 1036831949] w fun e w' => e = .returned (.string ⟨#[48, 120, 49, 46, 57, 57, 57, 57, 57, 97, 112, 45, 52]⟩) ∧ Below w.heap.size w w' := by
  have h := print32_any 1036831949 w (by omega) hR
  rw [text32] at h
  exact h
theorem aw_f32 (w : World) : Calls Tryd.prog 14 #[.int .u32 1065353216] w fun e w' => e = .returned (.tuple #[.float .f32 1065353216, .int .i64 0]) ∧ w' = w := rfrom32_ok 1065353216 w (by omega) (.inl (by decide))
theorem aw_f64 (w : World) : Calls Tryd.prog 12 #[.int .u64 18444492273895866368] w fun e w' => e = .returned (.tuple #[.float .f64 0, .int .i64 10]) ∧ w' = w := rfrom64_bad 18444492273895866368 w (by omega) (by decide) (by decide)
theorem aw_b32 (w : World) : Calls Tryd.prog 19 #[.float .f32 1065353216] w fun e w' => e = .returned (.int .u32 1065353216) ∧ w' = w := rbits32 1065353216 w (by omega)
theorem aw_s1 (w : World) : Calls Tryd.prog 20 #[.float .f64 4607182418800017408, .float .f64 4607182418800017408] w fun e w' => e = .returned (.bool true) ∧ w' = w := rsame64 4607182418800017408 4607182418800017408 w (by omega) (by omega)
theorem aw_s2 (w : World) : Calls Tryd.prog 20 #[.float .f64 4607182418800017408, .float .f64 4611686018427387904] w fun e w' => e = .returned (.bool false) ∧ w' = w := rsame64 4607182418800017408 4611686018427387904 w (by omega) (by omega)

theorem rd_drewN {w : World} (h : Rd w) (n : Nat) : Rd (w.drewN n) := h.below (below_drewN (Below.refl _ _) n)

set_option maxHeartbeats 1000000 in
theorem awake_any (w : World) (hR : Rd w) :
    Calls Tryd.prog 9 #[] w fun e w' => e = .returned (.bool true) ∧ Below w.heap.size w w' := by
  have HR : Hid (Rd w) := hR
  clear hR
  have h1 : FloatKind.f32.format.order 1065353216 1065353216 = some .eq := by decide
  have h2 : FloatKind.f64.format.order 13835058055282163712 13835058055282163712 = some .eq := by decide
  go_enter Tryd.func9, Tryd.ntmps9
  go_wp2_with fail
  refine (aw_f32 _).mono ?_
  rintro e w' ⟨rfl, rfl⟩
  go_wp2_with fail
  refine (narrow01 _).mono ?_
  rintro e w1 ⟨rfl, rfl⟩
  go_wp2_with fail
  refine (parse64_a _ HR.out).mono ?_
  rintro e w2 ⟨rfl, n1, rfl⟩
  go_wp2_with fail
  refine (aw_f64 _).mono ?_
  rintro e w2 ⟨rfl, rfl⟩
  go_wp2_with fail
  refine (parse32_b _ (rd_drewN HR.out _)).mono ?_
  rintro e w2 ⟨rfl, n2, rfl⟩
  go_wp2_with fail
  refine (aw_b32 _).mono ?_
  rintro e w2 ⟨rfl, rfl⟩
  go_wp2_with fail
  refine (aw_p64 _ (rd_drewN HR.out _)).mono ?_
  rintro e w3 ⟨rfl, hB⟩
  have HB : Hid (Below w1.heap.size w1 w3) := (below_drewN (Below.refl w1.heap.size w1) (n1 + n2)).trans hB
  clear hB
  go_wp2_with fail
  refine (aw_p32 _ (HR.out.below HB.out)).mono ?_
  rintro e w4 ⟨rfl, hB⟩
  have HB2 : Hid (Below w3.heap.size w3 w4) := hB
  clear hB
  go_wp2_with fail
  refine (aw_s1 _).mono ?_
  rintro e w5 ⟨rfl, rfl⟩
  go_wp2_with fail
  refine (aw_s2 _).mono ?_
  rintro e w6 ⟨rfl, rfl⟩
  go_wp2
  go_ret
  exact ⟨rfl, HB.out.trans (HB2.out.mono HB.out.size)⟩

end Go.Proofs.YtbbikogpfpghbaaDoor
