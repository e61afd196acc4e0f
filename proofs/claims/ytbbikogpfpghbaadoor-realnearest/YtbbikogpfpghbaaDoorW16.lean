/- The statement on bits: whatever the input, its walk answers true, and nothing that was there has turned. -/
import Derived.Test.YtbbikogpfpghbaaDoorW15
namespace Go.Proofs.YtbbikogpfpghbaaDoor
open Go.RowKit
attribute [local go_sem] unary_negf

/-- What an operation on floats gives, valid or not, and how much it draws. -/
def opV (op : BinOp) (k : FloatKind) (x y : Nat) (w : World) : Nat := (floatBits op k x y).getD (nanOf k x y w)
def opK (op : BinOp) (k : FloatKind) (x y : Nat) : Nat := if (floatBits op k x y).isSome then 0 else 1

theorem run_op (op : BinOp) (ho : op = .add ∨ op = .sub ∨ op = .mul ∨ op = .quo) (t : TypeId) (k : FloatKind) (x y : Nat) (w : World) :
    (binOp op t (.float k x) (.float k y)).run Tryd.prog w = .ok (.float k (opV op k x y w)) (w.drewN (opK op k x y)) := by
  unfold opV opK
  cases h : floatBits op k x y with
  | some r => exact run_float_arith w op t k x y r h
  | none => exact run_float_invalid Tryd.prog w op ho t k x y h

theorem opV64 (op : BinOp) (x y : Nat) (w : World) : opV op .f64 x y w < 18446744073709551616 := by
  unfold opV
  cases h : floatBits op .f64 x y with
  | some r =>
    have := floatBits_wf h
    simp [Lit.wf] at this
    exact Nat.lt_of_lt_of_eq this (by decide)
  | none => exact (nanOf64 x y w).2
theorem opV32 (op : BinOp) (x y : Nat) (w : World) : opV op .f32 x y w < 4294967296 := by
  unfold opV
  cases h : floatBits op .f32 x y with
  | some r =>
    have := floatBits_wf h
    simp [Lit.wf] at this
    exact Nat.lt_of_lt_of_eq this (by decide)
  | none => exact (nanBits32 x y w).2

theorem neg64_lt (x : Nat) (h : x < 18446744073709551616) : Op.negFloat .f64 x < 18446744073709551616 := by
  show x ^^^ 2 ^ 63 < 2 ^ 64
  exact Nat.xor_lt_two_pow (Nat.lt_of_lt_of_eq h (by decide)) (by decide)
theorem neg32_lt (x : Nat) (h : x < 4294967296) : Op.negFloat .f32 x < 4294967296 := by
  show x ^^^ 2 ^ 31 < 2 ^ 32
  exact Nat.xor_lt_two_pow (Nat.lt_of_lt_of_eq h (by decide)) (by decide)

theorem from64_both (n : Nat) (h : n < 18446744073709551616) : ∃ (f : Nat) (e : Int), f < 18446744073709551616 ∧
    (∀ w, Calls Tryd.prog 12 #[.int .u64 n] w fun r w' => r = .returned (.tuple #[.float .f64 f, .int .i64 e]) ∧ w' = w) ∧
    (∀ w, Calls Tryd.prog 13 #[.int .u64 n] w fun r w' => ∃ g k, g < 18446744073709551616 ∧ c64 g = c64 f ∧ r = .returned (.tuple #[.float .f64 g, .int .i64 e]) ∧ w' = w.drewN k) := by
  cases hn : nan64 n with
  | false => exact ⟨n, 0, h, fun w => rfrom64_ok n w h (.inl hn), fun w => (from64_ok n w h hn).mono fun r w' ⟨a, b⟩ => ⟨n, 0, h, rfl, a, b⟩⟩
  | true =>
    by_cases hb : n = 9221120237041090560
    · subst hb
      refine ⟨9221120237041090560, 0, h, fun w => rfrom64_ok _ w h (.inr rfl), fun w => (from64_nan w).mono fun r w' hh => ?_⟩
      obtain ⟨⟨y, h1, h2, h3⟩, h4⟩ := hh
      exact ⟨y, 1, h2, by rw [c64_nan y h1]; rfl, h3, h4⟩
    · exact ⟨0, 10, by omega, fun w => rfrom64_bad n w h hn hb, fun w => (from64_bad n w h hn hb).mono fun r w' ⟨a, b⟩ => ⟨0, 0, by omega, rfl, a, b⟩⟩

theorem from32_both (n : Nat) (h : n < 4294967296) : ∃ (f : Nat) (e : Int), f < 4294967296 ∧
    (∀ w, Calls Tryd.prog 14 #[.int .u32 n] w fun r w' => r = .returned (.tuple #[.float .f32 f, .int .i64 e]) ∧ w' = w) ∧
    (∀ w, Calls Tryd.prog 15 #[.int .u32 n] w fun r w' => ∃ g k, g < 4294967296 ∧ c32 g = c32 f ∧ r = .returned (.tuple #[.float .f32 g, .int .i64 e]) ∧ w' = w.drewN k) := by
  cases hn : nan32 n with
  | false => exact ⟨n, 0, h, fun w => rfrom32_ok n w h (.inl hn), fun w => (from32_ok n w h hn).mono fun r w' ⟨a, b⟩ => ⟨n, 0, h, rfl, a, b⟩⟩
  | true =>
    by_cases hb : n = 2143289344
    · subst hb
      refine ⟨2143289344, 0, h, fun w => rfrom32_ok _ w h (.inr rfl), fun w => (from32_nan w).mono fun r w' hh => ?_⟩
      obtain ⟨y, h1, h2, h3, k, h4⟩ := hh
      exact ⟨y, k, h2, by rw [c32_nan y h1]; rfl, h3, h4⟩
    · exact ⟨0, 10, by omega, fun w => rfrom32_bad n w h hn hb, fun w => (from32_bad n w h hn hb).mono fun r w' ⟨a, b⟩ => ⟨0, 0, by omega, rfl, a, b⟩⟩

theorem wrapU64 (a : Int) : ∃ n : Nat, IntKind.u64.wrap a = (n : Int) ∧ n < 18446744073709551616 := by
  rw [IntKind.wrap_u64]
  exact ⟨(a % 18446744073709551616).toNat, by omega, by omega⟩
theorem wrapU32 (a : Int) : ∃ n : Nat, IntKind.u32.wrap a = (n : Int) ∧ n < 4294967296 := by
  rw [IntKind.wrap_u32']
  exact ⟨(a % 4294967296).toNat, by omega, by omega⟩

set_option maxHeartbeats 2000000 in
theorem realBits_walk (a b c d : Int) (w : World) (hR : Rd w) :
    Calls Tryd.prog 3 #[.int .i64 a, .int .i64 b, .int .i64 c, .int .i64 d] w fun e w' => e = .returned (.bool true) ∧ Below w.heap.size w w' := by
  obtain ⟨na, ha, hna⟩ := wrapU64 a
  obtain ⟨nb, hb, hnb⟩ := wrapU64 b
  obtain ⟨nc, hc, hnc⟩ := wrapU32 c
  obtain ⟨nd, hd, hnd⟩ := wrapU32 d
  obtain ⟨f64, e64, hf64, hr64, hd64⟩ := from64_both na hna
  obtain ⟨f32, e32, hf32, hr32, hd32⟩ := from32_both nc hnc
  have HWA : Hid (∀ w, Calls Tryd.prog 10 #[.int .i64 a] w fun e w' => ∃ x k, x < 18446744073709551616 ∧ e = .returned (.float .f64 x) ∧ w' = w.drewN k) := fun w => (wide_any a na w ha hna).mono fun e w' ⟨x, k, h1, _, _, h4, h5⟩ => ⟨x, k, h1, h4, h5⟩
  have HWB : Hid (∀ w, Calls Tryd.prog 10 #[.int .i64 b] w fun e w' => ∃ x k, x < 18446744073709551616 ∧ e = .returned (.float .f64 x) ∧ w' = w.drewN k) := fun w => (wide_any b nb w hb hnb).mono fun e w' ⟨x, k, h1, _, _, h4, h5⟩ => ⟨x, k, h1, h4, h5⟩
  have HSC : Hid (∀ w, Calls Tryd.prog 11 #[.int .i64 c] w fun e w' => ∃ x k, x < 4294967296 ∧ e = .returned (.float .f32 x) ∧ w' = w.drewN k) := fun w => (slim_any c nc w hc hnc).mono fun e w' ⟨x, k, h1, _, _, h4, h5⟩ => ⟨x, k, h1, h4, h5⟩
  have HSD : Hid (∀ w, Calls Tryd.prog 11 #[.int .i64 d] w fun e w' => ∃ x k, x < 4294967296 ∧ e = .returned (.float .f32 x) ∧ w' = w.drewN k) := fun w => (slim_any d nd w hd hnd).mono fun e w' ⟨x, k, h1, _, _, h4, h5⟩ => ⟨x, k, h1, h4, h5⟩
  have HR64 : Hid (∀ w, Calls Tryd.prog 12 #[.int .u64 na] w fun r w' => r = .returned (.tuple #[.float .f64 f64, .int .i64 e64]) ∧ w' = w) := hr64
  have HD64 : Hid (∀ w, Calls Tryd.prog 13 #[.int .u64 na] w fun r w' => ∃ g k, g < 18446744073709551616 ∧ c64 g = c64 f64 ∧ r = .returned (.tuple #[.float .f64 g, .int .i64 e64]) ∧ w' = w.drewN k) := hd64
  have HR32 : Hid (∀ w, Calls Tryd.prog 14 #[.int .u32 nc] w fun r w' => r = .returned (.tuple #[.float .f32 f32, .int .i64 e32]) ∧ w' = w) := hr32
  have HD32 : Hid (∀ w, Calls Tryd.prog 15 #[.int .u32 nc] w fun r w' => ∃ g k, g < 4294967296 ∧ c32 g = c32 f32 ∧ r = .returned (.tuple #[.float .f32 g, .int .i64 e32]) ∧ w' = w.drewN k) := hd32
  have HF64 : Hid (f64 < 18446744073709551616) := hf64
  have HF32 : Hid (f32 < 4294967296) := hf32
  have HR : Hid (Rd w) := hR
  rw [IntKind.wrap_u32'] at hc
  have hne : (e64 != e64) = false := by simp
  have hne2 : (e32 != e32) = false := by simp
  clear hb hd hna hnb hnc hnd hr64 hd64 hr32 hd32 hf64 hf32 hR
  go_enter Tryd.func3, Tryd.ntmps3
  go_wp2_with fail
  refine (awake_any _ HR.out).mono ?_
  rintro e w1 ⟨rfl, hB⟩
  have HB : Hid (Below w.heap.size w w1) := hB
  clear hB
  go_wp2_with fail
  refine (HWA.out _).mono ?_
  rintro e w2 ⟨x, k1, hx, rfl, rfl⟩
  have HX : Hid (x < 18446744073709551616) := hx
  clear hx
  go_wp2_with fail
  refine (HWB.out _).mono ?_
  rintro e w2 ⟨y, k2, hy, rfl, rfl⟩
  have HY : Hid (y < 18446744073709551616) := hy
  clear hy
  go_wp2_with fail
  refine (HSC.out _).mono ?_
  rintro e w2 ⟨u, k3, hu, rfl, rfl⟩
  have HU : Hid (u < 4294967296) := hu
  clear hu
  go_wp2_with fail
  refine (HSD.out _).mono ?_
  rintro e w2 ⟨v, k4, hv, rfl, rfl⟩
  have HV : Hid (v < 4294967296) := hv
  clear hv
  go_wp2_with fail
  refine (HR64.out _).mono ?_
  rintro e w2 ⟨rfl, rfl⟩
  go_wp2_with fail
  refine (HD64.out _).mono ?_
  rintro e w2 ⟨g, k5, hg, hcg, rfl, rfl⟩
  have HG : Hid (g < 18446744073709551616 ∧ c64 g = c64 f64) := ⟨hg, hcg⟩
  clear hg hcg
  go_wp2_with fail
  refine (HR32.out _).mono ?_
  rintro e w2 ⟨rfl, rfl⟩
  go_wp2_with fail
  refine (HD32.out _).mono ?_
  rintro e w2 ⟨g2, k6, hg, hcg, rfl, rfl⟩
  have HG2 : Hid (g2 < 4294967296 ∧ c32 g2 = c32 f32) := ⟨hg, hcg⟩
  clear hg hcg
  have hsub := fun w => run_op .sub (.inr (.inl rfl)) 23 .f64 x y w
  have hmul := fun w => run_op .mul (.inr (.inr (.inl rfl))) 25 .f32 u v w
  have HG15 : Hid (∀ w, Calls Tryd.prog 16 #[.float .f64 g] w fun e w' => e = .returned (.int .u64 (c64 f64)) ∧ w' = w) := fun w => by
    have := bits64_any g w HG.out.1; rw [HG.out.2] at this; exact this
  have HG16 : Hid (∀ w, Calls Tryd.prog 17 #[.float .f32 g2] w fun e w' => e = .returned (.int .u32 (c32 f32)) ∧ ∃ k, w' = w.drewN k) := fun w => by
    have := bits32_any g2 w HG2.out.1; rw [HG2.out.2] at this; exact this
  go_wp2_with fail
  refine (bits64_any f64 _ HF64.out).mono ?_
  rintro e w2 ⟨rfl, rfl⟩
  go_wp2_with fail
  refine (HG15.out _).mono ?_
  rintro e w2 ⟨rfl, rfl⟩
  go_wp2_with fail
  refine (bits32_any f32 _ HF32.out).mono ?_
  rintro e w2 ⟨rfl, k7, rfl⟩
  go_wp2_with fail
  refine (HG16.out _).mono ?_
  rintro e w2 ⟨rfl, k8, rfl⟩
  go_wp2_with fail
  obtain ⟨z, HZ⟩ : ∃ z, Hid (opV .sub .f64 x y (w1.drewN (k1 + k2 + k3 + k4 + k5 + k6 + k7 + k8)) = z) := ⟨_, rfl⟩
  obtain ⟨wv, HW⟩ : ∃ wv, Hid (opV .mul .f32 u v (w1.drewN (k1 + k2 + k3 + k4 + k5 + k6 + k7 + k8 + opK .sub .f64 x y)) = wv) := ⟨_, rfl⟩
  rw [HZ.out, HW.out]
  have HZ2 : Hid (z < 18446744073709551616) := by have := opV64 .sub x y (w1.drewN (k1 + k2 + k3 + k4 + k5 + k6 + k7 + k8)); rw [HZ.out] at this; exact this
  have HW2 : Hid (wv < 4294967296) := by have := opV32 .mul u v (w1.drewN (k1 + k2 + k3 + k4 + k5 + k6 + k7 + k8 + opK .sub .f64 x y)); rw [HW.out] at this; exact this
  clear hsub hmul
  refine (rbits64 x _ HX.out).mono ?_
  rintro e w2 ⟨rfl, rfl⟩
  go_wp2_with fail
  refine (bits64_any x _ HX.out).mono ?_
  rintro e w2 ⟨rfl, rfl⟩
  go_wp2_with fail
  refine (rbits32 u _ HU.out).mono ?_
  rintro e w2 ⟨rfl, rfl⟩
  go_wp2_with fail
  refine (bits32_any u _ HU.out).mono ?_
  rintro e w2 ⟨rfl, k9, rfl⟩
  go_wp2_with fail
  refine (rbits64 z _ HZ2.out).mono ?_
  rintro e w2 ⟨rfl, rfl⟩
  go_wp2_with fail
  refine (bits64_any z _ HZ2.out).mono ?_
  rintro e w2 ⟨rfl, rfl⟩
  go_wp2_with fail
  refine (rbits32 wv _ HW2.out).mono ?_
  rintro e w2 ⟨rfl, rfl⟩
  go_wp2_with fail
  refine (bits32_any wv _ HW2.out).mono ?_
  rintro e w2 ⟨rfl, k10, rfl⟩
  go_wp2_with fail
  refine (rsame64 x y _ HX.out HY.out).mono ?_
  rintro e w2 ⟨rfl, rfl⟩
  go_wp2_with fail
  refine (dsame64 x y _ HX.out HY.out).mono ?_
  rintro e w2 ⟨rfl, rfl⟩
  go_wp2_with fail
  refine (rsame32 u v _ HU.out HV.out).mono ?_
  rintro e w2 ⟨rfl, rfl⟩
  go_wp2_with fail
  refine (dsame32 u v _ HU.out HV.out).mono ?_
  rintro e w2 ⟨rfl, k11, rfl⟩
  go_wp2_with fail
  refine (rsame64 z z _ HZ2.out HZ2.out).mono ?_
  rintro e w2 ⟨rfl, rfl⟩
  go_wp2_with fail
  refine (rsame32 wv wv _ HW2.out HW2.out).mono ?_
  rintro e w2 ⟨rfl, rfl⟩
  go_wp2_with fail
  refine (rsame64 x _ _ HX.out (neg64_lt x HX.out)).mono ?_
  rintro e w2 ⟨rfl, rfl⟩
  go_wp2_with fail
  refine (dsame64 x _ _ HX.out (neg64_lt x HX.out)).mono ?_
  rintro e w2 ⟨rfl, rfl⟩
  go_wp2_with fail
  refine (rsame32 u _ _ HU.out (neg32_lt u HU.out)).mono ?_
  rintro e w2 ⟨rfl, rfl⟩
  go_wp2_with fail
  refine (dsame32 u _ _ HU.out (neg32_lt u HU.out)).mono ?_
  rintro e w2 ⟨rfl, k12, rfl⟩
  go_wp2
  go_ret
  exact ⟨rfl, below_drewN HB.out _⟩

end Go.Proofs.YtbbikogpfpghbaaDoor
