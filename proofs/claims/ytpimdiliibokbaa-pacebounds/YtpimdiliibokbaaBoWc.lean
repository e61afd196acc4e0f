/- Guess of both. -/
import Derived.Test.YtpimdiliibokbaaBoWb
namespace Go.Proofs.Ytpimdiliibokbaa
open Go.RowKit Ieee
namespace Fl
theorem cdiv_le {n D k : Nat} (hD : 0 < D) (h : n ≤ k * D) : cdiv n D ≤ k := by
  unfold cdiv
  have h1 := Nat.div_add_mod n D
  have h2 := Nat.mod_lt n hD
  by_cases hm : n % D = 0
  · rw [if_pos hm, Nat.add_zero]
    exact Nat.div_le_of_le_mul (by rw [Nat.mul_comm]; exact h)
  · rw [if_neg hm]
    have : n / D < k := Nat.div_lt_of_lt_mul (by
      rcases Nat.lt_or_ge n (D * k) with hl | hl
      · exact hl
      · exfalso
        rw [Nat.mul_comm] at h
        have he : n = D * k := by omega
        rw [he, Nat.mul_mod_right] at hm
        exact hm rfl)
    omega
theorem cdiv_ge {n D k : Nat} (hD : 0 < D) (h : k * D ≤ n) : k ≤ cdiv n D := by
  unfold cdiv
  have := (Nat.le_div_iff_mul_le hD).2 h
  omega
theorem pow149 : 0 < 2 ^ 149 := Nat.two_pow_pos _
/-- how far one may wait -/
def reach (a b : Nat) : Nat := RG 23 0 (sizeOf single a + sizeOf single (RG 23 0 (4 * sizeOf single b)))
theorem reach_is {a b : Nat} (ha : a ≤ 1233125376) (hb : b ≤ 1233125376) :
    single.mul 1082130432 b = some (RG 23 0 (4 * sizeOf single b)) ∧ single.add a (RG 23 0 (4 * sizeOf single b)) = some (reach a b) ∧ a ≤ reach a b ∧ reach a b < 2139095040 ∧ ups (reach a b) ≤ 8388608 ∧ wholes (reach a b) ≤ 8388608 := by
  have sa := size_le ha
  have sb := size_le hb
  rw [top_size] at sa sb
  have g4 := fI_size 4194304 (by omega)
  have g8 := fI_size 8388608 (by omega)
  have l4 := fI_lt 4194304 (by omega)
  have l8 := fI_lt 8388608 (by omega)
  have h1 : RG 23 0 (4 * sizeOf single b) ≤ fI 4194304 := RG_le (by rw [g4, Nat.pow_zero, Nat.mul_one]; omega) l4
  have s1 := size_le h1
  rw [g4] at s1
  have h2 : reach a b ≤ fI 8388608 := RG_le (by rw [g8, Nat.pow_zero, Nat.mul_one]; omega) l8
  have s2 := size_le h2
  rw [g8] at s2
  have m1 := mul_four b (by omega)
  rw [Nat.min_eq_left (by omega)] at m1
  have a1 := add_pos a (RG 23 0 (4 * sizeOf single b)) (by omega) (by omega) (show reach a b < 2139095040 by omega)
  rw [word_false] at a1
  refine ⟨m1, a1, RG_ge (by rw [Nat.pow_zero, Nat.mul_one]; omega) (by omega), by omega, cdiv_le pow149 s2, ?_⟩
  exact Nat.div_le_of_le_mul (by rw [Nat.mul_comm]; exact s2)
theorem ups_top {g : Nat} (h : 1233125376 ≤ g) : 1048576 ≤ ups g := by
  have := size_le h
  rw [top_size] at this
  exact cdiv_ge pow149 this
theorem ups_low {g : Nat} (h : g < 1233125376) : ups g ≤ 1048576 ∧ wholes g < 1048576 ∧ (fI (wholes g) < g → ups g = wholes g + 1) ∧ (¬ fI (wholes g) < g → ups g = wholes g) := by
  have h1 := sizeOf_lt single h
  rw [top_size] at h1
  have hw : wholes g < 1048576 := Nat.div_lt_of_lt_mul (by rw [Nat.mul_comm]; exact h1)
  have hs := fI_size (wholes g) (by omega)
  have hd := Nat.div_add_mod (sizeOf single g) (2 ^ 149)
  have hd' : 2 ^ 149 * wholes g + sizeOf single g % 2 ^ 149 = sizeOf single g := hd
  rw [Nat.mul_comm] at hd'
  refine ⟨cdiv_le pow149 (by omega), hw, fun hl => ?_, fun hl => ?_⟩
  · have := sizeOf_lt single hl
    rw [hs] at this
    show wholes g + _ = _
    rw [if_neg (by omega)]
  · have := size_le (Nat.le_of_not_lt hl)
    rw [hs] at this
    show wholes g + _ = _
    rw [if_pos (by omega), Nat.add_zero]
theorem ups_zero : ups (reach 0 0) = 0 := by
  unfold reach
  rw [size0, Nat.mul_zero, RG_zero, size0, RG_zero]
  unfold ups cdiv
  rw [size0, Nat.zero_div, Nat.zero_mod, if_pos rfl]
end Fl
theorem ord32 (r r' : Nat) (h : r ≤ 2139095040) (h' : r' ≤ 2139095040) : FloatKind.f32.format.order r r' = some (compare r r') := Fl.ordPos single r r' (by rw [Fl.inf32]; exact h) (by rw [Fl.inf32]; exact h') Fl.bi_le32
theorem lt32 {r r' : Nat} (h : r ≤ 2139095040) (h' : r' ≤ 2139095040) : (FloatKind.f32.format.order r r' == some .lt) = decide (r < r') := by
  rw [ord32 r r' h h']
  rcases Nat.lt_trichotomy r r' with q | q | q
  · rw [Nat.compare_eq_lt.2 q]; simp [q]
  · rw [Nat.compare_eq_eq.2 q]; simp [q]
  · rw [Nat.compare_eq_gt.2 q]; simp; omega
theorem ge32 {r r' : Nat} (h : r ≤ 2139095040) (h' : r' ≤ 2139095040) : (FloatKind.f32.format.order r r' == some .gt || FloatKind.f32.format.order r r' == some .eq) = decide (r' ≤ r) := by
  rw [ord32 r r' h h']
  rcases Nat.lt_trichotomy r r' with q | q | q
  · rw [Nat.compare_eq_lt.2 q]; simp; omega
  · rw [Nat.compare_eq_eq.2 q]; simp [q]
  · rw [Nat.compare_eq_gt.2 q]; simp; omega
theorem arch_ceil {W m : Nat} {L : Int} {N : Nat} (h1 : double.read W = .number false m L) (h2 : (Datum.number false m L).integral .up = .number false N 0) (w : World) : (callFunc 25 #[.float .f64 W]).run Try.prog w = .ok (.value (.float .f64 (double.nearest false N 0))) w := by
  have h := @run_callFunc_extern Try.prog 25 _ (Extern.MathFloor.toIntegral "math.archCeil" .up) Try.func25 (by kernel_rfl) (by kernel_rfl) (by kernel_rfl) (by kernel_rfl)
  have h3 : FloatKind.f64.decode W = .number false m L := h1
  have h4 : Extern.MathFloor.toIntegral "math.archCeil" .up #[.float .f64 W] = pure (.float .f64 (FloatKind.f64.encode ((Datum.number false m L).integral .up))) := by
    show (Extern.MathFloor.toIntegral.match_1 (fun _ => Sem Value) (FloatKind.f64.decode W) ?_ ?_ : Sem Value) = _
    rw [h3]
  rw [h, h4, h2]
  rfl
theorem ceil_any (w : World) {W m : Nat} {L : Int} {N : Nat} (h1 : double.read W = .number false m L) (h2 : (Datum.number false m L).integral .up = .number false N 0) : Calls Try.prog 22 #[.float .f64 W] w fun e w' => e = .returned (.float .f64 (double.nearest false N 0)) ∧ w' = w := by
  have h := arch_ceil h1 h2
  generalize double.nearest false N 0 = y at *
  go_enter Try.func22, Try.ntmps22
  go_wp2
  go_ret
  exact ⟨rfl, rfl⟩
def gsP (a b : Nat) : Int := min (Fl.ups (Fl.reach a b) : Int) 1048576
theorem guess_any {w : World} {A : Nat} {h : Bool} {a b : Nat} (m : Mt w 46 A h a b) (ha : a ≤ 1233125376) (hb : b ≤ 1233125376) : Calls Try.prog 17 #[ptr A] w fun e w' => e = .returned (.int .i64 (gsP a b)) ∧ w' = w := by
  obtain ⟨r1, r2, r3, r4, r5, r6⟩ := Fl.reach_is ha hb
  obtain ⟨W, mm, L, k1, k2, k3⟩ := Fl.wide _ r4
  have q1 := fmul r1
  have q2 := fadd r2
  have q3 : ∀ w, (convert 34 47 (.float .f32 (Fl.reach a b))).run Try.prog w = .ok (.float .f64 W) w := fun w => run_convert_float_float w 34 47 .f32 .f64 _ W (by kernel_rfl) (by kernel_rfl) k1
  have HC := hid (fun w => ceil_any w k2 k3)
  have q4 : ∀ w, (convert 47 3 (.float .f64 (double.nearest false (Fl.ups (Fl.reach a b)) 0))).run Try.prog w = .ok (.int .i64 (Fl.ups (Fl.reach a b) : Nat)) w := fun w => run_convert_float_int w 47 3 .f64 .i64 _ _ (by kernel_rfl) (by kernel_rfl) (Fl.toInt64 _ (Nat.lt_of_le_of_lt r5 (by decide)))
  unfold gsP
  obtain ⟨U, hU⟩ : ∃ U : Int, ((Fl.ups (Fl.reach a b) : Nat) : Int) = U := ⟨_, rfl⟩
  rw [hU] at q4 ⊢
  generalize double.nearest false (Fl.ups (Fl.reach a b)) 0 = y at *
  generalize Fl.reach a b = g at *
  generalize Fl.RG 23 0 (4 * Fl.sizeOf single b) = f at *
  have c1 := m.c1
  have c2 := m.c2
  have hg := min_go U 1048576
  clear hU k1 k2 k3 r1 r2 r3 r4 r5 r6 m ha hb
  go_enter Try.func17, Try.ntmps17
  go_wp2_with fail
  refine (HC.out _).mono ?_
  rintro _ w' ⟨rfl, hw'⟩
  subst hw'
  go_wp2
  go_ret
  exact ⟨rfl, rfl⟩
theorem dguess_no {w : World} {A : Nat} {a b : Nat} (m : Mt w 36 A false a b) : Calls Try.prog 18 #[ptr A] w fun e w' => e = .returned (.int .i64 0) ∧ w' = w := by
  have c0 := m.c0
  clear m
  go_enter Try.func18, Try.ntmps18
  go_wp2
  go_ret
  exact ⟨rfl, rfl⟩
theorem dguess_any {w : World} {A : Nat} {a b : Nat} (m : Mt w 36 A true a b) (ha : a ≤ 1233125376) (hb : b ≤ 1233125376) : Calls Try.prog 18 #[ptr A] w fun e w' => e = .returned (.int .i64 (gsP a b)) ∧ w' = w := by
  obtain ⟨r1, r2, r3, r4, r5, r6⟩ := Fl.reach_is ha hb
  have q1 := fmul r1
  have q2 := fadd r2
  unfold gsP
  generalize Fl.reach a b = g at *
  generalize Fl.RG 23 0 (4 * Fl.sizeOf single b) = f at *
  have c0 := m.c0
  have c1 := m.c1
  have c2 := m.c2
  have o1 := ge32 (r := g) (r' := 1233125376) (by omega) (by omega)
  by_cases hg : 1233125376 ≤ g
  · have e : (min (Fl.ups g : Int) 1048576) = 1048576 := by have := Fl.ups_top hg; omega
    rw [e]
    have o2 : decide (1233125376 ≤ g) = true := by simpa using hg
    rw [o2] at o1
    clear m ha hb r1 r2 r3 r4 r5 r6 hg o2
    go_enter Try.func18, Try.ntmps18
    go_wp2
    go_ret
    exact ⟨rfl, rfl⟩
  · obtain ⟨u1, u2, u3, u4⟩ := Fl.ups_low (Nat.lt_of_not_le hg)
    have o2 : decide (1233125376 ≤ g) = false := by simpa using hg
    rw [o2] at o1
    have q3 : ∀ w, (convert 34 3 (.float .f32 g)).run Try.prog w = .ok (.int .i64 (Fl.wholes g : Nat)) w := fun w => run_convert_float_int w 34 3 .f32 .i64 _ _ (by kernel_rfl) (by kernel_rfl) (Fl.toInt32 g r4 (by omega))
    have q4 := Fl.ofI (Fl.wholes g) (by omega)
    have o3 := lt32 (r := Fl.fI (Fl.wholes g)) (r' := g) (by have := Fl.fI_lt (Fl.wholes g) (by omega); omega) (by omega)
    obtain ⟨N, hN⟩ : ∃ N : Int, ((Fl.wholes g : Nat) : Int) = N := ⟨_, rfl⟩
    rw [hN] at q3 q4
    have w1 : wrap64 (N + 1) = N + 1 := by unfold wrap64; omega
    by_cases hl : Fl.fI (Fl.wholes g) < g
    · have e : (min (Fl.ups g : Int) 1048576) = N + 1 := by have := u3 hl; omega
      rw [e]
      have o4 : decide (Fl.fI (Fl.wholes g) < g) = true := by simpa using hl
      rw [o4] at o3
      generalize Fl.fI (Fl.wholes g) = z at *
      clear m ha hb r1 r2 r3 r4 r5 r6 hg o2 u1 u2 u3 u4 hN o4 hl e
      go_enter Try.func18, Try.ntmps18
      go_wp2
      go_ret
      exact ⟨by first | rfl | (rw [w1]; rfl), rfl⟩
    · have e : (min (Fl.ups g : Int) 1048576) = N := by have := u4 hl; omega
      rw [e]
      have o4 : decide (Fl.fI (Fl.wholes g) < g) = false := by simpa using hl
      rw [o4] at o3
      generalize Fl.fI (Fl.wholes g) = z at *
      clear m ha hb r1 r2 r3 r4 r5 r6 hg o2 u1 u2 u3 u4 hN o4 hl e
      go_enter Try.func18, Try.ntmps18
      go_wp2
      go_ret
      exact ⟨rfl, rfl⟩
end Go.Proofs.Ytpimdiliibokbaa
