/- The document's own way from bits of 32 to a number, the least ones; and so from all bits. -/
import Derived.Test.YthnnmgiihpdblaaDoorW8
namespace Go.Proofs.YthnnmgiihpdblaaDoor
open Go.RowKit
attribute [local go_sem] unary_negf

/-- A whole number, halved j times, among the narrow ones. -/
def T32 (F : Nat) (j : Int) : Nat := Ieee.single.nearest false F (-j)

theorem lt24 (F : Nat) (h : F < 8388608) : F < 2 ^ (Ieee.single.fractionBits + 1) := Nat.lt_of_lt_of_le h (by decide)
theorem log22 (F : Nat) (h : F < 8388608) : F.log2 ≤ 22 := by
  by_cases h0 : F = 0
  · subst h0; decide
  · have := (Nat.log2_lt h0).2 (Nat.lt_of_lt_of_eq h (by decide : 8388608 = 2 ^ 23)); omega

theorem T32_hlv (F : Nat) (hF : F < 8388608) (j : Int) (h0 : 0 ≤ j) (h : j ≤ 149) : floatBits .quo .f32 (T32 F j) 1073741824 = some (T32 F (j + 1)) := by
  show Ieee.single.div (Ieee.single.nearest false F (-j)) 1073741824 = some (Ieee.single.nearest false F (-(j + 1)))
  by_cases hz : F = 0
  · subst hz
    rw [Fl.nearest_zero, Fl.nearest_zero, Fl.div_two Ieee.single _ Fl.two32 _ false 0 _ (Fl.read_zero Ieee.single false) (by decide), Fl.nearest_zero]
  · have hl := log22 F hF
    have hp : Ieee.single.leastPlace ≤ -j := by rw [Fl.lp32]; omega
    have h2 := Fl.rungOf_lt Ieee.single F (-j) hz (lt24 F hF) hp 200 (by rw [Fl.fb32, Fl.lp32]; omega) (by omega)
    rw [Fl.bi32] at h2
    have e := Fl.hlv Ieee.single 1073741824 Fl.two32 false F (-j) hz (lt24 F hF) hp (by rw [Fl.inf32]; omega)
    have e2 : -j - 1 = -(j + 1) := by omega
    rw [e2] at e
    exact e

theorem T32_start (F : Nat) : floatOfInt .f32 (F : Int) = T32 F 0 := by
  rw [Fl.ofInt32]; rfl
theorem T32_end (F : Nat) (h : F < 8388608) : T32 F 149 = F := by
  have e := Fl.nearest_parts Ieee.single false F (by rw [Fl.inf32]; omega)
  have e1 : Fl.magOf Ieee.single F = F := by unfold Fl.magOf; rw [if_pos (by rw [Fl.bi32]; exact h)]
  have e2 : Fl.placeOf Ieee.single F = -149 := by unfold Fl.placeOf; rw [if_pos (by rw [Fl.bi32]; exact h), Fl.lp32]
  rw [e1, e2, Fl.word_false] at e
  exact e

theorem neg_false32 (r : Nat) (h : r < 2147483648) : Op.negFloat .f32 r = Ieee.single.word true r := by
  show r ^^^ 2 ^ 31 = 2 ^ 31 + r
  exact Fl.xor_top 31 r (by omega)

set_option maxHeartbeats 1000000 in
theorem from32_sub_core (neg : Bool) (b : Int) (F : Nat) (w : World) (HF : F < 8388608) (hbE : bits .and .u32 (b / 8388608) 255 = 0) (hbF : bits .and .u32 b 8388607 = (F : Int)) (hsg : b / 2147483648 = sgn neg) :
    Calls Tryd.prog 15 #[.int .u32 b] w fun e w' => e = .returned (.tuple #[.float .f32 (Ieee.single.word neg F), .int .i64 0]) ∧ w' = w := by
  have hs0 : 0 ≤ sgn neg := by cases neg <;> decide
  have hs1 : sgn neg ≤ 1 := by cases neg <;> decide
  have HF' : Hid (F < 8388608) := HF
  obtain ⟨Fi, HFi⟩ : ∃ Fi : Int, Hid (Fi = (F : Int)) := ⟨_, rfl⟩
  have hFi0 : 0 ≤ Fi := by have := HFi.out; omega
  have hFi1 : Fi < 8388608 := by have := HFi.out; omega
  rw [← HFi.out] at hbF
  clear HF
  go_enter Tryd.func15, Tryd.ntmps15
  go_wp2
  go_loop [13, 14] (fun f i => ∃ k : Int, f = .float .f32 (T32 F k) ∧ i = .int .i64 k ∧ 0 ≤ k ∧ k ≤ 149) (fun _ i => (3000 - intOf i).toNat)
  case atStart => exact ⟨0, fl_eq (by rw [HFi.out]; exact T32_start F), rfl, by omega, by omega⟩
  case round =>
    obtain ⟨k, rfl, rfl, hk1, hk2⟩ := hrel
    clear hbE hbF
    by_cases hlt : k < 149
    · have hd := ari .quo 25 .f32 _ _ _ (T32_hlv F HF'.out k hk1 hk2)
      go_wp2
      go_round
      case rel => exact ⟨k + 1, rfl, rfl, by omega, by omega⟩
      case measure => simp [intOf]; omega
    · obtain rfl : k = 149 := by omega
      have e := T32_end F HF'.out
      rw [e]
      have HE : Hid (T32 F 149 = F) := e
      clear e
      cases neg
      · have hst : sgn false * 9223372036854775808 ≤ 0 := by decide
        go_wp2
        go_ret2
        exact ⟨rfl, rfl⟩
      · have hst : 0 < sgn true * 9223372036854775808 := by decide
        go_wp2
        go_ret2
        exact ⟨ret_fl2 (neg_false32 _ (by have := HF'.out; omega)), rfl⟩

/-! The fields of bits of 32. -/
theorem fields32 (neg : Bool) (E F : Nat) (hE : E ≤ 255) (hF : F < 8388608) :
    bits .and .u32 ((Ieee.single.word neg (E * 8388608 + F) : Nat) / 8388608) 255 = (E : Int) ∧ bits .and .u32 (Ieee.single.word neg (E * 8388608 + F) : Nat) 8388607 = (F : Int) ∧ ((Ieee.single.word neg (E * 8388608 + F) : Nat) : Int) / 2147483648 = sgn neg := by
  have hr : E * 8388608 + F < 2147483648 := by omega
  have hd : (E * 8388608 + F) / 8388608 = E := by omega
  have hm : (E * 8388608 + F) % 8388608 = F := by omega
  generalize E * 8388608 + F = r at *
  refine ⟨?_, ?_, ?_⟩
  · have hq : (Ieee.single.word neg r) / 8388608 % 256 = E ∧ (Ieee.single.word neg r) / 8388608 < 512 := by
      cases neg
      · rw [Fl.word_false]; omega
      · rw [Fl.word_true, Fl.sw32]; omega
    have e := u32_and_nat ((Ieee.single.word neg r) / 8388608) 255 (by omega) (by omega)
    rw [nat_mask8, hq.1] at e
    rw [← e]
    rfl
  · have hq : (Ieee.single.word neg r) % 8388608 = F ∧ Ieee.single.word neg r < 4294967296 := by
      cases neg
      · rw [Fl.word_false]; omega
      · rw [Fl.word_true, Fl.sw32]; omega
    have e := u32_and_nat (Ieee.single.word neg r) 8388607 hq.2 (by omega)
    have e2 : Ieee.single.word neg r &&& 8388607 = Ieee.single.word neg r % 8388608 := Nat.and_two_pow_sub_one_eq_mod _ 23
    rw [e2, hq.1] at e
    rw [← e]
    rfl
  · cases neg
    · rw [Fl.word_false]; show _ = (0 : Int); omega
    · rw [Fl.word_true, Fl.sw32]; show _ = (1 : Int); omega

theorem parts32 (n : Nat) (h : n < 4294967296) : ∃ neg E F, E ≤ 255 ∧ F < 8388608 ∧ n = Ieee.single.word neg (E * 8388608 + F) ∧ nan32 n = (E == 255 && F != 0) := by
  obtain ⟨neg, r, hr, rfl, hx⟩ := split32 n h
  have e : r = r / 8388608 * 8388608 + r % 8388608 := by omega
  refine ⟨neg, r / 8388608, r % 8388608, by omega, by omega, by rw [← e], ?_⟩
  rw [hx, Bool.eq_iff_iff]
  simp only [decide_eq_true_eq, Bool.and_eq_true, beq_iff_eq, bne_iff_ne]
  omega

theorem from32_ok (n : Nat) (w : World) (h : n < 4294967296) (hn : nan32 n = false) :
    Calls Tryd.prog 15 #[.int .u32 n] w fun e w' => e = .returned (.tuple #[.float .f32 n, .int .i64 0]) ∧ w' = w := by
  obtain ⟨neg, E, F, hE, hF, rfl, hx⟩ := parts32 n h
  obtain ⟨f1, f2, f3⟩ := fields32 neg E F hE hF
  rw [hn] at hx
  by_cases h7 : E = 255
  · subst h7
    have hF0 : F = 0 := by simpa using hx
    subst hF0
    refine from32_inf_core neg _ w f1 f2 f3 ?_
    rw [beq_eq_false_iff_ne]; cases neg <;> decide
  · by_cases h0 : E = 0
    · subst h0
      have e : 0 * 8388608 + F = F := by omega
      rw [e] at f1 f2 f3 ⊢
      exact from32_sub_core neg _ F w hF f1 f2 f3
    · exact from32_full_core neg _ E F w (by omega) (by omega) hF f1 f2 f3

theorem from32_nan (w : World) :
    Calls Tryd.prog 15 #[.int .u32 2143289344] w fun e w' => ∃ z, nan32 z = true ∧ z < 4294967296 ∧ e = .returned (.tuple #[.float .f32 z, .int .i64 0]) ∧ ∃ k, w' = w.drewN k :=
  from32_nan_core 2143289344 4194304 w (by decide) (by decide) (by decide) (by decide) (by decide) (by decide)

theorem from32_bad (n : Nat) (w : World) (h : n < 4294967296) (hn : nan32 n = true) (hb : n ≠ 2143289344) :
    Calls Tryd.prog 15 #[.int .u32 n] w fun e w' => e = .returned (.tuple #[.float .f32 0, .int .i64 10]) ∧ w' = w := by
  obtain ⟨neg, E, F, hE, hF, rfl, hx⟩ := parts32 n h
  obtain ⟨f1, f2, f3⟩ := fields32 neg E F hE hF
  rw [hn] at hx
  have hx' : E = 255 ∧ F ≠ 0 := by simpa using hx.symm
  obtain ⟨rfl, hF0⟩ := hx'
  refine from32_bad_core neg _ (F : Int) w f1 f2 f3 (by omega) (by omega) ?_ ?_
  · rw [bne_iff_ne]
    intro e
    exact hF0 (Int.natCast_inj.1 e)
  · rw [beq_eq_false_iff_ne]
    intro e
    exact hb (Int.natCast_inj.1 e)

end Go.Proofs.YthnnmgiihpdblaaDoor
