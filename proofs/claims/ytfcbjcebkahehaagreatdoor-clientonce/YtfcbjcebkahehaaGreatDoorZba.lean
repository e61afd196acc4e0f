/- Plain: what the nearest narrow number of a wide one is, by a quotient rounded half to even. Plain: rounding does not fall; how words of numbers stand; differences; the nearest narrow number is at least as near as its neighbours. Narrow numbers: sums, differences, quotients by powers of two; what lies between two numbers is rounded to what lies between them. Four times a narrow number. -/
import Derived.Test.YtfcbjcebkahehaaGreatDoorFa
namespace Go.Proofs.YtfcbjcebkahehaaGreatDoor
namespace Fl
open Ieee

/-- Half to even. -/
def half (n d : Nat) : Nat := n / 2 ^ d + (if 2 ^ d < 2 * (n % 2 ^ d) ∨ (2 ^ d = 2 * (n % 2 ^ d) ∧ n / 2 ^ d % 2 = 1) then 1 else 0)

theorem cut_half (neg : Bool) (n d : Nat) : Toward.even.cut neg n d = half n d := by
  have key : ∀ g, (n / g + (decide (g < 2 * (n % g)) || (g == 2 * (n % g) && n / g % 2 == 1)).toNat) = n / g + (if g < 2 * (n % g) ∨ (g = 2 * (n % g) ∧ n / g % 2 = 1) then 1 else 0) := by
    intro g
    congr 1
    by_cases h1 : g < 2 * (n % g)
    · simp [h1]
    · by_cases h2 : g = 2 * (n % g)
      · by_cases h3 : n / g % 2 = 1
        · rw [if_pos (Or.inr ⟨h2, h3⟩)]
          have : (g == 2 * (n % g)) = true := by rw [beq_iff_eq]; exact h2
          rw [this, h3]; simp
        · rw [if_neg (by omega)]
          have : (n / g % 2 == 1) = false := by rw [beq_eq_false_iff_ne]; exact h3
          rw [this]; simp [h1]
      · rw [if_neg (by omega)]
        have : (g == 2 * (n % g)) = false := by rw [beq_eq_false_iff_ne]; exact h2
        rw [this]; simp [h1]
  show n / (1 <<< min d (n.log2 + 2)) + _ = _
  by_cases hd : d ≤ n.log2 + 2
  · rw [Nat.min_eq_left hd, Nat.one_shiftLeft]
    exact key (2 ^ d)
  · rw [Nat.min_eq_right (by omega), Nat.one_shiftLeft]
    refine (key _).trans ?_
    have h1 : n < 2 ^ (n.log2 + 1) := Nat.lt_log2_self
    have h2 : 2 ^ (n.log2 + 2) = 2 * 2 ^ (n.log2 + 1) := by rw [← Nat.pow_succ']
    have h3 : 2 ^ (n.log2 + 2) ≤ 2 ^ d := Nat.pow_le_pow_right (by omega) (by omega)
    unfold half
    generalize 2 ^ (n.log2 + 1) = a at *
    generalize 2 ^ (n.log2 + 2) = b at *
    generalize 2 ^ d = c at *
    rw [Nat.div_eq_of_lt (by omega : n < b), Nat.div_eq_of_lt (by omega : n < c), Nat.mod_eq_of_lt (by omega : n < b), Nat.mod_eq_of_lt (by omega : n < c), if_neg (by omega), if_neg (by omega)]

/-- How far the last digit that is kept lies above the last one that is there. -/
def dropOf (m : Nat) (p : Int) : Nat := (lastOf single m p - p).toNat
/-- The rung of the nearest narrow number, were there no end. -/
def rung32 (m : Nat) (p : Int) : Nat := (lastOf single m p + 149).toNat * 8388608 + half m (dropOf m p)

theorem nearest32 (neg : Bool) (m : Nat) (p : Int) (hm : m ≠ 0) (h : p ≤ lastOf single m p) :
    single.nearest neg m p = single.word neg (min (rung32 m p) 2139095040) := by
  unfold Format.nearest
  rw [if_neg hm]
  show single.word neg (min ((lastOf single m p - single.leastPlace).toNat * single.binade + Toward.even.cut neg (m <<< (p - lastOf single m p).toNat) (lastOf single m p - p).toNat) single.infRung) = _
  have e : (p - lastOf single m p).toNat = 0 := by omega
  rw [e, Nat.shiftLeft_zero, cut_half, lp32, bi32, inf32]
  unfold rung32 dropOf
  congr 4

theorem last32 (m : Nat) (p : Int) : lastOf single m p = max (p + (m.log2 : Int) - 23) (-149) := by
  unfold lastOf; rw [fb32, lp32]; rfl

/-- A wide number's parts: its last digit lies well below. -/
theorem drop_parts (r : Nat) (h0 : r ≠ 0) (hr : r < 9218868437227405312) : (r < 4503599627370496 ∧ dropOf (magOf double r) (placeOf double r) = 925) ∨ (4503599627370496 ≤ r ∧ (magOf double r).log2 = 52 ∧ (dropOf (magOf double r) (placeOf double r) : Int) = max 29 (-149 - placeOf double r) ∧ -1074 ≤ placeOf double r ∧ placeOf double r ≤ 971) := by
  unfold dropOf
  rw [last32]
  by_cases hb : r < 4503599627370496
  · left
    refine ⟨hb, ?_⟩
    have hp : placeOf double r = -1074 := by unfold placeOf; rw [if_pos (by rw [bi64]; exact hb), lp64]
    have hm : magOf double r = r := by unfold magOf; rw [if_pos (by rw [bi64]; exact hb)]
    have hl : r.log2 ≤ 51 := by
      have := (Nat.log2_lt h0).2 (Nat.lt_of_lt_of_eq hb (by decide : 4503599627370496 = 2 ^ 52)); omega
    rw [hp, hm]; omega
  · right
    have hge : double.binade ≤ r := by rw [bi64]; omega
    have hl : (magOf double r).log2 = 52 := by
      rw [magOf_full _ _ hge, log2_binade double _ (Nat.mod_lt _ (by rw [bi64]; omega)), fb64]
    have hp : placeOf double r = -1074 + ((r / 4503599627370496 - 1 : Nat) : Int) := by
      rw [placeOf_full _ _ hge, lp64, bi64]
    have hd : r / 4503599627370496 < 2047 := by
      have : (9218868437227405312 : Nat) = 2047 * 4503599627370496 := by decide
      exact Nat.div_lt_of_lt_mul (by omega)
    rw [hl, hp]
    refine ⟨by omega, rfl, ?_, by omega, by omega⟩
    omega

theorem drop_le (r : Nat) (h0 : r ≠ 0) (hr : r < 9218868437227405312) : placeOf double r ≤ lastOf single (magOf double r) (placeOf double r) ∧ 29 ≤ dropOf (magOf double r) (placeOf double r) := by
  rcases drop_parts r h0 hr with ⟨_, h⟩ | ⟨_, _, h, _⟩
  · unfold dropOf at h ⊢; omega
  · unfold dropOf at h ⊢; omega

theorem half_lt (n d : Nat) (a : Nat) (h : n < a * 2 ^ d) : half n d ≤ a := by
  have h1 : n / 2 ^ d < a := Nat.div_lt_of_lt_mul (by rw [Nat.mul_comm]; exact h)
  unfold half; split <;> omega
theorem half_ge (n d : Nat) (a : Nat) (h : a * 2 ^ d ≤ n) : a ≤ half n d := by
  have h1 : a ≤ n / 2 ^ d := (Nat.le_div_iff_mul_le (Nat.two_pow_pos d)).2 h
  unfold half; omega

/-- Where the range ends. -/
theorem rung_end (r : Nat) (h0 : r ≠ 0) (hr : r < 9218868437227405312) : rung32 (magOf double r) (placeOf double r) < 2139095040 ↔ r < 5183643170835005440 := by
  have hdr := drop_parts r h0 hr
  rcases hdr with ⟨hb, hd⟩ | ⟨hb, hl, hd, hp1, hp2⟩
  · have hm : magOf double r = r := by unfold magOf; rw [if_pos (by rw [bi64]; exact hb)]
    have hla : lastOf single (magOf double r) (placeOf double r) = -149 := by
      have hp : placeOf double r = -1074 := by unfold placeOf; rw [if_pos (by rw [bi64]; exact hb), lp64]
      unfold dropOf at hd; omega
    have hh : half (magOf double r) (dropOf (magOf double r) (placeOf double r)) ≤ 1 := by
      refine half_lt _ _ 1 ?_
      have h52 : 2 ^ 52 ≤ 2 ^ dropOf (magOf double r) (placeOf double r) := Nat.pow_le_pow_right (by omega) (by omega)
      rw [hm] at h52 ⊢
      rw [Nat.one_mul]
      exact Nat.lt_of_lt_of_le hb h52
    unfold rung32
    rw [hla]
    generalize half (magOf double r) (dropOf (magOf double r) (placeOf double r)) = z at *
    omega
  · have hge : double.binade ≤ r := by rw [bi64]; exact hb
    have hm : magOf double r = 4503599627370496 + r % 4503599627370496 := by rw [magOf_full _ _ hge, bi64]
    have hp : placeOf double r = -1074 + ((r / 4503599627370496 - 1 : Nat) : Int) := by rw [placeOf_full _ _ hge, lp64, bi64]
    have hdm := Nat.div_add_mod r 4503599627370496
    have hmod := Nat.mod_lt r (by omega : 0 < 4503599627370496)
    have hE : 1 ≤ r / 4503599627370496 := by omega
    generalize r / 4503599627370496 = E at *
    generalize r % 4503599627370496 = F at *
    by_cases h29 : 897 ≤ E
    · have hd29 : dropOf (magOf double r) (placeOf double r) = 29 := by omega
      have hla : lastOf single (magOf double r) (placeOf double r) = (E : Int) - 1046 := by unfold dropOf at hd29; omega
      have hh1 : half (magOf double r) 29 ≤ 16777216 := half_lt _ _ _ (by rw [hm, show (2 : Nat) ^ 29 = 536870912 from by decide]; omega)
      have hh2 : 8388608 ≤ half (magOf double r) 29 := half_ge _ _ _ (by rw [hm, show (2 : Nat) ^ 29 = 536870912 from by decide]; omega)
      unfold rung32
      rw [hd29, hla]
      by_cases hE1 : E ≤ 1149
      · constructor
        · intro _; omega
        · intro _; omega
      · by_cases hE2 : E = 1150
        · subst hE2
          have hf : half (magOf double r) 29 ≤ 16777215 ↔ F < 4503599358935040 := by
            unfold half
            rw [hm, show (2 : Nat) ^ 29 = 536870912 from by decide]
            split <;> omega
          constructor
          · intro h; have := hf.1 (by omega); omega
          · intro h; have := hf.2 (by omega); omega
        · constructor
          · intro h; omega
          · intro h; omega
    · have hla : lastOf single (magOf double r) (placeOf double r) = -149 := by unfold dropOf at hd; omega
      have hh1 : half (magOf double r) (dropOf (magOf double r) (placeOf double r)) ≤ 16777216 := half_lt _ _ _ (by
        have : 2 ^ 29 ≤ 2 ^ dropOf (magOf double r) (placeOf double r) := Nat.pow_le_pow_right (by omega) (by omega)
        rw [show (2 : Nat) ^ 29 = 536870912 from by decide] at this
        generalize 2 ^ dropOf (magOf double r) (placeOf double r) = z at *
        rw [hm]; omega)
      unfold rung32
      rw [hla]
      generalize half (magOf double r) (dropOf (magOf double r) (placeOf double r)) = z at *
      omega

theorem word_inj (f : Format) (neg : Bool) (r r' : Nat) (h : f.word neg r = f.word neg r') : r = r' := by
  unfold Format.word at h
  cases neg
  · exact h
  · exact Nat.add_left_cancel h

theorem log2_div_exact (m d : Nat) (hm : m ≠ 0) (h : m % 2 ^ d = 0) : m = m / 2 ^ d * 2 ^ d ∧ m / 2 ^ d ≠ 0 ∧ m.log2 = (m / 2 ^ d).log2 + d := by
  have e := Nat.div_add_mod m (2 ^ d)
  rw [h, Nat.add_zero, Nat.mul_comm] at e
  have h0 : m / 2 ^ d ≠ 0 := by
    intro hz; rw [hz, Nat.zero_mul] at e; exact hm e.symm
  refine ⟨e.symm, h0, ?_⟩
  have := log2_mul_pow (m / 2 ^ d) d h0
  rw [e] at this
  exact this

/-- The nearest narrow number, widened again, is the wide one just if nothing was dropped. -/
theorem same_iff (neg : Bool) (r : Nat) (h0 : r ≠ 0) (hr : r < 9218868437227405312) :
    double.nearest neg (magOf single (rung32 (magOf double r) (placeOf double r))) (placeOf single (rung32 (magOf double r) (placeOf double r))) = double.word neg r ↔ magOf double r % 2 ^ dropOf (magOf double r) (placeOf double r) = 0 := by
  have hnp := nearest_parts double neg r (by rw [inf64]; exact hr)
  have hm0 : magOf double r ≠ 0 := fun e => h0 ((magOf_zero double r).1 e)
  obtain ⟨hpl, hd29⟩ := drop_le r h0 hr
  have hmlt := magOf_lt double r
  rw [fb64] at hmlt
  constructor
  · intro he
    generalize hg : rung32 (magOf double r) (placeOf double r) = g at *
    have hM0 : magOf single g ≠ 0 := by
      intro hz
      rw [hz, nearest_zero] at he
      exact h0 (word_inj _ _ _ _ he).symm
    have hM := magOf_lt single g
    have hM53 : magOf single g < 2 ^ (double.fractionBits + 1) := Nat.lt_trans hM (by decide)
    have hP := placeOf_ge single g
    have hP64 : double.leastPlace ≤ placeOf single g := by rw [lp32] at hP; rw [lp64]; omega
    rw [nearest_exact double neg _ _ hM0 hM53 hP64] at he
    have he2 := word_inj _ _ _ _ he
    rw [inf64] at he2
    have he3 : rungOf double (magOf single g) (placeOf single g) = r := by
      rcases Nat.le_total (rungOf double (magOf single g) (placeOf single g)) 9218868437227405312 with hq | hq
      · rw [Nat.min_eq_left hq] at he2; exact he2
      · rw [Nat.min_eq_right hq] at he2; exact absurd he2 (Nat.ne_of_gt hr)
    obtain ⟨q1, q2⟩ := parts_rungOf double (magOf single g) (placeOf single g) hM0 hM53 hP64
    rw [he3] at q1 q2
    have hll := lastOf_le double _ _ hM53 hP64
    have hls := lastOf_le single _ _ hM hP
    have hdr : dropOf (magOf double r) (placeOf double r) ≤ (placeOf single g - lastOf double (magOf single g) (placeOf single g)).toNat := by
      unfold dropOf
      rw [last32] at hls ⊢
      rw [q1, q2, log2_mul_pow _ _ hM0]
      omega
    rw [q1]
    rw [q1] at hdr
    generalize dropOf (magOf single g * 2 ^ (placeOf single g - lastOf double (magOf single g) (placeOf single g)).toNat) (placeOf double r) = d at *
    generalize (placeOf single g - lastOf double (magOf single g) (placeOf single g)).toNat = k at *
    obtain ⟨j, rfl⟩ : ∃ j, k = j + d := ⟨k - d, by omega⟩
    rw [Nat.pow_add, ← Nat.mul_assoc, Nat.mul_mod_left]
  · intro hz
    obtain ⟨e1, e2, e3⟩ := log2_div_exact _ _ hm0 hz
    have hhalf : half (magOf double r) (dropOf (magOf double r) (placeOf double r)) = magOf double r / 2 ^ dropOf (magOf double r) (placeOf double r) := by
      have h2 := Nat.two_pow_pos (dropOf (magOf double r) (placeOf double r))
      unfold half; rw [hz]
      generalize 2 ^ dropOf (magOf double r) (placeOf double r) = z at *
      rw [if_neg (by omega), Nat.add_zero]
    have hrd : rung32 (magOf double r) (placeOf double r) = (lastOf single (magOf double r) (placeOf double r) + 149).toNat * 8388608 + magOf double r / 2 ^ dropOf (magOf double r) (placeOf double r) := by
      unfold rung32; rw [hhalf]
    have hlast : lastOf single (magOf double r) (placeOf double r) = placeOf double r + (dropOf (magOf double r) (placeOf double r) : Int) := by
      unfold dropOf; omega
    have hl149 : -149 ≤ lastOf single (magOf double r) (placeOf double r) := by rw [last32]; omega
    have hlK : lastOf single (magOf double r / 2 ^ dropOf (magOf double r) (placeOf double r)) (lastOf single (magOf double r) (placeOf double r)) = lastOf single (magOf double r) (placeOf double r) := by
      have h1 := last32 (magOf double r) (placeOf double r)
      have h2 := last32 (magOf double r / 2 ^ dropOf (magOf double r) (placeOf double r)) (lastOf single (magOf double r) (placeOf double r))
      generalize magOf double r / 2 ^ dropOf (magOf double r) (placeOf double r) = K at *
      omega
    have hKlt : magOf double r / 2 ^ dropOf (magOf double r) (placeOf double r) < 2 ^ (single.fractionBits + 1) := by
      have h1 := last32 (magOf double r) (placeOf double r)
      have h3 : (magOf double r / 2 ^ dropOf (magOf double r) (placeOf double r)).log2 < 24 := by
        generalize magOf double r / 2 ^ dropOf (magOf double r) (placeOf double r) = K at *
        omega
      have := (Nat.log2_lt e2).1 h3
      rw [fb32]; exact this
    have hrg : rungOf single (magOf double r / 2 ^ dropOf (magOf double r) (placeOf double r)) (lastOf single (magOf double r) (placeOf double r)) = rung32 (magOf double r) (placeOf double r) := by
      unfold rungOf
      rw [hlK, hrd, Int.sub_self, Int.toNat_zero, Nat.pow_zero, Nat.mul_one, lp32, bi32]
      congr 3
    obtain ⟨q1, q2⟩ := parts_rungOf single _ _ e2 hKlt (by rw [lp32]; exact hl149)
    rw [hrg, hlK, Int.sub_self, Int.toNat_zero, Nat.pow_zero, Nat.mul_one] at q1
    rw [hrg, hlK] at q2
    rw [q1, q2, hlast, ← nearest_shift double neg _ _ _ e2, ← e1, hnp]

end Fl
end Go.Proofs.YtfcbjcebkahehaaGreatDoor
namespace Go.Proofs.YtfcbjcebkahehaaGreatDoor
namespace Fl
open Ieee

theorem half_mono (n n' d : Nat) (h : n ≤ n') : half n d ≤ half n' d := by
  have hp := Nat.two_pow_pos d
  have h1 := Nat.div_add_mod n (2 ^ d)
  have h2 := Nat.div_add_mod n' (2 ^ d)
  have h3 := Nat.mod_lt n hp
  have h4 := Nat.mod_lt n' hp
  have hq : n / 2 ^ d ≤ n' / 2 ^ d := Nat.div_le_div_right h
  unfold half
  generalize n / 2 ^ d = q at *
  generalize n' / 2 ^ d = q' at *
  generalize n % 2 ^ d = r at *
  generalize n' % 2 ^ d = r' at *
  generalize 2 ^ d = U at *
  rcases Nat.lt_or_ge q q' with hlt | hge
  · split <;> split <;> omega
  · obtain rfl : q = q' := by omega
    have hr : r ≤ r' := by omega
    by_cases hc : U < 2 * r ∨ (U = 2 * r ∧ q % 2 = 1)
    · rw [if_pos hc, if_pos (by omega)]; omega
    · rw [if_neg hc]; omega

/-- The rung of the nearest number of b fraction bits, s places above the unit. -/
def RG (b s N : Nat) : Nat := (N.log2 - (b + s)) * 2 ^ b + half N (N.log2 - (b + s) + s)

theorem log2_mono (n m : Nat) (h : n ≤ m) : n.log2 ≤ m.log2 := by
  by_cases h0 : n = 0
  · subst h0; simp
  · have hm : m ≠ 0 := by omega
    rcases Nat.lt_or_ge m.log2 n.log2 with hl | hl
    · have := (Nat.log2_lt hm).1 hl
      have h2 := Nat.log2_self_le h0
      omega
    · exact hl

theorem half_zero (d : Nat) : half 0 d = 0 := by
  have hp := Nat.two_pow_pos d
  unfold half
  rw [Nat.zero_div, Nat.zero_mod]
  generalize 2 ^ d = z at *
  rw [if_neg (by omega)]
theorem RG_zero (b s : Nat) : RG b s 0 = 0 := by
  have e1 : (0 : Nat).log2 = 0 := by simp
  unfold RG
  rw [e1, Nat.zero_sub, Nat.zero_mul, half_zero]

theorem RG_mono (b s N N' : Nat) (h : N ≤ N') : RG b s N ≤ RG b s N' := by
  unfold RG
  have hl := log2_mono N N' h
  by_cases h0 : N = 0
  · subst h0
    have e1 : (0 : Nat).log2 = 0 := by simp
    rw [e1, Nat.zero_sub, Nat.zero_mul]
    rw [half_zero]; omega
  have h0' : N' ≠ 0 := by omega
  have hlo' := Nat.log2_self_le h0'
  have hhi := @Nat.lt_log2_self N
  by_cases he : N.log2 - (b + s) = N'.log2 - (b + s)
  · rw [he]
    exact Nat.add_le_add_left (half_mono N N' _ h) _
  · have he2 : N.log2 - (b + s) + 1 ≤ N'.log2 - (b + s) := by omega
    have hge : 2 ^ b ≤ half N' (N'.log2 - (b + s) + s) := by
      apply half_ge
      rw [← Nat.pow_add]
      exact Nat.le_trans (Nat.pow_le_pow_right (by omega) (by omega)) hlo'
    have hle : half N (N.log2 - (b + s) + s) ≤ 2 * 2 ^ b := by
      apply half_lt
      rw [← Nat.pow_succ', ← Nat.pow_add]
      exact Nat.lt_of_lt_of_le hhi (Nat.pow_le_pow_right (by omega) (by omega))
    have hm : (N.log2 - (b + s) + 1) * 2 ^ b ≤ (N'.log2 - (b + s)) * 2 ^ b := Nat.mul_le_mul_right _ he2
    rw [Nat.add_mul, Nat.one_mul] at hm
    omega

theorem near64 (neg : Bool) (N : Nat) : double.nearest neg N (-1074) = double.word neg (min (RG 52 0 N) 9218868437227405312) := by
  by_cases h0 : N = 0
  · subst h0
    rw [nearest_zero]
    rw [RG_zero]; rfl
  · unfold Format.nearest RG
    rw [if_neg h0]
    have hl : max (-1074 + (N.log2 : Int) - (double.fractionBits : Int)) double.leastPlace = -1074 + ((N.log2 - (52 + 0) : Nat) : Int) := by
      rw [fb64, lp64]; omega
    dsimp only
    rw [hl]
    have e1 : (-1074 - (-1074 + ((N.log2 - (52 + 0) : Nat) : Int))).toNat = 0 := by omega
    have e2 : (-1074 + ((N.log2 - (52 + 0) : Nat) : Int) - -1074).toNat = N.log2 - (52 + 0) + 0 := by omega
    have e3 : (-1074 + ((N.log2 - (52 + 0) : Nat) : Int) - double.leastPlace).toNat = N.log2 - (52 + 0) := by rw [lp64]; omega
    rw [e1, e2, e3, Nat.shiftLeft_zero, cut_half, bi64, inf64]

theorem near32 (neg : Bool) (N : Nat) : single.nearest neg N (-1074) = single.word neg (min (RG 23 925 N) 2139095040) := by
  by_cases h0 : N = 0
  · subst h0
    rw [nearest_zero]
    rw [RG_zero]; rfl
  · unfold Format.nearest RG
    rw [if_neg h0]
    have hl : max (-1074 + (N.log2 : Int) - (single.fractionBits : Int)) single.leastPlace = -149 + ((N.log2 - (23 + 925) : Nat) : Int) := by
      rw [fb32, lp32]; omega
    dsimp only
    rw [hl]
    have e1 : (-1074 - (-149 + ((N.log2 - (23 + 925) : Nat) : Int))).toNat = 0 := by omega
    have e2 : (-149 + ((N.log2 - (23 + 925) : Nat) : Int) - -1074).toNat = N.log2 - (23 + 925) + 925 := by omega
    have e3 : (-149 + ((N.log2 - (23 + 925) : Nat) : Int) - single.leastPlace).toNat = N.log2 - (23 + 925) := by rw [lp32]; omega
    rw [e1, e2, e3, Nat.shiftLeft_zero, cut_half, bi32, inf32]

/-- The nearest word of a number that is told by its size. -/
theorem near_size (f : Format) (neg : Bool) (r : Nat) : f.nearest neg (magOf double r) (placeOf double r) = f.nearest neg (sizeOf double r) (-1074) := by
  by_cases h0 : r = 0
  · have e1 := (magOf_zero double r).2 h0
    rw [sizeOf_parts, e1, Nat.zero_mul, nearest_zero, nearest_zero]
  · have hm : magOf double r ≠ 0 := fun e => h0 ((magOf_zero double r).1 e)
    have hp := placeOf_ge double r
    rw [lp64] at hp
    rw [sizeOf_parts, nearest_shift f neg _ _ _ hm, lp64]
    congr 1
    omega

theorem RG_size (r : Nat) (h : r < 9218868437227405312) : RG 52 0 (sizeOf double r) = r := by
  have h1 := nearest_parts double false r (by rw [inf64]; exact h)
  rw [near_size, near64] at h1
  have := word_inj _ _ _ _ h1
  rcases Nat.le_total (RG 52 0 (sizeOf double r)) 9218868437227405312 with hq | hq
  · rw [Nat.min_eq_left hq] at this; exact this
  · rw [Nat.min_eq_right hq] at this; omega

/-- A signed whole number. -/
def sv (neg : Bool) (n : Nat) : Int := if neg then -(n : Int) else n

theorem compare_imul (a b : Int) (k : Nat) (hk : 0 < k) : compare (a * (k : Int)) (b * (k : Int)) = compare a b := by
  have hk' : (0 : Int) < (k : Int) := by omega
  rcases Int.lt_trichotomy a b with h | h | h
  · rw [Int.compare_eq_lt.2 h, Int.compare_eq_lt.2 (Int.mul_lt_mul_of_pos_right h hk')]
  · subst h; simp
  · rw [Int.compare_eq_gt.2 h, Int.compare_eq_gt.2 (Int.mul_lt_mul_of_pos_right h hk')]

theorem signed_size (f : Format) (s : Bool) (r : Nat) (base : Int) (h1 : f.leastPlace ≤ base) (h2 : base ≤ placeOf f r) :
    signed s (magOf f r) (placeOf f r - base).toNat * ((2 ^ (base - f.leastPlace).toNat : Nat) : Int) = sv s (sizeOf f r) := by
  have e : magOf f r <<< (placeOf f r - base).toNat * 2 ^ (base - f.leastPlace).toNat = sizeOf f r := by
    rw [sizeOf_parts, Nat.shiftLeft_eq, Nat.mul_assoc, ← Nat.pow_add]
    congr 2; omega
  unfold signed sv
  cases s
  · simp only [Bool.false_eq_true, if_false]
    rw [← Int.natCast_mul, e]
  · simp only [if_true]
    rw [Int.neg_mul, ← Int.natCast_mul, e]

theorem compare_sv_size (f : Format) (s t : Bool) (a b : Nat) : compare (sv s (sizeOf f a)) (sv t (sizeOf f b)) = compare (sv s a) (sv t b) := by
  have hb0 : 0 < f.binade := Nat.two_pow_pos _
  have h0 : sizeOf f 0 = 0 := by unfold sizeOf; rw [if_pos hb0]
  have hlt := fun {a b : Nat} (h : a < b) => sizeOf_lt f h
  have ha : a = 0 ∨ 0 < sizeOf f a := by
    rcases Nat.eq_zero_or_pos a with h | h
    · exact .inl h
    · right; have := hlt h; omega
  have hb : b = 0 ∨ 0 < sizeOf f b := by
    rcases Nat.eq_zero_or_pos b with h | h
    · exact .inl h
    · right; have := hlt h; omega
  have hz : a = 0 → sizeOf f a = 0 := fun h => by rw [h]; exact h0
  have hz' : b = 0 → sizeOf f b = 0 := fun h => by rw [h]; exact h0
  have hab : a < b → sizeOf f a < sizeOf f b := hlt
  have hba : b < a → sizeOf f b < sizeOf f a := hlt
  have heq : a = b → sizeOf f a = sizeOf f b := fun h => by rw [h]
  generalize sizeOf f a = A at *
  generalize sizeOf f b = B at *
  rcases Int.lt_trichotomy (sv s a) (sv t b) with h | h | h
  · have : sv s A < sv t B := by
      unfold sv at *
      cases s <;> cases t <;> simp only [Bool.false_eq_true, if_false, if_true] at * <;> omega
    rw [Int.compare_eq_lt.2 h, Int.compare_eq_lt.2 this]
  · have : sv s A = sv t B := by
      unfold sv at *
      cases s <;> cases t <;> simp only [Bool.false_eq_true, if_false, if_true] at * <;> omega
    rw [h, this]; simp
  · have : sv t B < sv s A := by
      unfold sv at *
      cases s <;> cases t <;> simp only [Bool.false_eq_true, if_false, if_true] at * <;> omega
    rw [Int.compare_eq_gt.2 h, Int.compare_eq_gt.2 this]

/-- How two words of numbers stand: as their rungs with the signs. -/
theorem ord_gen (f : Format) (s t : Bool) (a b : Nat) (ha : a ≤ f.infRung) (hb : b ≤ f.infRung) (hbi : f.binade ≤ f.infRung) (hi0 : 0 < f.infRung) :
    f.order (f.word s a) (f.word t b) = some (compare (sv s a) (sv t b)) := by
  unfold Format.order
  rcases Nat.lt_or_ge a f.infRung with h1 | h1
  · rcases Nat.lt_or_ge b f.infRung with h2 | h2
    · rw [read_number f s a h1, read_number f t b h2]
      simp only [Datum.order]
      have g1 := placeOf_ge f a
      have g2 := placeOf_ge f b
      rw [← compare_imul _ _ (2 ^ (min (placeOf f a) (placeOf f b) - f.leastPlace).toNat) (Nat.two_pow_pos _), signed_size f s a _ (by omega) (by omega), signed_size f t b _ (by omega) (by omega), compare_sv_size]
    · obtain rfl : b = f.infRung := by omega
      rw [read_number f s a h1, read_inf f t hbi]
      simp only [Datum.order]
      unfold sv
      cases s <;> cases t <;> simp only [Bool.false_eq_true, if_false, if_true]
      · rw [Int.compare_eq_lt.2 (by omega)]
      · rw [Int.compare_eq_gt.2 (by omega)]
      · rw [Int.compare_eq_lt.2 (by omega)]
      · rw [Int.compare_eq_gt.2 (by omega)]
  · obtain rfl : a = f.infRung := by omega
    rcases Nat.lt_or_ge b f.infRung with h2 | h2
    · rw [read_number f t b h2, read_inf f s hbi]
      simp only [Datum.order]
      unfold sv
      cases s <;> cases t <;> simp only [Bool.false_eq_true, if_false, if_true]
      · rw [Int.compare_eq_gt.2 (by omega)]
      · rw [Int.compare_eq_gt.2 (by omega)]
      · rw [Int.compare_eq_lt.2 (by omega)]
      · rw [Int.compare_eq_lt.2 (by omega)]
    · obtain rfl : b = f.infRung := by omega
      rw [read_inf f s hbi, read_inf f t hbi]
      simp only [Datum.order]
      unfold sv
      cases s <;> cases t <;> simp only [Bool.false_eq_true, if_false, if_true, Bool.toNat_false, Bool.toNat_true]
      · simp
      · rw [Int.compare_eq_gt.2 (by omega)]; rfl
      · rw [Int.compare_eq_lt.2 (by omega)]; rfl
      · simp

/-- The difference of two finite numbers: the nearest one of the exact difference. -/
theorem sub_fin (s t : Bool) (a b : Nat) (ha : a < 9218868437227405312) (hb : b < 9218868437227405312) : ∃ neg, double.sub (double.word s a) (double.word t b) = some (double.word neg (min (RG 52 0 (sv s (sizeOf double a) - sv t (sizeOf double b)).natAbs) 9218868437227405312)) ∧ (sv s (sizeOf double a) - sv t (sizeOf double b) ≠ 0 → neg = decide (sv s (sizeOf double a) - sv t (sizeOf double b) < 0)) := by
  unfold Format.sub
  rw [read_number double s a (by rw [inf64]; exact ha), read_number double t b (by rw [inf64]; exact hb)]
  have g1 := placeOf_ge double a
  have g2 := placeOf_ge double b
  have e1 := signed_size double s a (min (placeOf double a) (placeOf double b)) (by omega) (by omega)
  have e2 := signed_size double t b (min (placeOf double a) (placeOf double b)) (by omega) (by omega)
  have hopp : signed (!t) (magOf double b) (placeOf double b - min (placeOf double a) (placeOf double b)).toNat = - signed t (magOf double b) (placeOf double b - min (placeOf double a) (placeOf double b)).toNat := by
    unfold signed; cases t <;> simp
  simp only [Datum.opposite, Datum.sum, Option.map_some, Format.write]
  rw [hopp]
  rw [lp64] at g1 g2 e1 e2
  generalize signed s (magOf double a) (placeOf double a - min (placeOf double a) (placeOf double b)).toNat = S at *
  generalize signed t (magOf double b) (placeOf double b - min (placeOf double a) (placeOf double b)).toNat = T at *
  rw [← e1, ← e2]
  have hk := Nat.two_pow_pos (min (placeOf double a) (placeOf double b) - -1074).toNat
  have hmul : S * ((2 ^ (min (placeOf double a) (placeOf double b) - -1074).toNat : Nat) : Int) - T * ((2 ^ (min (placeOf double a) (placeOf double b) - -1074).toNat : Nat) : Int) = (S + -T) * ((2 ^ (min (placeOf double a) (placeOf double b) - -1074).toNat : Nat) : Int) := by
    rw [← Int.sub_mul]; rfl
  rw [hmul]
  generalize hD : S + -T = D
  refine ⟨if D = 0 then s && !t else decide (D < 0), ?_, ?_⟩
  · congr 1
    rw [Int.natAbs_mul, Int.natAbs_natCast, ← near64]
    by_cases h0 : D.natAbs = 0
    · rw [h0, Nat.zero_mul, nearest_zero, nearest_zero]
    · rw [nearest_shift double _ _ _ _ h0]
      congr 1
      omega
  · intro hne
    have hD0 : D ≠ 0 := by
      intro e; rw [e, Int.zero_mul] at hne; exact hne rfl
    rw [if_neg hD0, decide_eq_decide]
    have hk' : (0 : Int) < ((2 ^ (min (placeOf double a) (placeOf double b) - -1074).toNat : Nat) : Int) := by omega
    constructor
    · intro h; exact Int.mul_neg_of_neg_of_pos h hk'
    · intro h
      rcases Int.lt_trichotomy D 0 with h1 | h1 | h1
      · exact h1
      · exact absurd h1 hD0
      · exact absurd (Int.mul_pos h1 hk') (by omega)

end Fl
end Go.Proofs.YtfcbjcebkahehaaGreatDoor
namespace Go.Proofs.YtfcbjcebkahehaaGreatDoor
namespace Fl
open Ieee

theorem near32s (neg : Bool) (N s : Nat) : single.nearest neg N (-149 - (s : Int)) = single.word neg (min (RG 23 s N) 2139095040) := by
  by_cases h0 : N = 0
  · subst h0
    rw [nearest_zero]
    rw [RG_zero]; rfl
  · unfold Format.nearest RG
    rw [if_neg h0]
    have hl : max (-149 - (s : Int) + (N.log2 : Int) - (single.fractionBits : Int)) single.leastPlace = -149 + ((N.log2 - (23 + s) : Nat) : Int) := by
      rw [fb32, lp32]; omega
    dsimp only
    rw [hl]
    have e1 : (-149 - (s : Int) - (-149 + ((N.log2 - (23 + s) : Nat) : Int))).toNat = 0 := by omega
    have e2 : (-149 + ((N.log2 - (23 + s) : Nat) : Int) - (-149 - (s : Int))).toNat = N.log2 - (23 + s) + s := by omega
    have e3 : (-149 + ((N.log2 - (23 + s) : Nat) : Int) - single.leastPlace).toNat = N.log2 - (23 + s) := by rw [lp32]; omega
    rw [e1, e2, e3, Nat.shiftLeft_zero, cut_half, bi32, inf32]
theorem near32z (neg : Bool) (N : Nat) : single.nearest neg N (-149) = single.word neg (min (RG 23 0 N) 2139095040) := near32s neg N 0
theorem near_size32 (f : Format) (neg : Bool) (r : Nat) (k : Int) : f.nearest neg (magOf single r) (placeOf single r + k) = f.nearest neg (sizeOf single r) (-149 + k) := by
  by_cases h0 : r = 0
  · have e1 := (magOf_zero single r).2 h0
    rw [sizeOf_parts, e1, Nat.zero_mul, nearest_zero, nearest_zero]
  · have hm : magOf single r ≠ 0 := fun e => h0 ((magOf_zero single r).1 e)
    have hp := placeOf_ge single r
    rw [lp32] at hp
    rw [sizeOf_parts, nearest_shift f neg _ _ _ hm, lp32]
    congr 1
    omega
theorem RG_size32 (r : Nat) (h : r < 2139095040) : RG 23 0 (sizeOf single r) = r := by
  have h1 := nearest_parts single false r (by rw [inf32]; exact h)
  have h2 := near_size32 single false r 0
  rw [Int.add_zero, Int.add_zero, near32z] at h2
  rw [h2] at h1
  have := word_inj _ _ _ _ h1
  rcases Nat.le_total (RG 23 0 (sizeOf single r)) 2139095040 with hq | hq
  · rw [Nat.min_eq_left hq] at this; exact this
  · rw [Nat.min_eq_right hq] at this; omega
theorem RG_scale (b s N : Nat) : RG b s (N * 2 ^ s) = RG b 0 N := by
  by_cases h0 : N = 0
  · subst h0; rw [Nat.zero_mul, RG_zero, RG_zero]
  · unfold RG
    rw [log2_mul_pow N s h0, show N.log2 + s - (b + s) = N.log2 - (b + 0) by omega, ← cut_half false, cut_mul false N _ s h0, cut_half, Nat.add_zero, Nat.add_zero]
theorem RG_sizes (r s : Nat) (h : r < 2139095040) : RG 23 s (sizeOf single r * 2 ^ s) = r := by rw [RG_scale, RG_size32 r h]
theorem RG_le {N r s : Nat} (h : N ≤ sizeOf single r * 2 ^ s) (hr : r < 2139095040) : RG 23 s N ≤ r := by
  have := RG_mono 23 s _ _ h
  rwa [RG_sizes r s hr] at this
theorem RG_ge {N r s : Nat} (h : sizeOf single r * 2 ^ s ≤ N) (hr : r < 2139095040) : r ≤ RG 23 s N := by
  have := RG_mono 23 s _ _ h
  rwa [RG_sizes r s hr] at this
theorem size_le {r r' : Nat} (h : r ≤ r') : sizeOf single r ≤ sizeOf single r' := by
  rcases Nat.lt_or_ge r r' with h1 | h1
  · exact Nat.le_of_lt (sizeOf_lt single h1)
  · have : r = r' := by omega
    rw [this]; exact Nat.le_refl _
theorem size_le' {r r' : Nat} (h : sizeOf single r ≤ sizeOf single r') : r ≤ r' := by
  rcases Nat.lt_or_ge r' r with h1 | h1
  · have := sizeOf_lt single h1; omega
  · exact h1
theorem size0 : sizeOf single 0 = 0 := by unfold sizeOf; rw [bi32]; rfl
theorem size1 : sizeOf single 1 = 1 := by unfold sizeOf; rw [bi32]; rfl

/-- A sum of two finite ones. -/
theorem add_fin (s t : Bool) (a b : Nat) (ha : a < 2139095040) (hb : b < 2139095040) : ∃ neg, single.add (single.word s a) (single.word t b) = some (single.word neg (min (RG 23 0 (sv s (sizeOf single a) + sv t (sizeOf single b)).natAbs) 2139095040)) ∧
    (sv s (sizeOf single a) + sv t (sizeOf single b) ≠ 0 → neg = decide (sv s (sizeOf single a) + sv t (sizeOf single b) < 0)) ∧ (sv s (sizeOf single a) + sv t (sizeOf single b) = 0 → neg = (s && t)) := by
  unfold Format.add
  rw [read_number single s a (by rw [inf32]; exact ha), read_number single t b (by rw [inf32]; exact hb)]
  have g1 := placeOf_ge single a
  have g2 := placeOf_ge single b
  have e1 := signed_size single s a (min (placeOf single a) (placeOf single b)) (by omega) (by omega)
  have e2 := signed_size single t b (min (placeOf single a) (placeOf single b)) (by omega) (by omega)
  simp only [Datum.sum, Option.map_some, Format.write]
  rw [lp32] at g1 g2 e1 e2
  generalize signed s (magOf single a) (placeOf single a - min (placeOf single a) (placeOf single b)).toNat = S at *
  generalize signed t (magOf single b) (placeOf single b - min (placeOf single a) (placeOf single b)).toNat = T at *
  rw [← e1, ← e2]
  have hk := Nat.two_pow_pos (min (placeOf single a) (placeOf single b) - -149).toNat
  have hmul : S * ((2 ^ (min (placeOf single a) (placeOf single b) - -149).toNat : Nat) : Int) + T * ((2 ^ (min (placeOf single a) (placeOf single b) - -149).toNat : Nat) : Int) = (S + T) * ((2 ^ (min (placeOf single a) (placeOf single b) - -149).toNat : Nat) : Int) := by
    rw [← Int.add_mul]
  rw [hmul]
  generalize hD : S + T = D
  refine ⟨if D = 0 then s && t else decide (D < 0), ?_, ?_, ?_⟩
  · congr 1
    rw [Int.natAbs_mul, Int.natAbs_natCast, ← near32z]
    by_cases h0 : D.natAbs = 0
    · rw [h0, Nat.zero_mul, nearest_zero, nearest_zero]
    · rw [nearest_shift single _ _ _ _ h0]
      congr 1
      omega
  · intro hne
    have hD0 : D ≠ 0 := by
      intro e; rw [e, Int.zero_mul] at hne; exact hne rfl
    rw [if_neg hD0, decide_eq_decide]
    have hk' : (0 : Int) < ((2 ^ (min (placeOf single a) (placeOf single b) - -149).toNat : Nat) : Int) := by omega
    constructor
    · intro h; exact Int.mul_neg_of_neg_of_pos h hk'
    · intro h
      rcases Int.lt_trichotomy D 0 with h1 | h1 | h1
      · exact h1
      · exact absurd h1 hD0
      · exact absurd (Int.mul_pos h1 hk') (by omega)
  · intro he
    have hk' : ((2 ^ (min (placeOf single a) (placeOf single b) - -149).toNat : Nat) : Int) ≠ 0 := by omega
    rcases Int.mul_eq_zero.1 he with h1 | h1
    · rw [if_pos h1]
    · exact absurd h1 hk'
theorem sub_add (x : Nat) (t : Bool) (b : Nat) (hb : b < 2139095040) : single.sub x (single.word t b) = single.add x (single.word (!t) b) := by
  unfold Format.sub Format.add
  rw [read_number single t b (by rw [inf32]; exact hb), read_number single (!t) b (by rw [inf32]; exact hb)]
  rfl
/-- x - a, of two that are not below 0 -/
theorem sub_pos (x a : Nat) (hx : x < 2139095040) (ha : a < 2139095040) :
    (a ≤ x → single.sub x a = some (single.word false (RG 23 0 (sizeOf single x - sizeOf single a)))) ∧ (x < a → single.sub x a = some (single.word true (RG 23 0 (sizeOf single a - sizeOf single x)))) := by
  have h1 := sub_add x false a ha
  obtain ⟨neg, h2, h3, h4⟩ := add_fin false true x a hx ha
  have hw : single.word false a = a := rfl
  have hw2 : single.word false x = x := rfl
  rw [hw] at h1
  rw [hw2] at h2
  rw [h1, show (!false) = true from rfl, h2]
  have e1 : sv false (sizeOf single x) = (sizeOf single x : Int) := rfl
  have e2 : sv true (sizeOf single a) = -(sizeOf single a : Int) := rfl
  rw [e1, e2] at h3 h4 ⊢
  constructor
  · intro h
    have hs := size_le h
    have hn : ((sizeOf single x : Int) + -(sizeOf single a : Int)).natAbs = sizeOf single x - sizeOf single a := by omega
    have hr : RG 23 0 (sizeOf single x - sizeOf single a) ≤ x := RG_le (by omega) hx
    rw [hn, Nat.min_eq_left (by omega)]
    by_cases h0 : (sizeOf single x : Int) + -(sizeOf single a : Int) = 0
    · rw [h4 h0]; rfl
    · rw [h3 h0]
      have : decide ((sizeOf single x : Int) + -(sizeOf single a : Int) < 0) = false := by simp; omega
      rw [this]
  · intro h
    have hs := sizeOf_lt single h
    have hn : ((sizeOf single x : Int) + -(sizeOf single a : Int)).natAbs = sizeOf single a - sizeOf single x := by omega
    have hr : RG 23 0 (sizeOf single a - sizeOf single x) ≤ a := RG_le (by omega) ha
    rw [hn, Nat.min_eq_left (by omega), h3 (by omega)]
    have : decide ((sizeOf single x : Int) + -(sizeOf single a : Int) < 0) = true := by simp; omega
    rw [this]
/-- a + p, and a - p where p is not above a -/
theorem add_pos (a p : Nat) (ha : a < 2139095040) (hp : p < 2139095040) (h : RG 23 0 (sizeOf single a + sizeOf single p) < 2139095040) : single.add a (single.word false p) = some (RG 23 0 (sizeOf single a + sizeOf single p)) := by
  obtain ⟨neg, h2, h3, h4⟩ := add_fin false false a p ha hp
  have hw2 : single.word false a = a := rfl
  rw [hw2] at h2
  have e1 : ∀ n, sv false n = (n : Int) := fun _ => rfl
  rw [e1, e1] at h2 h3 h4
  have hn : ((sizeOf single a : Int) + (sizeOf single p : Int)).natAbs = sizeOf single a + sizeOf single p := by omega
  rw [h2, hn, Nat.min_eq_left (by omega)]
  by_cases h0 : (sizeOf single a : Int) + (sizeOf single p : Int) = 0
  · rw [h4 h0]; rfl
  · rw [h3 h0]
    have : decide ((sizeOf single a : Int) + (sizeOf single p : Int) < 0) = false := by simp; omega
    rw [this]; rfl
theorem add_neg (a p : Nat) (ha : a < 2139095040) (hp : p ≤ a) : single.add a (single.word true p) = some (RG 23 0 (sizeOf single a - sizeOf single p)) := by
  have h1 := sub_add a false p (by omega)
  rw [show (!false) = true from rfl] at h1
  rw [← h1]
  have hw : single.word false p = p := rfl
  rw [hw, (sub_pos a p ha (by omega)).1 hp]
  rfl
/-- a quotient by 2 to the k -/
theorem div_pow (c k : Nat) (hc : single.read c = .number false 8388608 ((k : Int) - 23)) (s : Bool) (a : Nat) (ha : a < 2139095040) : single.div (single.word s a) c = some (single.word s (min (RG 23 k (sizeOf single a)) 2139095040)) := by
  have hm := magOf_lt single a
  have hl := log2_le single _ hm
  have hr := read_number single s a (by rw [inf32]; exact ha)
  have hns := near_size32 single s a (-(k : Int))
  rw [show -149 + -(k : Int) = -149 - (k : Int) by omega, near32s] at hns
  rw [← hns]
  unfold Format.div
  rw [hr, hc]
  rw [fb32] at hl
  have hbl : (8388608 : Nat).log2 = 23 := by decide
  simp only [Datum.quotient, if_neg (by decide : ¬ (8388608 : Nat) = 0), Option.map_some, Format.write, Bool.xor_false, hbl, fb32]
  generalize hmore : 23 + 2 + 23 - (magOf single a).log2 = more
  generalize hmm : magOf single a = m at *
  have e : m <<< more = m * 2 ^ (more - 23) * 8388608 := by
    rw [Nat.shiftLeft_eq, Nat.mul_assoc, show (8388608 : Nat) = 2 ^ 23 from by decide, ← Nat.pow_add]
    congr 2; omega
  rw [e, Nat.mul_div_cancel _ (by decide), Nat.mul_mod_left]
  by_cases h0 : m = 0
  · subst h0; simp [nearest_zero]
  · have e2 : 2 * (m * 2 ^ (more - 23)) + (0 != 0).toNat = m * 2 ^ (more - 23 + 1) := by
      rw [Nat.pow_succ, Nat.mul_comm 2, Nat.mul_assoc]; simp
    rw [e2, nearest_shift single s m _ _ h0]
    congr 2; omega
end Fl
end Go.Proofs.YtfcbjcebkahehaaGreatDoor
namespace Go.Proofs.YtfcbjcebkahehaaGreatDoor
namespace Fl
open Ieee
theorem mul_four (a : Nat) (ha : a < 2139095040) : single.mul 1082130432 a = some (min (RG 23 0 (4 * sizeOf single a)) 2139095040) := by
  have hr := read_number single false a (by rw [inf32]; exact ha)
  have h4 : single.read 1082130432 = .number false 8388608 (-21) := by decide
  have hw : single.word false a = a := rfl
  rw [hw] at hr
  have hns := near_size32 single false a 2
  have hsh : single.nearest false (4 * sizeOf single a) (-149) = single.nearest false (sizeOf single a) (-149 + 2) := by
    by_cases h0 : sizeOf single a = 0
    · rw [h0, nearest_zero, nearest_zero]
    · have := nearest_shift single false (sizeOf single a) 2 (-149) h0
      rw [show sizeOf single a * 2 ^ 2 = 4 * sizeOf single a by omega] at this
      exact this
  rw [near32z] at hsh
  have hw2 : single.word false (min (RG 23 0 (4 * sizeOf single a)) 2139095040) = min (RG 23 0 (4 * sizeOf single a)) 2139095040 := word_false _ _
  rw [← hw2, hsh, ← hns]
  unfold Format.mul
  rw [hr, h4]
  show some (single.nearest (false ^^ false) (8388608 * magOf single a) (-21 + placeOf single a)) = _
  have e3 : (8388608 : Nat) = 2 ^ 23 := by decide
  have e2 : (8388608 * magOf single a) = magOf single a * 2 ^ 23 := by rw [e3, Nat.mul_comm]
  by_cases h0 : magOf single a = 0
  · rw [h0]; simp [nearest_zero]
  · rw [e2, nearest_shift single _ _ _ _ h0]
    congr 2; omega
end Fl
end Go.Proofs.YtfcbjcebkahehaaGreatDoor
