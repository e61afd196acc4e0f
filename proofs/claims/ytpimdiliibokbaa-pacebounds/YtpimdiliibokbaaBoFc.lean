/- Plain: rounding does not fall; how words of numbers stand; differences; the nearest narrow number is at least as near as its neighbours. -/
import Derived.Test.YtpimdiliibokbaaBoFb
namespace Go.Proofs.Ytpimdiliibokbaa
namespace Fl
open Ieee

theorem half_mono (n n' d : Nat) (h : n ≤ n') : half n d ≤ half n' d := by
  have hp := Nat.two_pow_pos d
  have h1 := Nat.div_add_mod n (2 ^ d)
  have h2 := Nat.div_add_mod n' (2 ^ d)
  have h3 := Nat.mod_lt n hp
  have h4 := Nat.mod_lt n' hp
  have hq : n / 2 ^ d ≤ n' / 2 ^ d := Nat.div_le_div_right h
  unfold half
  generalize n / 2 ^ d = q at *
  generalize n' / 2 ^ d = q' at *
  generalize n % 2 ^ d = r at *
  generalize n' % 2 ^ d = r' at *
  generalize 2 ^ d = U at *
  rcases Nat.lt_or_ge q q' with hlt | hge
  · split <;> split <;> omega
  · obtain rfl : q = q' := by omega
    have hr : r ≤ r' := by omega
    by_cases hc : U < 2 * r ∨ (U = 2 * r ∧ q % 2 = 1)
    · rw [if_pos hc, if_pos (by omega)]; omega
    · rw [if_neg hc]; omega

/-- The rung of the nearest number of b fraction bits, s places above the unit. -/
def RG (b s N : Nat) : Nat := (N.log2 - (b + s)) * 2 ^ b + half N (N.log2 - (b + s) + s)

theorem log2_mono (n m : Nat) (h : n ≤ m) : n.log2 ≤ m.log2 := by
  by_cases h0 : n = 0
  · subst h0; simp
  · have hm : m ≠ 0 := by omega
    rcases Nat.lt_or_ge m.log2 n.log2 with hl | hl
    · have := (Nat.log2_lt hm).1 hl
      have h2 := Nat.log2_self_le h0
      omega
    · exact hl

theorem half_zero (d : Nat) : half 0 d = 0 := by
  have hp := Nat.two_pow_pos d
  unfold half
  rw [Nat.zero_div, Nat.zero_mod]
  generalize 2 ^ d = z at *
  rw [if_neg (by omega)]
theorem RG_zero (b s : Nat) : RG b s 0 = 0 := by
  have e1 : (0 : Nat).log2 = 0 := by simp
  unfold RG
  rw [e1, Nat.zero_sub, Nat.zero_mul, half_zero]

theorem RG_mono (b s N N' : Nat) (h : N ≤ N') : RG b s N ≤ RG b s N' := by
  unfold RG
  have hl := log2_mono N N' h
  by_cases h0 : N = 0
  · subst h0
    have e1 : (0 : Nat).log2 = 0 := by simp
    rw [e1, Nat.zero_sub, Nat.zero_mul]
    rw [half_zero]; omega
  have h0' : N' ≠ 0 := by omega
  have hlo' := Nat.log2_self_le h0'
  have hhi := @Nat.lt_log2_self N
  by_cases he : N.log2 - (b + s) = N'.log2 - (b + s)
  · rw [he]
    exact Nat.add_le_add_left (half_mono N N' _ h) _
  · have he2 : N.log2 - (b + s) + 1 ≤ N'.log2 - (b + s) := by omega
    have hge : 2 ^ b ≤ half N' (N'.log2 - (b + s) + s) := by
      apply half_ge
      rw [← Nat.pow_add]
      exact Nat.le_trans (Nat.pow_le_pow_right (by omega) (by omega)) hlo'
    have hle : half N (N.log2 - (b + s) + s) ≤ 2 * 2 ^ b := by
      apply half_lt
      rw [← Nat.pow_succ', ← Nat.pow_add]
      exact Nat.lt_of_lt_of_le hhi (Nat.pow_le_pow_right (by omega) (by omega))
    have hm : (N.log2 - (b + s) + 1) * 2 ^ b ≤ (N'.log2 - (b + s)) * 2 ^ b := Nat.mul_le_mul_right _ he2
    rw [Nat.add_mul, Nat.one_mul] at hm
    omega

theorem near64 (neg : Bool) (N : Nat) : double.nearest neg N (-1074) = double.word neg (min (RG 52 0 N) 9218868437227405312) := by
  by_cases h0 : N = 0
  · subst h0
    rw [nearest_zero]
    rw [RG_zero]; rfl
  · unfold Format.nearest RG
    rw [if_neg h0]
    have hl : max (-1074 + (N.log2 : Int) - (double.fractionBits : Int)) double.leastPlace = -1074 + ((N.log2 - (52 + 0) : Nat) : Int) := by
      rw [fb64, lp64]; omega
    dsimp only
    rw [hl]
    have e1 : (-1074 - (-1074 + ((N.log2 - (52 + 0) : Nat) : Int))).toNat = 0 := by omega
    have e2 : (-1074 + ((N.log2 - (52 + 0) : Nat) : Int) - -1074).toNat = N.log2 - (52 + 0) + 0 := by omega
    have e3 : (-1074 + ((N.log2 - (52 + 0) : Nat) : Int) - double.leastPlace).toNat = N.log2 - (52 + 0) := by rw [lp64]; omega
    rw [e1, e2, e3, Nat.shiftLeft_zero, cut_half, bi64, inf64]

theorem near32 (neg : Bool) (N : Nat) : single.nearest neg N (-1074) = single.word neg (min (RG 23 925 N) 2139095040) := by
  by_cases h0 : N = 0
  · subst h0
    rw [nearest_zero]
    rw [RG_zero]; rfl
  · unfold Format.nearest RG
    rw [if_neg h0]
    have hl : max (-1074 + (N.log2 : Int) - (single.fractionBits : Int)) single.leastPlace = -149 + ((N.log2 - (23 + 925) : Nat) : Int) := by
      rw [fb32, lp32]; omega
    dsimp only
    rw [hl]
    have e1 : (-1074 - (-149 + ((N.log2 - (23 + 925) : Nat) : Int))).toNat = 0 := by omega
    have e2 : (-149 + ((N.log2 - (23 + 925) : Nat) : Int) - -1074).toNat = N.log2 - (23 + 925) + 925 := by omega
    have e3 : (-149 + ((N.log2 - (23 + 925) : Nat) : Int) - single.leastPlace).toNat = N.log2 - (23 + 925) := by rw [lp32]; omega
    rw [e1, e2, e3, Nat.shiftLeft_zero, cut_half, bi32, inf32]

/-- The nearest word of a number that is told by its size. -/
theorem near_size (f : Format) (neg : Bool) (r : Nat) : f.nearest neg (magOf double r) (placeOf double r) = f.nearest neg (sizeOf double r) (-1074) := by
  by_cases h0 : r = 0
  · have e1 := (magOf_zero double r).2 h0
    rw [sizeOf_parts, e1, Nat.zero_mul, nearest_zero, nearest_zero]
  · have hm : magOf double r ≠ 0 := fun e => h0 ((magOf_zero double r).1 e)
    have hp := placeOf_ge double r
    rw [lp64] at hp
    rw [sizeOf_parts, nearest_shift f neg _ _ _ hm, lp64]
    congr 1
    omega

theorem RG_size (r : Nat) (h : r < 9218868437227405312) : RG 52 0 (sizeOf double r) = r := by
  have h1 := nearest_parts double false r (by rw [inf64]; exact h)
  rw [near_size, near64] at h1
  have := word_inj _ _ _ _ h1
  rcases Nat.le_total (RG 52 0 (sizeOf double r)) 9218868437227405312 with hq | hq
  · rw [Nat.min_eq_left hq] at this; exact this
  · rw [Nat.min_eq_right hq] at this; omega

/-- A signed whole number. -/
def sv (neg : Bool) (n : Nat) : Int := if neg then -(n : Int) else n

theorem compare_imul (a b : Int) (k : Nat) (hk : 0 < k) : compare (a * (k : Int)) (b * (k : Int)) = compare a b := by
  have hk' : (0 : Int) < (k : Int) := by omega
  rcases Int.lt_trichotomy a b with h | h | h
  · rw [Int.compare_eq_lt.2 h, Int.compare_eq_lt.2 (Int.mul_lt_mul_of_pos_right h hk')]
  · subst h; simp
  · rw [Int.compare_eq_gt.2 h, Int.compare_eq_gt.2 (Int.mul_lt_mul_of_pos_right h hk')]

theorem signed_size (f : Format) (s : Bool) (r : Nat) (base : Int) (h1 : f.leastPlace ≤ base) (h2 : base ≤ placeOf f r) :
    signed s (magOf f r) (placeOf f r - base).toNat * ((2 ^ (base - f.leastPlace).toNat : Nat) : Int) = sv s (sizeOf f r) := by
  have e : magOf f r <<< (placeOf f r - base).toNat * 2 ^ (base - f.leastPlace).toNat = sizeOf f r := by
    rw [sizeOf_parts, Nat.shiftLeft_eq, Nat.mul_assoc, ← Nat.pow_add]
    congr 2; omega
  unfold signed sv
  cases s
  · simp only [Bool.false_eq_true, if_false]
    rw [← Int.natCast_mul, e]
  · simp only [if_true]
    rw [Int.neg_mul, ← Int.natCast_mul, e]

theorem compare_sv_size (f : Format) (s t : Bool) (a b : Nat) : compare (sv s (sizeOf f a)) (sv t (sizeOf f b)) = compare (sv s a) (sv t b) := by
  have hb0 : 0 < f.binade := Nat.two_pow_pos _
  have h0 : sizeOf f 0 = 0 := by unfold sizeOf; rw [if_pos hb0]
  have hlt := fun {a b : Nat} (h : a < b) => sizeOf_lt f h
  have ha : a = 0 ∨ 0 < sizeOf f a := by
    rcases Nat.eq_zero_or_pos a with h | h
    · exact .inl h
    · right; have := hlt h; omega
  have hb : b = 0 ∨ 0 < sizeOf f b := by
    rcases Nat.eq_zero_or_pos b with h | h
    · exact .inl h
    · right; have := hlt h; omega
  have hz : a = 0 → sizeOf f a = 0 := fun h => by rw [h]; exact h0
  have hz' : b = 0 → sizeOf f b = 0 := fun h => by rw [h]; exact h0
  have hab : a < b → sizeOf f a < sizeOf f b := hlt
  have hba : b < a → sizeOf f b < sizeOf f a := hlt
  have heq : a = b → sizeOf f a = sizeOf f b := fun h => by rw [h]
  generalize sizeOf f a = A at *
  generalize sizeOf f b = B at *
  rcases Int.lt_trichotomy (sv s a) (sv t b) with h | h | h
  · have : sv s A < sv t B := by
      unfold sv at *
      cases s <;> cases t <;> simp only [Bool.false_eq_true, if_false, if_true] at * <;> omega
    rw [Int.compare_eq_lt.2 h, Int.compare_eq_lt.2 this]
  · have : sv s A = sv t B := by
      unfold sv at *
      cases s <;> cases t <;> simp only [Bool.false_eq_true, if_false, if_true] at * <;> omega
    rw [h, this]; simp
  · have : sv t B < sv s A := by
      unfold sv at *
      cases s <;> cases t <;> simp only [Bool.false_eq_true, if_false, if_true] at * <;> omega
    rw [Int.compare_eq_gt.2 h, Int.compare_eq_gt.2 this]

/-- How two words of numbers stand: as their rungs with the signs. -/
theorem ord_gen (f : Format) (s t : Bool) (a b : Nat) (ha : a ≤ f.infRung) (hb : b ≤ f.infRung) (hbi : f.binade ≤ f.infRung) (hi0 : 0 < f.infRung) :
    f.order (f.word s a) (f.word t b) = some (compare (sv s a) (sv t b)) := by
  unfold Format.order
  rcases Nat.lt_or_ge a f.infRung with h1 | h1
  · rcases Nat.lt_or_ge b f.infRung with h2 | h2
    · rw [read_number f s a h1, read_number f t b h2]
      simp only [Datum.order]
      have g1 := placeOf_ge f a
      have g2 := placeOf_ge f b
      rw [← compare_imul _ _ (2 ^ (min (placeOf f a) (placeOf f b) - f.leastPlace).toNat) (Nat.two_pow_pos _), signed_size f s a _ (by omega) (by omega), signed_size f t b _ (by omega) (by omega), compare_sv_size]
    · obtain rfl : b = f.infRung := by omega
      rw [read_number f s a h1, read_inf f t hbi]
      simp only [Datum.order]
      unfold sv
      cases s <;> cases t <;> simp only [Bool.false_eq_true, if_false, if_true]
      · rw [Int.compare_eq_lt.2 (by omega)]
      · rw [Int.compare_eq_gt.2 (by omega)]
      · rw [Int.compare_eq_lt.2 (by omega)]
      · rw [Int.compare_eq_gt.2 (by omega)]
  · obtain rfl : a = f.infRung := by omega
    rcases Nat.lt_or_ge b f.infRung with h2 | h2
    · rw [read_number f t b h2, read_inf f s hbi]
      simp only [Datum.order]
      unfold sv
      cases s <;> cases t <;> simp only [Bool.false_eq_true, if_false, if_true]
      · rw [Int.compare_eq_gt.2 (by omega)]
      · rw [Int.compare_eq_gt.2 (by omega)]
      · rw [Int.compare_eq_lt.2 (by omega)]
      · rw [Int.compare_eq_lt.2 (by omega)]
    · obtain rfl : b = f.infRung := by omega
      rw [read_inf f s hbi, read_inf f t hbi]
      simp only [Datum.order]
      unfold sv
      cases s <;> cases t <;> simp only [Bool.false_eq_true, if_false, if_true, Bool.toNat_false, Bool.toNat_true]
      · simp
      · rw [Int.compare_eq_gt.2 (by omega)]; rfl
      · rw [Int.compare_eq_lt.2 (by omega)]; rfl
      · simp

/-- The difference of two finite numbers: the nearest one of the exact difference. -/
theorem sub_fin (s t : Bool) (a b : Nat) (ha : a < 9218868437227405312) (hb : b < 9218868437227405312) : ∃ neg, double.sub (double.word s a) (double.word t b) = some (double.word neg (min (RG 52 0 (sv s (sizeOf double a) - sv t (sizeOf double b)).natAbs) 9218868437227405312)) ∧ (sv s (sizeOf double a) - sv t (sizeOf double b) ≠ 0 → neg = decide (sv s (sizeOf double a) - sv t (sizeOf double b) < 0)) := by
  unfold Format.sub
  rw [read_number double s a (by rw [inf64]; exact ha), read_number double t b (by rw [inf64]; exact hb)]
  have g1 := placeOf_ge double a
  have g2 := placeOf_ge double b
  have e1 := signed_size double s a (min (placeOf double a) (placeOf double b)) (by omega) (by omega)
  have e2 := signed_size double t b (min (placeOf double a) (placeOf double b)) (by omega) (by omega)
  have hopp : signed (!t) (magOf double b) (placeOf double b - min (placeOf double a) (placeOf double b)).toNat = - signed t (magOf double b) (placeOf double b - min (placeOf double a) (placeOf double b)).toNat := by
    unfold signed; cases t <;> simp
  simp only [Datum.opposite, Datum.sum, Option.map_some, Format.write]
  rw [hopp]
  rw [lp64] at g1 g2 e1 e2
  generalize signed s (magOf double a) (placeOf double a - min (placeOf double a) (placeOf double b)).toNat = S at *
  generalize signed t (magOf double b) (placeOf double b - min (placeOf double a) (placeOf double b)).toNat = T at *
  rw [← e1, ← e2]
  have hk := Nat.two_pow_pos (min (placeOf double a) (placeOf double b) - -1074).toNat
  have hmul : S * ((2 ^ (min (placeOf double a) (placeOf double b) - -1074).toNat : Nat) : Int) - T * ((2 ^ (min (placeOf double a) (placeOf double b) - -1074).toNat : Nat) : Int) = (S + -T) * ((2 ^ (min (placeOf double a) (placeOf double b) - -1074).toNat : Nat) : Int) := by
    rw [← Int.sub_mul]; rfl
  rw [hmul]
  generalize hD : S + -T = D
  refine ⟨if D = 0 then s && !t else decide (D < 0), ?_, ?_⟩
  · congr 1
    rw [Int.natAbs_mul, Int.natAbs_natCast, ← near64]
    by_cases h0 : D.natAbs = 0
    · rw [h0, Nat.zero_mul, nearest_zero, nearest_zero]
    · rw [nearest_shift double _ _ _ _ h0]
      congr 1
      omega
  · intro hne
    have hD0 : D ≠ 0 := by
      intro e; rw [e, Int.zero_mul] at hne; exact hne rfl
    rw [if_neg hD0, decide_eq_decide]
    have hk' : (0 : Int) < ((2 ^ (min (placeOf double a) (placeOf double b) - -1074).toNat : Nat) : Int) := by omega
    constructor
    · intro h; exact Int.mul_neg_of_neg_of_pos h hk'
    · intro h
      rcases Int.lt_trichotomy D 0 with h1 | h1 | h1
      · exact h1
      · exact absurd h1 hD0
      · exact absurd (Int.mul_pos h1 hk') (by omega)

end Fl
end Go.Proofs.Ytpimdiliibokbaa
