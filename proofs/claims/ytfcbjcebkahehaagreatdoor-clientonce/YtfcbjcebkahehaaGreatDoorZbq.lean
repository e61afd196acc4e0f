/- Plain arithmetic of binary floating point: when a number is exact in a format, how halving and doubling act on it, how two of them stand to each other. Plain: what the nearest narrow number of a wide one is, by a quotient rounded half to even. Plain: rounding does not fall; how words of numbers stand; differences; the nearest narrow number is at least as near as its neighbours. Narrow numbers: sums, differences, quotients by powers of two; what lies between two numbers is rounded to what lies between them. Four times a narrow number. A narrow number goes towards another one by a part of what is missing: it stays between; whole numbers as narrow ones. Whole numbers of narrow ones: cut, and rounded up by the wide kind. -/
import Derived.Laws.FloatArith
namespace Go.Proofs.YtfcbjcebkahehaaGreatDoor
namespace Fl
open Ieee

theorem log2_mul_pow (m k : Nat) (hm : m ≠ 0) : (m * 2 ^ k).log2 = m.log2 + k := by
  have h1 : 2 ^ m.log2 ≤ m := Nat.log2_self_le hm
  have h2 : m < 2 ^ (m.log2 + 1) := Nat.lt_log2_self
  have hp : 0 < 2 ^ k := Nat.two_pow_pos k
  have h0 : m * 2 ^ k ≠ 0 := Nat.mul_ne_zero hm (by omega)
  rw [Nat.log2_eq_iff h0]
  refine ⟨?_, ?_⟩
  · rw [Nat.pow_add]; exact Nat.mul_le_mul_right _ h1
  · rw [show m.log2 + k + 1 = (m.log2 + 1) + k from by omega, Nat.pow_add]
    exact Nat.mul_lt_mul_of_pos_right h2 hp

theorem cut_zero (neg : Bool) (n : Nat) : Toward.even.cut neg n 0 = n := by
  simp [Toward.cut, Nat.mod_one]

theorem cut_mul (neg : Bool) (n drop k : Nat) (hn : n ≠ 0) : Toward.even.cut neg (n * 2 ^ k) (drop + k) = Toward.even.cut neg n drop := by
  have hp : 0 < 2 ^ k := Nat.two_pow_pos k
  unfold Toward.cut
  rw [log2_mul_pow n k hn]
  have hmin : min (drop + k) (n.log2 + k + 2) = min drop (n.log2 + 2) + k := by omega
  rw [hmin]
  simp only [Nat.one_shiftLeft, Nat.pow_add]
  generalize 2 ^ (min drop (n.log2 + 2)) = g
  have e1 : n * 2 ^ k / (g * 2 ^ k) = n / g := Nat.mul_div_mul_right _ _ hp
  have e2 : n * 2 ^ k % (g * 2 ^ k) = (n % g) * 2 ^ k := Nat.mul_mod_mul_right ..
  rw [e1, e2]
  generalize n % g = r
  generalize n / g = q
  have e3 : decide (g * 2 ^ k < 2 * (r * 2 ^ k)) = decide (g < 2 * r) := by
    rw [← Nat.mul_assoc, decide_eq_decide]
    exact Nat.mul_lt_mul_right hp
  have e4 : (g * 2 ^ k == 2 * (r * 2 ^ k)) = (g == 2 * r) := by
    rw [← Nat.mul_assoc, Bool.eq_iff_iff, beq_iff_eq, beq_iff_eq]
    constructor
    · intro h; exact Nat.eq_of_mul_eq_mul_right hp h
    · intro h; rw [h]
  rw [e3, e4]

theorem nearest_shift (f : Format) (neg : Bool) (m k : Nat) (p : Int) (hm : m ≠ 0) : f.nearest neg (m * 2 ^ k) p = f.nearest neg m (p + k) := by
  have hp : 0 < 2 ^ k := Nat.two_pow_pos k
  have h0 : m * 2 ^ k ≠ 0 := Nat.mul_ne_zero hm (by omega)
  unfold Format.nearest
  rw [if_neg hm, if_neg h0, log2_mul_pow m k hm]
  have hl : max (p + ((m.log2 + k : Nat) : Int) - (f.fractionBits : Int)) f.leastPlace = max (p + (k : Int) + (m.log2 : Int) - (f.fractionBits : Int)) f.leastPlace := by
    rw [Int.natCast_add]; congr 1; omega
  rw [hl]
  generalize max (p + (k : Int) + (m.log2 : Int) - (f.fractionBits : Int)) f.leastPlace = last
  have hk : Toward.even.cut neg ((m * 2 ^ k) <<< (p - last).toNat) (last - p).toNat = Toward.even.cut neg (m <<< (p + k - last).toNat) (last - (p + k)).toNat := by
    simp only [Nat.shiftLeft_eq]
    by_cases h1 : last ≤ p
    · have a1 : (last - p).toNat = 0 := by omega
      have a2 : (last - (p + (k : Int))).toNat = 0 := by omega
      have a3 : (p + (k : Int) - last).toNat = k + (p - last).toNat := by omega
      rw [a1, a2, a3, cut_zero, cut_zero, Nat.pow_add, Nat.mul_assoc]
    · by_cases h2 : last ≤ p + k
      · have a1 : (p - last).toNat = 0 := by omega
        have a2 : (last - (p + (k : Int))).toNat = 0 := by omega
        have a3 : k = (p + (k : Int) - last).toNat + (last - p).toNat := by omega
        rw [a1, a2, cut_zero, Nat.pow_zero, Nat.mul_one]
        generalize (p + (k : Int) - last).toNat = x at a3 ⊢
        generalize (last - p).toNat = y at a3 ⊢
        subst a3
        have hz : m * 2 ^ x ≠ 0 := Nat.mul_ne_zero hm (by have := Nat.two_pow_pos x; omega)
        have := cut_mul neg (m * 2 ^ x) 0 y hz
        rw [Nat.zero_add, cut_zero, Nat.mul_assoc, ← Nat.pow_add] at this
        exact this
      · have a1 : (p - last).toNat = 0 := by omega
        have a2 : (p + (k : Int) - last).toNat = 0 := by omega
        have a3 : (last - p).toNat = (last - (p + (k : Int))).toNat + k := by omega
        rw [a1, a2, a3, Nat.pow_zero, Nat.mul_one, Nat.mul_one, cut_mul neg m _ k hm]
  dsimp only
  rw [hk]

/-- The place of the last digit that a format keeps of a number. -/
def lastOf (f : Format) (m : Nat) (p : Int) : Int := max (p + m.log2 - f.fractionBits) f.leastPlace

theorem log2_le (f : Format) (m : Nat) (h : m < 2 ^ (f.fractionBits + 1)) : m.log2 ≤ f.fractionBits := by
  by_cases h0 : m = 0
  · subst h0; simp
  · have := (Nat.log2_lt h0).2 h; omega

theorem lastOf_le (f : Format) (m : Nat) (p : Int) (h : m < 2 ^ (f.fractionBits + 1)) (hp : f.leastPlace ≤ p) : lastOf f m p ≤ p := by
  have := log2_le f m h
  unfold lastOf; omega

/-- The rung of an exact number. -/
def rungOf (f : Format) (m : Nat) (p : Int) : Nat := (lastOf f m p - f.leastPlace).toNat * f.binade + m * 2 ^ (p - lastOf f m p).toNat

theorem nearest_exact (f : Format) (neg : Bool) (m : Nat) (p : Int) (hm : m ≠ 0) (h : m < 2 ^ (f.fractionBits + 1)) (hp : f.leastPlace ≤ p) :
    f.nearest neg m p = f.word neg (min (rungOf f m p) f.infRung) := by
  have hl := lastOf_le f m p h hp
  unfold Format.nearest rungOf
  rw [if_neg hm]
  show f.word neg (min ((lastOf f m p - f.leastPlace).toNat * f.binade + Toward.even.cut neg (m <<< (p - lastOf f m p).toNat) (lastOf f m p - p).toNat) f.infRung) = _
  have a1 : (lastOf f m p - p).toNat = 0 := by omega
  rw [a1, cut_zero, Nat.shiftLeft_eq]

theorem nearest_zero (f : Format) (neg : Bool) (p : Int) : f.nearest neg 0 p = f.word neg 0 := by
  unfold Format.nearest; rw [if_pos rfl]

theorem read_word (f : Format) (neg : Bool) (r : Nat) (h : r < f.signWeight) : f.read (f.word neg r) =
    if r < f.binade then .number neg r f.leastPlace
    else if r < f.infRung then .number neg (f.binade + r % f.binade) (f.leastPlace + (r / f.binade - 1 : Nat))
    else if r = f.infRung then .infinity neg else .nan neg (r - f.infRung) := by
  have hs : 0 < f.signWeight := Nat.two_pow_pos _
  unfold Format.read
  have e1 : f.word neg r % f.signWeight = r := by
    unfold Format.word; cases neg
    · simpa using Nat.mod_eq_of_lt h
    · simp only [if_true]; rw [Nat.add_mod_left, Nat.mod_eq_of_lt h]
  have e2 : (f.word neg r / f.signWeight % 2 == 1) = neg := by
    unfold Format.word; cases neg
    · simp [Nat.div_eq_of_lt h]
    · simp only [if_true]
      rw [Nat.add_div_left _ hs, Nat.div_eq_of_lt h]
      rfl
  simp only [e1, e2]

/-- Each word is that of a sign and a rung. -/
theorem word_of (f : Format) (x : Nat) (h : x < 2 ^ f.width) : ∃ neg r, r < f.signWeight ∧ x = f.word neg r := by
  have two : 2 ^ f.width = 2 * f.signWeight := by
    unfold Format.width Format.signWeight
    rw [Nat.add_assoc, Nat.add_comm 1, Nat.pow_succ, Nat.mul_comm]
  by_cases hx : x < f.signWeight
  · exact ⟨false, x, hx, by simp [Format.word]⟩
  · exact ⟨true, x - f.signWeight, by omega, by simp only [Format.word, if_true]; omega⟩

/-- What a rung that is a number's stands for. -/
def magOf (f : Format) (r : Nat) : Nat := if r < f.binade then r else f.binade + r % f.binade
def placeOf (f : Format) (r : Nat) : Int := if r < f.binade then f.leastPlace else f.leastPlace + (r / f.binade - 1 : Nat)

theorem read_number (f : Format) (neg : Bool) (r : Nat) (h : r < f.infRung) : f.read (f.word neg r) = .number neg (magOf f r) (placeOf f r) := by
  have := f.infRung_lt
  rw [read_word f neg r (by omega)]
  unfold magOf placeOf
  by_cases hb : r < f.binade
  · simp [hb]
  · simp [hb, h]

theorem binade_pow (f : Format) : 2 ^ (f.fractionBits + 1) = 2 * f.binade := by
  unfold Format.binade; rw [Nat.pow_succ]; omega

theorem magOf_lt (f : Format) (r : Nat) : magOf f r < 2 ^ (f.fractionBits + 1) := by
  have hb : 0 < f.binade := Nat.two_pow_pos _
  have := Nat.mod_lt r hb
  rw [binade_pow]
  unfold magOf; split <;> omega

theorem placeOf_ge (f : Format) (r : Nat) : f.leastPlace ≤ placeOf f r := by
  unfold placeOf; split <;> omega

theorem magOf_zero (f : Format) (r : Nat) : magOf f r = 0 ↔ r = 0 := by
  have hb : 0 < f.binade := Nat.two_pow_pos _
  unfold magOf; split
  · rfl
  · constructor <;> intro h <;> omega

theorem log2_binade (f : Format) (x : Nat) (h : x < f.binade) : (f.binade + x).log2 = f.fractionBits := by
  have hb : 0 < f.binade := Nat.two_pow_pos _
  rw [Nat.log2_eq_iff (by omega)]
  refine ⟨?_, ?_⟩
  · show f.binade ≤ _; omega
  · rw [binade_pow]; omega

/-- The rung of what a rung stands for is that rung. -/
theorem rungOf_parts (f : Format) (r : Nat) : rungOf f (magOf f r) (placeOf f r) = r := by
  have hb : 0 < f.binade := Nat.two_pow_pos _
  unfold rungOf
  have hl : lastOf f (magOf f r) (placeOf f r) = placeOf f r := by
    unfold lastOf magOf placeOf
    split
    · rename_i h
      have : r.log2 ≤ f.fractionBits := log2_le f r (by rw [binade_pow]; omega)
      omega
    · rw [log2_binade f _ (Nat.mod_lt r hb)]; omega
  rw [hl]
  unfold magOf placeOf
  split
  · simp
  · rename_i h
    have h1 : 1 ≤ r / f.binade := (Nat.one_le_div_iff hb).2 (by omega)
    have h2 := Nat.div_add_mod r f.binade
    have e : (f.leastPlace + ((r / f.binade - 1 : Nat) : Int) - f.leastPlace).toNat = r / f.binade - 1 := by omega
    rw [e, Int.sub_self, Int.toNat_zero, Nat.pow_zero, Nat.mul_one, Nat.sub_mul, Nat.one_mul, Nat.mul_comm (r / f.binade)]
    have : f.binade ≤ f.binade * (r / f.binade) := Nat.le_mul_of_pos_right _ (by omega)
    omega

theorem nearest_parts (f : Format) (neg : Bool) (r : Nat) (h : r < f.infRung) : f.nearest neg (magOf f r) (placeOf f r) = f.word neg r := by
  by_cases h0 : r = 0
  · rw [(magOf_zero f r).2 h0, nearest_zero, h0]
  · rw [nearest_exact f neg _ _ (fun e => h0 ((magOf_zero f r).1 e)) (magOf_lt f r) (placeOf_ge f r), rungOf_parts, Nat.min_eq_left (by omega)]

/-- An exact number is read as itself, shifted to the last place that is kept. -/
theorem parts_rungOf (f : Format) (m : Nat) (p : Int) (hm : m ≠ 0) (h : m < 2 ^ (f.fractionBits + 1)) (hp : f.leastPlace ≤ p) :
    magOf f (rungOf f m p) = m * 2 ^ (p - lastOf f m p).toNat ∧ placeOf f (rungOf f m p) = lastOf f m p := by
  have hb : 0 < f.binade := Nat.two_pow_pos _
  have hl := lastOf_le f m p h hp
  have hL : f.leastPlace ≤ lastOf f m p := by unfold lastOf; omega
  have hlog := log2_mul_pow m (p - lastOf f m p).toNat hm
  have hK0 : m * 2 ^ (p - lastOf f m p).toNat ≠ 0 := Nat.mul_ne_zero hm (by have := Nat.two_pow_pos (p - lastOf f m p).toNat; omega)
  have hlo := Nat.log2_self_le hK0
  have hhi := @Nat.lt_log2_self (m * 2 ^ (p - lastOf f m p).toNat)
  rw [hlog] at hlo hhi
  by_cases hc : f.leastPlace ≤ p + m.log2 - f.fractionBits
  · have hlast : lastOf f m p = p + m.log2 - f.fractionBits := by unfold lastOf; omega
    have hs : m.log2 + (p - lastOf f m p).toNat = f.fractionBits := by
      have := log2_le f m h
      rw [hlast]; omega
    rw [hs] at hlo hhi
    rw [binade_pow] at hhi
    have hlo' : f.binade ≤ m * 2 ^ (p - lastOf f m p).toNat := hlo
    clear hlo
    unfold rungOf
    generalize m * 2 ^ (p - lastOf f m p).toNat = K at *
    have hn : ¬ ((lastOf f m p - f.leastPlace).toNat * f.binade + K < f.binade) := by omega
    have hdiv : ((lastOf f m p - f.leastPlace).toNat * f.binade + K) / f.binade = (lastOf f m p - f.leastPlace).toNat + 1 := by
      rw [Nat.mul_comm, Nat.mul_add_div hb, Nat.div_eq_of_lt_le (k := 1) (by omega) (by omega)]
    have hmod : ((lastOf f m p - f.leastPlace).toNat * f.binade + K) % f.binade = K - f.binade := by
      rw [Nat.mul_comm, Nat.mul_add_mod, Nat.mod_eq_sub_mod hlo', Nat.mod_eq_of_lt (by omega)]
    unfold magOf placeOf
    rw [if_neg hn, if_neg hn, hdiv, hmod]
    exact ⟨by omega, by omega⟩
  · have hlast : lastOf f m p = f.leastPlace := by unfold lastOf; omega
    have hs : m.log2 + (p - lastOf f m p).toNat + 1 ≤ f.fractionBits := by rw [hlast]; omega
    have hK : m * 2 ^ (p - lastOf f m p).toNat < f.binade := Nat.lt_of_lt_of_le hhi (Nat.pow_le_pow_right (by omega) hs)
    unfold rungOf
    have e : (lastOf f m p - f.leastPlace).toNat = 0 := by omega
    rw [e, Nat.zero_mul, Nat.zero_add]
    unfold magOf placeOf
    rw [if_pos hK, if_pos hK]
    exact ⟨rfl, hlast.symm⟩

theorem read_nearest (f : Format) (neg : Bool) (m : Nat) (p : Int) (hm : m ≠ 0) (h : m < 2 ^ (f.fractionBits + 1)) (hp : f.leastPlace ≤ p) (hr : rungOf f m p < f.infRung) :
    f.read (f.nearest neg m p) = .number neg (m * 2 ^ (p - lastOf f m p).toNat) (lastOf f m p) := by
  rw [nearest_exact f neg m p hm h hp, Nat.min_eq_left (by omega), read_number f neg _ hr, (parts_rungOf f m p hm h hp).1, (parts_rungOf f m p hm h hp).2]

theorem binade_ne (f : Format) : f.binade ≠ 0 := by have : 0 < f.binade := Nat.two_pow_pos _; omega

theorem mul_two (f : Format) (two : Nat) (h2 : f.read two = .number false f.binade (1 - f.fractionBits)) (x : Nat) (s : Bool) (m : Nat) (i : Int) (hx : f.read x = .number s m i) :
    f.mul x two = some (f.nearest s m (i + 1)) := by
  unfold Format.mul
  rw [hx, h2]
  simp only [Datum.product, Option.map_some, Format.write, Bool.xor_false]
  by_cases h0 : m = 0
  · subst h0; rw [Nat.zero_mul, nearest_zero, nearest_zero]
  · unfold Format.binade
    rw [nearest_shift f s m _ _ h0]
    congr 2; omega

theorem div_two (f : Format) (two : Nat) (h2 : f.read two = .number false f.binade (1 - f.fractionBits)) (x : Nat) (s : Bool) (m : Nat) (i : Int) (hx : f.read x = .number s m i) (hm : m < 2 ^ (f.fractionBits + 1)) :
    f.div x two = some (f.nearest s m (i - 1)) := by
  have hl := log2_le f m hm
  have hb : 0 < f.binade := Nat.two_pow_pos _
  unfold Format.div
  rw [hx, h2]
  have hbl : f.binade.log2 = f.fractionBits := by
    have := log2_binade f 0 hb
    simpa using this
  simp only [Datum.quotient, if_neg (binade_ne f), Option.map_some, Format.write, Bool.xor_false, hbl]
  generalize hmore : f.fractionBits + 2 + f.fractionBits - m.log2 = more
  have e : m <<< more = m * 2 ^ (more - f.fractionBits) * f.binade := by
    unfold Format.binade
    rw [Nat.shiftLeft_eq, Nat.mul_assoc, ← Nat.pow_add]
    congr 2; omega
  rw [e, Nat.mul_div_cancel _ hb, Nat.mul_mod_left]
  by_cases h0 : m = 0
  · subst h0; simp [nearest_zero]
  · have e2 : 2 * (m * 2 ^ (more - f.fractionBits)) + (0 != 0).toNat = m * 2 ^ (more - f.fractionBits + 1) := by
      rw [Nat.pow_succ, Nat.mul_comm 2, Nat.mul_assoc]; simp
    rw [e2, nearest_shift f s m _ _ h0]
    congr 2; omega

/-- How great a rung's number is, in units of the least one. -/
def sizeOf (f : Format) (r : Nat) : Nat := if r < f.binade then r else (f.binade + r % f.binade) * 2 ^ (r / f.binade - 1)

theorem sizeOf_parts (f : Format) (r : Nat) : sizeOf f r = magOf f r * 2 ^ (placeOf f r - f.leastPlace).toNat := by
  unfold sizeOf magOf placeOf
  split
  · simp
  · congr 2; omega

theorem sizeOf_succ (f : Format) (r : Nat) : sizeOf f r < sizeOf f (r + 1) := by
  have hb : 0 < f.binade := Nat.two_pow_pos _
  have hm := Nat.mod_lt r hb
  have hd := Nat.div_add_mod r f.binade
  unfold sizeOf
  by_cases h1 : r + 1 < f.binade
  · rw [if_pos (by omega), if_pos h1]; omega
  · rw [if_neg h1]
    by_cases h2 : r < f.binade
    · have : r + 1 = f.binade := by omega
      rw [if_pos h2, this, Nat.mod_self, Nat.div_self hb]; simp; omega
    · rw [if_neg h2]
      by_cases h3 : r % f.binade + 1 < f.binade
      · have e1 : (r + 1) % f.binade = r % f.binade + 1 := by
          rw [Nat.add_mod, Nat.mod_eq_of_lt (a := 1) (by omega), Nat.mod_eq_of_lt h3]
        have e2 : (r + 1) / f.binade = r / f.binade := by
          refine Nat.div_eq_of_lt_le ?_ ?_
          · rw [Nat.mul_comm]; omega
          · rw [Nat.add_mul, Nat.mul_comm]; omega
        rw [e1, e2]
        exact Nat.mul_lt_mul_of_pos_right (by omega) (Nat.two_pow_pos _)
      · have e0 : r + 1 = f.binade * (r / f.binade + 1) := by rw [Nat.mul_add]; omega
        have e1 : (r + 1) % f.binade = 0 := by rw [e0, Nat.mul_mod_right]
        have e2 : (r + 1) / f.binade = r / f.binade + 1 := by rw [e0, Nat.mul_div_cancel_left _ hb]
        have h4 : 1 ≤ r / f.binade := (Nat.one_le_div_iff hb).2 (by omega)
        rw [e1, e2, Nat.add_zero, Nat.add_sub_cancel]
        have e3 : 2 ^ (r / f.binade) = 2 * 2 ^ (r / f.binade - 1) := by
          rw [← Nat.pow_succ']; congr 1; omega
        rw [e3, ← Nat.mul_assoc]
        exact Nat.mul_lt_mul_of_pos_right (by omega) (Nat.two_pow_pos _)

theorem sizeOf_lt (f : Format) {r r' : Nat} (h : r < r') : sizeOf f r < sizeOf f r' := by
  induction r' with
  | zero => omega
  | succ n ih =>
    have := sizeOf_succ f n
    by_cases e : r = n
    · subst e; exact this
    · have := ih (by omega); omega

theorem compare_mul (a b k : Nat) (hk : 0 < k) : compare (a * k) (b * k) = compare a b := by
  rcases Nat.lt_trichotomy a b with h | h | h
  · rw [Nat.compare_eq_lt.2 h, Nat.compare_eq_lt.2 (Nat.mul_lt_mul_of_pos_right h hk)]
  · subst h; simp
  · rw [Nat.compare_eq_gt.2 h, Nat.compare_eq_gt.2 (Nat.mul_lt_mul_of_pos_right h hk)]

theorem compare_sizeOf (f : Format) (r r' : Nat) : compare (sizeOf f r) (sizeOf f r') = compare r r' := by
  rcases Nat.lt_trichotomy r r' with h | h | h
  · rw [Nat.compare_eq_lt.2 h, Nat.compare_eq_lt.2 (sizeOf_lt f h)]
  · subst h; simp
  · rw [Nat.compare_eq_gt.2 h, Nat.compare_eq_gt.2 (sizeOf_lt f h)]

theorem compare_cast (a b : Nat) : compare (a : Int) (b : Int) = compare a b := by
  rcases Nat.lt_trichotomy a b with h | h | h
  · rw [Nat.compare_eq_lt.2 h, Int.compare_eq_lt.2 (by omega)]
  · subst h; simp
  · rw [Nat.compare_eq_gt.2 h, Int.compare_eq_gt.2 (by omega)]

theorem compare_negs (a b : Nat) : compare (-(a : Int)) (-(b : Int)) = compare b a := by
  rcases Nat.lt_trichotomy a b with h | h | h
  · rw [Nat.compare_eq_gt.2 h, Int.compare_eq_gt.2 (by omega)]
  · subst h; simp
  · rw [Nat.compare_eq_lt.2 h, Int.compare_eq_lt.2 (by omega)]

/-- Both sizes in the units of the lower place. -/
theorem common (f : Format) (r r' : Nat) :
    compare (magOf f r <<< (placeOf f r - min (placeOf f r) (placeOf f r')).toNat) (magOf f r' <<< (placeOf f r' - min (placeOf f r) (placeOf f r')).toNat) = compare r r' := by
  rw [← compare_sizeOf f r r', sizeOf_parts, sizeOf_parts, Nat.shiftLeft_eq, Nat.shiftLeft_eq]
  have h1 := placeOf_ge f r
  have h2 := placeOf_ge f r'
  generalize placeOf f r = p at *
  generalize placeOf f r' = q at *
  rw [← compare_mul _ _ (2 ^ (min p q - f.leastPlace).toNat) (Nat.two_pow_pos _), Nat.mul_assoc, Nat.mul_assoc, ← Nat.pow_add, ← Nat.pow_add]
  congr 3 <;> omega

/-- Two numbers that are not below 0 stand as their rungs do. -/
theorem order_pos (f : Format) (r r' : Nat) (h : r < f.infRung) (h' : r' < f.infRung) : f.order (f.word false r) (f.word false r') = some (compare r r') := by
  unfold Format.order
  rw [read_number f false r h, read_number f false r' h']
  simp only [Datum.order, signed, Bool.false_eq_true, if_false]
  rw [compare_cast, common]

/-! ### numbers of 64 bits and of 32 -/
theorem inf64 : double.infRung = 9218868437227405312 := rfl
theorem sw64 : double.signWeight = 9223372036854775808 := rfl
theorem bi64 : double.binade = 4503599627370496 := rfl
theorem lp64 : double.leastPlace = -1074 := rfl
theorem fb64 : double.fractionBits = 52 := rfl
theorem inf32 : single.infRung = 2139095040 := rfl
theorem sw32 : single.signWeight = 2147483648 := rfl
theorem bi32 : single.binade = 8388608 := rfl
theorem lp32 : single.leastPlace = -149 := rfl
theorem fb32 : single.fractionBits = 23 := rfl
theorem two64 : double.read 4611686018427387904 = .number false double.binade (1 - double.fractionBits) := by decide
theorem two32 : single.read 1073741824 = .number false single.binade (1 - single.fractionBits) := by decide

theorem word_false (f : Format) (r : Nat) : f.word false r = r := rfl
theorem word_true (f : Format) (r : Nat) : f.word true r = f.signWeight + r := rfl

theorem read_inf (f : Format) (neg : Bool) (hbi : f.binade ≤ f.infRung) : f.read (f.word neg f.infRung) = .infinity neg := by
  rw [read_word f neg _ f.infRung_lt, if_neg (by omega), if_neg (by omega), if_pos rfl]

theorem read_nan (f : Format) (neg : Bool) (r : Nat) (h : r < f.signWeight) (hbi : f.binade ≤ f.infRung) (hr : f.infRung < r) : f.read (f.word neg r) = .nan neg (r - f.infRung) := by
  rw [read_word f neg _ h, if_neg (by omega), if_neg (by omega), if_neg (by omega)]

theorem order_self (f : Format) (neg : Bool) (r : Nat) (h : r < f.signWeight) (hbi : f.binade ≤ f.infRung) : (f.order (f.word neg r) (f.word neg r) != some .eq) = decide (f.infRung < r) := by
  unfold Format.order
  rcases Nat.lt_trichotomy r f.infRung with h1 | h1 | h1
  · have : ¬ f.infRung < r := by omega
    rw [read_number f neg r h1]
    simp [Datum.order, this]
  · subst h1
    rw [read_inf f neg hbi]
    simp [Datum.order]
  · rw [read_nan f neg r h hbi h1]
    simp [Datum.order, h1]

/-- Not below 0, and no NaN: they stand as their rungs. -/
theorem ordPos (f : Format) (r r' : Nat) (h : r ≤ f.infRung) (h' : r' ≤ f.infRung) (hbi : f.binade ≤ f.infRung) : f.order r r' = some (compare r r') := by
  by_cases h1 : r < f.infRung
  · by_cases h2 : r' < f.infRung
    · exact order_pos f r r' h1 h2
    · have e : r' = f.infRung := by omega
      subst e
      unfold Format.order
      rw [← word_false f r, ← word_false f f.infRung, read_number f false r h1, read_inf f false hbi, word_false, word_false, Nat.compare_eq_lt.2 h1]
      rfl
  · have e : r = f.infRung := by omega
    subst e
    by_cases h2 : r' < f.infRung
    · unfold Format.order
      rw [← word_false f r', ← word_false f f.infRung, read_number f false r' h2, read_inf f false hbi, word_false, word_false, Nat.compare_eq_gt.2 h2]
      rfl
    · have e : r' = f.infRung := by omega
      subst e
      unfold Format.order
      rw [← word_false f f.infRung, read_inf f false hbi, word_false]
      simp [Datum.order]

theorem read_zero (f : Format) (neg : Bool) : f.read (f.word neg 0) = .number neg 0 f.leastPlace := by
  have hs : 0 < f.signWeight := Nat.two_pow_pos _
  have hb : 0 < f.binade := Nat.two_pow_pos _
  rw [read_word f neg 0 hs, if_pos hb]

theorem ordNeg (f : Format) (r : Nat) (h : r ≤ f.infRung) (h0 : 0 < r) (hbi : f.binade ≤ f.infRung) : f.order (f.word true r) 0 = some .lt := by
  unfold Format.order
  rw [show f.read 0 = .number false 0 f.leastPlace from read_zero f false]
  by_cases h1 : r < f.infRung
  · rw [read_number f true r h1]
    have hm : magOf f r ≠ 0 := fun e => by have := (magOf_zero f r).1 e; omega
    simp only [Datum.order, signed, if_true, Bool.false_eq_true, if_false, Nat.zero_shiftLeft]
    rw [Int.compare_eq_lt.2]
    have : 0 < magOf f r <<< (placeOf f r - min (placeOf f r) f.leastPlace).toNat := by
      rw [Nat.shiftLeft_eq]; exact Nat.mul_pos (by omega) (Nat.two_pow_pos _)
    omega
  · have e : r = f.infRung := by omega
    subst e
    rw [read_inf f true hbi]
    rfl

theorem ordZero (f : Format) (neg : Bool) : f.order (f.word neg 0) 0 = some .eq := by
  unfold Format.order
  rw [show f.read 0 = .number false 0 f.leastPlace from read_zero f false, read_zero]
  cases neg <;> simp [Datum.order, signed]

theorem div_zero (f : Format) (neg : Bool) (one : Nat) (m : Nat) (i : Int) (hm : m ≠ 0) (h1 : f.read one = .number false m i) : f.div one (f.word neg 0) = some (f.word neg f.infRung) := by
  unfold Format.div
  rw [h1, read_zero]
  simp [Datum.quotient, hm, Format.write]

/-- Doubling an exact number. -/
theorem dbl (f : Format) (two : Nat) (h2 : f.read two = .number false f.binade (1 - f.fractionBits)) (s : Bool) (m : Nat) (p : Int) (hm : m ≠ 0) (h : m < 2 ^ (f.fractionBits + 1)) (hp : f.leastPlace ≤ p) (hr : rungOf f m p < f.infRung) :
    f.mul (f.nearest s m p) two = some (f.nearest s m (p + 1)) := by
  have hl := lastOf_le f m p h hp
  rw [mul_two f two h2 _ s _ _ (read_nearest f s m p hm h hp hr), nearest_shift f s m _ _ hm]
  congr 2; omega

theorem hlv (f : Format) (two : Nat) (h2 : f.read two = .number false f.binade (1 - f.fractionBits)) (s : Bool) (m : Nat) (p : Int) (hm : m ≠ 0) (h : m < 2 ^ (f.fractionBits + 1)) (hp : f.leastPlace ≤ p) (hr : rungOf f m p < f.infRung) :
    f.div (f.nearest s m p) two = some (f.nearest s m (p - 1)) := by
  have hl := lastOf_le f m p h hp
  have hlt : m * 2 ^ (p - lastOf f m p).toNat < 2 ^ (f.fractionBits + 1) := by
    rw [← (parts_rungOf f m p hm h hp).1]; exact magOf_lt f _
  rw [div_two f two h2 _ s _ _ (read_nearest f s m p hm h hp hr) hlt, nearest_shift f s m _ _ hm]
  congr 2; omega

/-- The rung of a full significand. -/
theorem rungOf_full (f : Format) (x : Nat) (p : Int) (h : x < f.binade) (hp : f.leastPlace ≤ p) : rungOf f (f.binade + x) p = (p - f.leastPlace).toNat * f.binade + (f.binade + x) := by
  have hl : lastOf f (f.binade + x) p = p := by
    unfold lastOf; rw [log2_binade f x h]; omega
  unfold rungOf
  rw [hl, Int.sub_self, Int.toNat_zero, Nat.pow_zero, Nat.mul_one]

/-- Of a number whose first digit stands at a place: its rung. -/
theorem rungOf_lt (f : Format) (m : Nat) (p : Int) (hm : m ≠ 0) (h : m < 2 ^ (f.fractionBits + 1)) (hp : f.leastPlace ≤ p) (t : Nat) (ht : p + m.log2 - f.fractionBits - f.leastPlace + 1 ≤ t) (h1 : 1 ≤ t) : rungOf f m p < t * f.binade + f.binade := by
  have hb : 0 < f.binade := Nat.two_pow_pos _
  have hl := lastOf_le f m p h hp
  have e1 := (parts_rungOf f m p hm h hp).1
  have e2 := magOf_lt f (rungOf f m p)
  rw [e1, binade_pow] at e2
  have h3 : (lastOf f m p - f.leastPlace).toNat ≤ t - 1 := by unfold lastOf; omega
  have h4 := Nat.mul_le_mul_right f.binade h3
  have h5 : (t - 1) * f.binade + f.binade = t * f.binade := by
    rw [← Nat.succ_mul]; congr 1; omega
  unfold rungOf
  omega

theorem bi_le64 : double.binade ≤ double.infRung := by rw [bi64, inf64]; omega
theorem bi_le32 : single.binade ≤ single.infRung := by rw [bi32, inf32]; omega

theorem magOf_full (f : Format) (r : Nat) (h : f.binade ≤ r) : magOf f r = f.binade + r % f.binade := by
  unfold magOf; rw [if_neg (by omega)]

theorem placeOf_full (f : Format) (r : Nat) (h : f.binade ≤ r) : placeOf f r = f.leastPlace + (r / f.binade - 1 : Nat) := by
  unfold placeOf; rw [if_neg (by omega)]

theorem nearest_full (f : Format) (s : Bool) (x : Nat) (p : Int) (h : x < f.binade) (hp : f.leastPlace ≤ p) (hi : (p - f.leastPlace).toNat * f.binade + (f.binade + x) ≤ f.infRung) :
    f.nearest s (f.binade + x) p = f.word s ((p - f.leastPlace).toNat * f.binade + (f.binade + x)) := by
  have hb : 0 < f.binade := Nat.two_pow_pos _
  rw [nearest_exact f s _ p (by omega) (by rw [binade_pow]; omega) hp, rungOf_full f x p h hp, Nat.min_eq_left hi]

theorem dblR (f : Format) (two : Nat) (h2 : f.read two = .number false f.binade (1 - f.fractionBits)) (s : Bool) (r : Nat) (h : f.binade ≤ r) (hi : r + f.binade ≤ f.infRung) :
    f.mul (f.word s r) two = some (f.word s (r + f.binade)) := by
  have hb : 0 < f.binade := Nat.two_pow_pos _
  have hd := Nat.div_add_mod r f.binade
  have h1 : 1 ≤ r / f.binade := (Nat.one_le_div_iff hb).2 h
  have hx := Nat.mod_lt r hb
  have e : (f.leastPlace + ((r / f.binade - 1 : Nat) : Int) + 1 - f.leastPlace).toNat = r / f.binade := by omega
  have e2 : r / f.binade * f.binade + (f.binade + r % f.binade) = r + f.binade := by rw [Nat.mul_comm]; omega
  rw [mul_two f two h2 _ s _ _ (read_number f s r (by omega)), magOf_full f r h, placeOf_full f r h, nearest_full f s _ _ hx (by omega) (by rw [e, e2]; omega), e, e2]

theorem hlvR (f : Format) (two : Nat) (h2 : f.read two = .number false f.binade (1 - f.fractionBits)) (s : Bool) (r : Nat) (h : 2 * f.binade ≤ r) (hi : r < f.infRung) :
    f.div (f.word s r) two = some (f.word s (r - f.binade)) := by
  have hb : 0 < f.binade := Nat.two_pow_pos _
  have hd := Nat.div_add_mod r f.binade
  have h1 : 2 ≤ r / f.binade := (Nat.le_div_iff_mul_le hb).2 h
  have hx := Nat.mod_lt r hb
  have e : (f.leastPlace + ((r / f.binade - 1 : Nat) : Int) - 1 - f.leastPlace).toNat = r / f.binade - 2 := by omega
  have e2 : (r / f.binade - 2) * f.binade + (f.binade + r % f.binade) = r - f.binade := by
    have := Nat.mul_le_mul_left f.binade h1
    rw [Nat.sub_mul, Nat.mul_comm]; omega
  rw [div_two f two h2 _ s _ _ (read_number f s r hi) (magOf_lt f r), magOf_full f r (by omega), placeOf_full f r (by omega), nearest_full f s _ _ hx (by omega) (by rw [e, e2]; omega), e, e2]

theorem cut_one (m : Nat) (hm : m ≠ 0) (s : Bool) : Toward.even.cut s m 1 < m := by
  unfold Toward.cut
  have e : min 1 (m.log2 + 2) = 1 := by omega
  rw [e]
  simp only [Nat.one_shiftLeft, Nat.pow_one]
  have h1 : decide (2 < 2 * (m % 2)) = false := by simp; omega
  rw [h1, Bool.false_or]
  by_cases h2 : (2 == 2 * (m % 2) && m / 2 % 2 == 1) = true
  · rw [h2]
    simp at h2
    simp only [Bool.toNat_true]
    omega
  · rw [Bool.not_eq_true] at h2
    rw [h2]
    simp only [Bool.toNat_false]
    omega

/-- A number above 0 is not its half. -/
theorem hlv_lt (f : Format) (two : Nat) (h2 : f.read two = .number false f.binade (1 - f.fractionBits)) (r : Nat) (h0 : 0 < r) (hi : r < f.infRung) :
    ∃ r', f.div r two = some r' ∧ r' < r := by
  have hb : 0 < f.binade := Nat.two_pow_pos _
  by_cases h : 2 * f.binade ≤ r
  · exact ⟨_, hlvR f two h2 false r h hi, by rw [word_false]; omega⟩
  · refine ⟨_, div_two f two h2 _ false _ _ (read_number f false r hi) (magOf_lt f r), ?_⟩
    have hp : placeOf f r = f.leastPlace := by
      unfold placeOf
      split
      · rfl
      · have : r / f.binade = 1 := Nat.div_eq_of_lt_le (k := 1) (by omega) (by omega)
        rw [this]; simp
    have hmr : magOf f r = r := by
      unfold magOf
      split
      · rfl
      · rw [Nat.mod_eq_sub_mod (by omega), Nat.mod_eq_of_lt (by omega)]; omega
    rw [hp, hmr]
    have hlog := log2_le f r (by rw [binade_pow]; omega)
    have hlast : max (f.leastPlace - 1 + (r.log2 : Int) - (f.fractionBits : Int)) f.leastPlace = f.leastPlace := by omega
    have hc := cut_one r (by omega) false
    unfold Format.nearest
    rw [if_neg (by omega)]
    dsimp only
    rw [hlast]
    have a1 : (f.leastPlace - f.leastPlace).toNat = 0 := by omega
    have a2 : (f.leastPlace - 1 - f.leastPlace).toNat = 0 := by omega
    have a3 : (f.leastPlace - (f.leastPlace - 1)).toNat = 1 := by omega
    rw [a1, a2, a3, Nat.shiftLeft_zero, Nat.zero_mul, Nat.zero_add, word_false]
    omega

theorem hlv_inf (f : Format) (two : Nat) (h2 : f.read two = .number false f.binade (1 - f.fractionBits)) (hbi : f.binade ≤ f.infRung) : f.div f.infRung two = some f.infRung := by
  unfold Format.div
  rw [h2, show f.read f.infRung = .infinity false from read_inf f false hbi]
  rfl

/-- Times 2 to the power of 52. -/
theorem top64 : double.read 4841369599423283200 = .number false double.binade 0 := by decide

theorem mul_top (x : Nat) (s : Bool) (m : Nat) (i : Int) (hx : double.read x = .number s m i) : double.mul x 4841369599423283200 = some (double.nearest s m (i + 52)) := by
  unfold Format.mul
  rw [hx, top64]
  simp only [Datum.product, Option.map_some, Format.write, Bool.xor_false]
  by_cases h0 : m = 0
  · subst h0; rw [Nat.zero_mul, nearest_zero, nearest_zero]
  · unfold Format.binade
    rw [nearest_shift double s m _ _ h0, fb64]
    congr 2; omega

theorem cutz (K j : Nat) (hK : K ≠ 0) : Toward.zero.cut false (K * 2 ^ j) j = K := by
  unfold Toward.cut
  rw [log2_mul_pow K j hK]
  have e : min j (K.log2 + j + 2) = j := by omega
  rw [e]
  simp only [Nat.one_shiftLeft, Bool.toNat_false, Nat.add_zero]
  exact Nat.mul_div_cancel _ (Nat.two_pow_pos _)

theorem toInt_nearest (n : Nat) (h : n < 2 ^ 53) : floatToIntVal .f64 (double.nearest false n 0) .u64 = some (n : Int) := by
  unfold floatToIntVal FloatKind.decode
  show (match ((double.read (double.nearest false n 0)).toInt .zero) with | some n => if IntKind.u64.min ≤ n ∧ n ≤ IntKind.u64.max then some n else none | none => none) = _
  have hv : (double.read (double.nearest false n 0)).toInt .zero = some (n : Int) := by
    by_cases h0 : n = 0
    · subst h0; decide
    · have hp : double.leastPlace ≤ (0 : Int) := by rw [lp64]; omega
      have hr : rungOf double n 0 < double.infRung := by
        have hl := log2_le double n h
        rw [fb64] at hl
        have := rungOf_lt double n 0 h0 h hp 2000 (by rw [fb64, lp64]; omega) (by omega)
        rw [bi64] at this; rw [inf64]; omega
      have hl := lastOf_le double n 0 h hp
      rw [read_nearest double false n 0 h0 h hp hr]
      unfold Datum.toInt Datum.integral
      have e1 : (lastOf double n 0).toNat = 0 := by omega
      have e2 : (-lastOf double n 0).toNat = (0 - lastOf double n 0).toNat := by omega
      dsimp only
      rw [e1, e2, Nat.shiftLeft_zero, cutz n _ h0]
      simp [signed]
  rw [hv]
  have : (0 : Int) ≤ (n : Int) ∧ (n : Int) ≤ 18446744073709551615 := by
    have : (2 : Nat) ^ 53 = 9007199254740992 := by decide
    omega
  show (if (0 : Int) ≤ (n : Int) ∧ (n : Int) ≤ 18446744073709551615 then _ else _) = _
  rw [if_pos this]

theorem ofInt64 (n : Nat) : floatOfInt .f64 (n : Int) = double.nearest false n 0 := by
  unfold floatOfInt FloatKind.nearest FloatKind.encode
  show double.nearest (decide ((n : Int) < 0)) (n : Int).natAbs 0 = _
  rw [Int.natAbs_natCast]
  have : decide ((n : Int) < 0) = false := by simp
  rw [this]

theorem ofInt32 (n : Nat) : floatOfInt .f32 (n : Int) = single.nearest false n 0 := by
  unfold floatOfInt FloatKind.nearest FloatKind.encode
  show single.nearest (decide ((n : Int) < 0)) (n : Int).natAbs 0 = _
  rw [Int.natAbs_natCast]
  have : decide ((n : Int) < 0) = false := by simp
  rw [this]

theorem xor_top (k r : Nat) (h : r < 2 ^ k) : r ^^^ 2 ^ k = 2 ^ k + r := by
  apply Nat.eq_of_testBit_eq
  intro i
  rw [Nat.testBit_xor, Nat.testBit_two_pow]
  by_cases hi : i = k
  · subst hi
    rw [Nat.testBit_lt_two_pow h, Nat.testBit_two_pow_add_eq, Nat.testBit_lt_two_pow h]; simp
  · rcases Nat.lt_or_gt_of_ne hi with h1 | h1
    · have hk : decide (k = i) = false := by simp; omega
      rw [Nat.testBit_two_pow_add_gt h1, hk, Bool.xor_false]
    · have e : 2 ^ k + r < 2 ^ i := by
        have : 2 ^ (k + 1) ≤ 2 ^ i := Nat.pow_le_pow_right (by omega) h1
        rw [Nat.pow_succ] at this; omega
      have hk : decide (k = i) = false := by simp; omega
      rw [Nat.testBit_lt_two_pow (Nat.lt_of_le_of_lt (Nat.le_add_left _ _) e), Nat.testBit_lt_two_pow e, hk]
      rfl

theorem xor_top' (k r : Nat) (h : r < 2 ^ k) : (2 ^ k + r) ^^^ 2 ^ k = r := by
  rw [← xor_top k r h, Nat.xor_assoc, Nat.xor_self, Nat.xor_zero]

end Fl
end Go.Proofs.YtfcbjcebkahehaaGreatDoor
namespace Go.Proofs.YtfcbjcebkahehaaGreatDoor
namespace Fl
open Ieee

/-- Half to even. -/
def half (n d : Nat) : Nat := n / 2 ^ d + (if 2 ^ d < 2 * (n % 2 ^ d) ∨ (2 ^ d = 2 * (n % 2 ^ d) ∧ n / 2 ^ d % 2 = 1) then 1 else 0)

theorem cut_half (neg : Bool) (n d : Nat) : Toward.even.cut neg n d = half n d := by
  have key : ∀ g, (n / g + (decide (g < 2 * (n % g)) || (g == 2 * (n % g) && n / g % 2 == 1)).toNat) = n / g + (if g < 2 * (n % g) ∨ (g = 2 * (n % g) ∧ n / g % 2 = 1) then 1 else 0) := by
    intro g
    congr 1
    by_cases h1 : g < 2 * (n % g)
    · simp [h1]
    · by_cases h2 : g = 2 * (n % g)
      · by_cases h3 : n / g % 2 = 1
        · rw [if_pos (Or.inr ⟨h2, h3⟩)]
          have : (g == 2 * (n % g)) = true := by rw [beq_iff_eq]; exact h2
          rw [this, h3]; simp
        · rw [if_neg (by omega)]
          have : (n / g % 2 == 1) = false := by rw [beq_eq_false_iff_ne]; exact h3
          rw [this]; simp [h1]
      · rw [if_neg (by omega)]
        have : (g == 2 * (n % g)) = false := by rw [beq_eq_false_iff_ne]; exact h2
        rw [this]; simp [h1]
  show n / (1 <<< min d (n.log2 + 2)) + _ = _
  by_cases hd : d ≤ n.log2 + 2
  · rw [Nat.min_eq_left hd, Nat.one_shiftLeft]
    exact key (2 ^ d)
  · rw [Nat.min_eq_right (by omega), Nat.one_shiftLeft]
    refine (key _).trans ?_
    have h1 : n < 2 ^ (n.log2 + 1) := Nat.lt_log2_self
    have h2 : 2 ^ (n.log2 + 2) = 2 * 2 ^ (n.log2 + 1) := by rw [← Nat.pow_succ']
    have h3 : 2 ^ (n.log2 + 2) ≤ 2 ^ d := Nat.pow_le_pow_right (by omega) (by omega)
    unfold half
    generalize 2 ^ (n.log2 + 1) = a at *
    generalize 2 ^ (n.log2 + 2) = b at *
    generalize 2 ^ d = c at *
    rw [Nat.div_eq_of_lt (by omega : n < b), Nat.div_eq_of_lt (by omega : n < c), Nat.mod_eq_of_lt (by omega : n < b), Nat.mod_eq_of_lt (by omega : n < c), if_neg (by omega), if_neg (by omega)]

/-- How far the last digit that is kept lies above the last one that is there. -/
def dropOf (m : Nat) (p : Int) : Nat := (lastOf single m p - p).toNat
/-- The rung of the nearest narrow number, were there no end. -/
def rung32 (m : Nat) (p : Int) : Nat := (lastOf single m p + 149).toNat * 8388608 + half m (dropOf m p)

theorem nearest32 (neg : Bool) (m : Nat) (p : Int) (hm : m ≠ 0) (h : p ≤ lastOf single m p) :
    single.nearest neg m p = single.word neg (min (rung32 m p) 2139095040) := by
  unfold Format.nearest
  rw [if_neg hm]
  show single.word neg (min ((lastOf single m p - single.leastPlace).toNat * single.binade + Toward.even.cut neg (m <<< (p - lastOf single m p).toNat) (lastOf single m p - p).toNat) single.infRung) = _
  have e : (p - lastOf single m p).toNat = 0 := by omega
  rw [e, Nat.shiftLeft_zero, cut_half, lp32, bi32, inf32]
  unfold rung32 dropOf
  congr 4

theorem last32 (m : Nat) (p : Int) : lastOf single m p = max (p + (m.log2 : Int) - 23) (-149) := by
  unfold lastOf; rw [fb32, lp32]; rfl

/-- A wide number's parts: its last digit lies well below. -/
theorem drop_parts (r : Nat) (h0 : r ≠ 0) (hr : r < 9218868437227405312) : (r < 4503599627370496 ∧ dropOf (magOf double r) (placeOf double r) = 925) ∨ (4503599627370496 ≤ r ∧ (magOf double r).log2 = 52 ∧ (dropOf (magOf double r) (placeOf double r) : Int) = max 29 (-149 - placeOf double r) ∧ -1074 ≤ placeOf double r ∧ placeOf double r ≤ 971) := by
  unfold dropOf
  rw [last32]
  by_cases hb : r < 4503599627370496
  · left
    refine ⟨hb, ?_⟩
    have hp : placeOf double r = -1074 := by unfold placeOf; rw [if_pos (by rw [bi64]; exact hb), lp64]
    have hm : magOf double r = r := by unfold magOf; rw [if_pos (by rw [bi64]; exact hb)]
    have hl : r.log2 ≤ 51 := by
      have := (Nat.log2_lt h0).2 (Nat.lt_of_lt_of_eq hb (by decide : 4503599627370496 = 2 ^ 52)); omega
    rw [hp, hm]; omega
  · right
    have hge : double.binade ≤ r := by rw [bi64]; omega
    have hl : (magOf double r).log2 = 52 := by
      rw [magOf_full _ _ hge, log2_binade double _ (Nat.mod_lt _ (by rw [bi64]; omega)), fb64]
    have hp : placeOf double r = -1074 + ((r / 4503599627370496 - 1 : Nat) : Int) := by
      rw [placeOf_full _ _ hge, lp64, bi64]
    have hd : r / 4503599627370496 < 2047 := by
      have : (9218868437227405312 : Nat) = 2047 * 4503599627370496 := by decide
      exact Nat.div_lt_of_lt_mul (by omega)
    rw [hl, hp]
    refine ⟨by omega, rfl, ?_, by omega, by omega⟩
    omega

theorem drop_le (r : Nat) (h0 : r ≠ 0) (hr : r < 9218868437227405312) : placeOf double r ≤ lastOf single (magOf double r) (placeOf double r) ∧ 29 ≤ dropOf (magOf double r) (placeOf double r) := by
  rcases drop_parts r h0 hr with ⟨_, h⟩ | ⟨_, _, h, _⟩
  · unfold dropOf at h ⊢; omega
  · unfold dropOf at h ⊢; omega

theorem half_lt (n d : Nat) (a : Nat) (h : n < a * 2 ^ d) : half n d ≤ a := by
  have h1 : n / 2 ^ d < a := Nat.div_lt_of_lt_mul (by rw [Nat.mul_comm]; exact h)
  unfold half; split <;> omega
theorem half_ge (n d : Nat) (a : Nat) (h : a * 2 ^ d ≤ n) : a ≤ half n d := by
  have h1 : a ≤ n / 2 ^ d := (Nat.le_div_iff_mul_le (Nat.two_pow_pos d)).2 h
  unfold half; omega

/-- Where the range ends. -/
theorem rung_end (r : Nat) (h0 : r ≠ 0) (hr : r < 9218868437227405312) : rung32 (magOf double r) (placeOf double r) < 2139095040 ↔ r < 5183643170835005440 := by
  have hdr := drop_parts r h0 hr
  rcases hdr with ⟨hb, hd⟩ | ⟨hb, hl, hd, hp1, hp2⟩
  · have hm : magOf double r = r := by unfold magOf; rw [if_pos (by rw [bi64]; exact hb)]
    have hla : lastOf single (magOf double r) (placeOf double r) = -149 := by
      have hp : placeOf double r = -1074 := by unfold placeOf; rw [if_pos (by rw [bi64]; exact hb), lp64]
      unfold dropOf at hd; omega
    have hh : half (magOf double r) (dropOf (magOf double r) (placeOf double r)) ≤ 1 := by
      refine half_lt _ _ 1 ?_
      have h52 : 2 ^ 52 ≤ 2 ^ dropOf (magOf double r) (placeOf double r) := Nat.pow_le_pow_right (by omega) (by omega)
      rw [hm] at h52 ⊢
      rw [Nat.one_mul]
      exact Nat.lt_of_lt_of_le hb h52
    unfold rung32
    rw [hla]
    generalize half (magOf double r) (dropOf (magOf double r) (placeOf double r)) = z at *
    omega
  · have hge : double.binade ≤ r := by rw [bi64]; exact hb
    have hm : magOf double r = 4503599627370496 + r % 4503599627370496 := by rw [magOf_full _ _ hge, bi64]
    have hp : placeOf double r = -1074 + ((r / 4503599627370496 - 1 : Nat) : Int) := by rw [placeOf_full _ _ hge, lp64, bi64]
    have hdm := Nat.div_add_mod r 4503599627370496
    have hmod := Nat.mod_lt r (by omega : 0 < 4503599627370496)
    have hE : 1 ≤ r / 4503599627370496 := by omega
    generalize r / 4503599627370496 = E at *
    generalize r % 4503599627370496 = F at *
    by_cases h29 : 897 ≤ E
    · have hd29 : dropOf (magOf double r) (placeOf double r) = 29 := by omega
      have hla : lastOf single (magOf double r) (placeOf double r) = (E : Int) - 1046 := by unfold dropOf at hd29; omega
      have hh1 : half (magOf double r) 29 ≤ 16777216 := half_lt _ _ _ (by rw [hm, show (2 : Nat) ^ 29 = 536870912 from by decide]; omega)
      have hh2 : 8388608 ≤ half (magOf double r) 29 := half_ge _ _ _ (by rw [hm, show (2 : Nat) ^ 29 = 536870912 from by decide]; omega)
      unfold rung32
      rw [hd29, hla]
      by_cases hE1 : E ≤ 1149
      · constructor
        · intro _; omega
        · intro _; omega
      · by_cases hE2 : E = 1150
        · subst hE2
          have hf : half (magOf double r) 29 ≤ 16777215 ↔ F < 4503599358935040 := by
            unfold half
            rw [hm, show (2 : Nat) ^ 29 = 536870912 from by decide]
            split <;> omega
          constructor
          · intro h; have := hf.1 (by omega); omega
          · intro h; have := hf.2 (by omega); omega
        · constructor
          · intro h; omega
          · intro h; omega
    · have hla : lastOf single (magOf double r) (placeOf double r) = -149 := by unfold dropOf at hd; omega
      have hh1 : half (magOf double r) (dropOf (magOf double r) (placeOf double r)) ≤ 16777216 := half_lt _ _ _ (by
        have : 2 ^ 29 ≤ 2 ^ dropOf (magOf double r) (placeOf double r) := Nat.pow_le_pow_right (by omega) (by omega)
        rw [show (2 : Nat) ^ 29 = 536870912 from by decide] at this
        generalize 2 ^ dropOf (magOf double r) (placeOf double r) = z at *
        rw [hm]; omega)
      unfold rung32
      rw [hla]
      generalize half (magOf double r) (dropOf (magOf double r) (placeOf double r)) = z at *
      omega

theorem word_inj (f : Format) (neg : Bool) (r r' : Nat) (h : f.word neg r = f.word neg r') : r = r' := by
  unfold Format.word at h
  cases neg
  · exact h
  · exact Nat.add_left_cancel h

theorem log2_div_exact (m d : Nat) (hm : m ≠ 0) (h : m % 2 ^ d = 0) : m = m / 2 ^ d * 2 ^ d ∧ m / 2 ^ d ≠ 0 ∧ m.log2 = (m / 2 ^ d).log2 + d := by
  have e := Nat.div_add_mod m (2 ^ d)
  rw [h, Nat.add_zero, Nat.mul_comm] at e
  have h0 : m / 2 ^ d ≠ 0 := by
    intro hz; rw [hz, Nat.zero_mul] at e; exact hm e.symm
  refine ⟨e.symm, h0, ?_⟩
  have := log2_mul_pow (m / 2 ^ d) d h0
  rw [e] at this
  exact this

/-- The nearest narrow number, widened again, is the wide one just if nothing was dropped. -/
theorem same_iff (neg : Bool) (r : Nat) (h0 : r ≠ 0) (hr : r < 9218868437227405312) :
    double.nearest neg (magOf single (rung32 (magOf double r) (placeOf double r))) (placeOf single (rung32 (magOf double r) (placeOf double r))) = double.word neg r ↔ magOf double r % 2 ^ dropOf (magOf double r) (placeOf double r) = 0 := by
  have hnp := nearest_parts double neg r (by rw [inf64]; exact hr)
  have hm0 : magOf double r ≠ 0 := fun e => h0 ((magOf_zero double r).1 e)
  obtain ⟨hpl, hd29⟩ := drop_le r h0 hr
  have hmlt := magOf_lt double r
  rw [fb64] at hmlt
  constructor
  · intro he
    generalize hg : rung32 (magOf double r) (placeOf double r) = g at *
    have hM0 : magOf single g ≠ 0 := by
      intro hz
      rw [hz, nearest_zero] at he
      exact h0 (word_inj _ _ _ _ he).symm
    have hM := magOf_lt single g
    have hM53 : magOf single g < 2 ^ (double.fractionBits + 1) := Nat.lt_trans hM (by decide)
    have hP := placeOf_ge single g
    have hP64 : double.leastPlace ≤ placeOf single g := by rw [lp32] at hP; rw [lp64]; omega
    rw [nearest_exact double neg _ _ hM0 hM53 hP64] at he
    have he2 := word_inj _ _ _ _ he
    rw [inf64] at he2
    have he3 : rungOf double (magOf single g) (placeOf single g) = r := by
      rcases Nat.le_total (rungOf double (magOf single g) (placeOf single g)) 9218868437227405312 with hq | hq
      · rw [Nat.min_eq_left hq] at he2; exact he2
      · rw [Nat.min_eq_right hq] at he2; exact absurd he2 (Nat.ne_of_gt hr)
    obtain ⟨q1, q2⟩ := parts_rungOf double (magOf single g) (placeOf single g) hM0 hM53 hP64
    rw [he3] at q1 q2
    have hll := lastOf_le double _ _ hM53 hP64
    have hls := lastOf_le single _ _ hM hP
    have hdr : dropOf (magOf double r) (placeOf double r) ≤ (placeOf single g - lastOf double (magOf single g) (placeOf single g)).toNat := by
      unfold dropOf
      rw [last32] at hls ⊢
      rw [q1, q2, log2_mul_pow _ _ hM0]
      omega
    rw [q1]
    rw [q1] at hdr
    generalize dropOf (magOf single g * 2 ^ (placeOf single g - lastOf double (magOf single g) (placeOf single g)).toNat) (placeOf double r) = d at *
    generalize (placeOf single g - lastOf double (magOf single g) (placeOf single g)).toNat = k at *
    obtain ⟨j, rfl⟩ : ∃ j, k = j + d := ⟨k - d, by omega⟩
    rw [Nat.pow_add, ← Nat.mul_assoc, Nat.mul_mod_left]
  · intro hz
    obtain ⟨e1, e2, e3⟩ := log2_div_exact _ _ hm0 hz
    have hhalf : half (magOf double r) (dropOf (magOf double r) (placeOf double r)) = magOf double r / 2 ^ dropOf (magOf double r) (placeOf double r) := by
      have h2 := Nat.two_pow_pos (dropOf (magOf double r) (placeOf double r))
      unfold half; rw [hz]
      generalize 2 ^ dropOf (magOf double r) (placeOf double r) = z at *
      rw [if_neg (by omega), Nat.add_zero]
    have hrd : rung32 (magOf double r) (placeOf double r) = (lastOf single (magOf double r) (placeOf double r) + 149).toNat * 8388608 + magOf double r / 2 ^ dropOf (magOf double r) (placeOf double r) := by
      unfold rung32; rw [hhalf]
    have hlast : lastOf single (magOf double r) (placeOf double r) = placeOf double r + (dropOf (magOf double r) (placeOf double r) : Int) := by
      unfold dropOf; omega
    have hl149 : -149 ≤ lastOf single (magOf double r) (placeOf double r) := by rw [last32]; omega
    have hlK : lastOf single (magOf double r / 2 ^ dropOf (magOf double r) (placeOf double r)) (lastOf single (magOf double r) (placeOf double r)) = lastOf single (magOf double r) (placeOf double r) := by
      have h1 := last32 (magOf double r) (placeOf double r)
      have h2 := last32 (magOf double r / 2 ^ dropOf (magOf double r) (placeOf double r)) (lastOf single (magOf double r) (placeOf double r))
      generalize magOf double r / 2 ^ dropOf (magOf double r) (placeOf double r) = K at *
      omega
    have hKlt : magOf double r / 2 ^ dropOf (magOf double r) (placeOf double r) < 2 ^ (single.fractionBits + 1) := by
      have h1 := last32 (magOf double r) (placeOf double r)
      have h3 : (magOf double r / 2 ^ dropOf (magOf double r) (placeOf double r)).log2 < 24 := by
        generalize magOf double r / 2 ^ dropOf (magOf double r) (placeOf double r) = K at *
        omega
      have := (Nat.log2_lt e2).1 h3
      rw [fb32]; exact this
    have hrg : rungOf single (magOf double r / 2 ^ dropOf (magOf double r) (placeOf double r)) (lastOf single (magOf double r) (placeOf double r)) = rung32 (magOf double r) (placeOf double r) := by
      unfold rungOf
      rw [hlK, hrd, Int.sub_self, Int.toNat_zero, Nat.pow_zero, Nat.mul_one, lp32, bi32]
      congr 3
    obtain ⟨q1, q2⟩ := parts_rungOf single _ _ e2 hKlt (by rw [lp32]; exact hl149)
    rw [hrg, hlK, Int.sub_self, Int.toNat_zero, Nat.pow_zero, Nat.mul_one] at q1
    rw [hrg, hlK] at q2
    rw [q1, q2, hlast, ← nearest_shift double neg _ _ _ e2, ← e1, hnp]

end Fl
end Go.Proofs.YtfcbjcebkahehaaGreatDoor
namespace Go.Proofs.YtfcbjcebkahehaaGreatDoor
namespace Fl
open Ieee

theorem half_mono (n n' d : Nat) (h : n ≤ n') : half n d ≤ half n' d := by
  have hp := Nat.two_pow_pos d
  have h1 := Nat.div_add_mod n (2 ^ d)
  have h2 := Nat.div_add_mod n' (2 ^ d)
  have h3 := Nat.mod_lt n hp
  have h4 := Nat.mod_lt n' hp
  have hq : n / 2 ^ d ≤ n' / 2 ^ d := Nat.div_le_div_right h
  unfold half
  generalize n / 2 ^ d = q at *
  generalize n' / 2 ^ d = q' at *
  generalize n % 2 ^ d = r at *
  generalize n' % 2 ^ d = r' at *
  generalize 2 ^ d = U at *
  rcases Nat.lt_or_ge q q' with hlt | hge
  · split <;> split <;> omega
  · obtain rfl : q = q' := by omega
    have hr : r ≤ r' := by omega
    by_cases hc : U < 2 * r ∨ (U = 2 * r ∧ q % 2 = 1)
    · rw [if_pos hc, if_pos (by omega)]; omega
    · rw [if_neg hc]; omega

/-- The rung of the nearest number of b fraction bits, s places above the unit. -/
def RG (b s N : Nat) : Nat := (N.log2 - (b + s)) * 2 ^ b + half N (N.log2 - (b + s) + s)

theorem log2_mono (n m : Nat) (h : n ≤ m) : n.log2 ≤ m.log2 := by
  by_cases h0 : n = 0
  · subst h0; simp
  · have hm : m ≠ 0 := by omega
    rcases Nat.lt_or_ge m.log2 n.log2 with hl | hl
    · have := (Nat.log2_lt hm).1 hl
      have h2 := Nat.log2_self_le h0
      omega
    · exact hl

theorem half_zero (d : Nat) : half 0 d = 0 := by
  have hp := Nat.two_pow_pos d
  unfold half
  rw [Nat.zero_div, Nat.zero_mod]
  generalize 2 ^ d = z at *
  rw [if_neg (by omega)]
theorem RG_zero (b s : Nat) : RG b s 0 = 0 := by
  have e1 : (0 : Nat).log2 = 0 := by simp
  unfold RG
  rw [e1, Nat.zero_sub, Nat.zero_mul, half_zero]

theorem RG_mono (b s N N' : Nat) (h : N ≤ N') : RG b s N ≤ RG b s N' := by
  unfold RG
  have hl := log2_mono N N' h
  by_cases h0 : N = 0
  · subst h0
    have e1 : (0 : Nat).log2 = 0 := by simp
    rw [e1, Nat.zero_sub, Nat.zero_mul]
    rw [half_zero]; omega
  have h0' : N' ≠ 0 := by omega
  have hlo' := Nat.log2_self_le h0'
  have hhi := @Nat.lt_log2_self N
  by_cases he : N.log2 - (b + s) = N'.log2 - (b + s)
  · rw [he]
    exact Nat.add_le_add_left (half_mono N N' _ h) _
  · have he2 : N.log2 - (b + s) + 1 ≤ N'.log2 - (b + s) := by omega
    have hge : 2 ^ b ≤ half N' (N'.log2 - (b + s) + s) := by
      apply half_ge
      rw [← Nat.pow_add]
      exact Nat.le_trans (Nat.pow_le_pow_right (by omega) (by omega)) hlo'
    have hle : half N (N.log2 - (b + s) + s) ≤ 2 * 2 ^ b := by
      apply half_lt
      rw [← Nat.pow_succ', ← Nat.pow_add]
      exact Nat.lt_of_lt_of_le hhi (Nat.pow_le_pow_right (by omega) (by omega))
    have hm : (N.log2 - (b + s) + 1) * 2 ^ b ≤ (N'.log2 - (b + s)) * 2 ^ b := Nat.mul_le_mul_right _ he2
    rw [Nat.add_mul, Nat.one_mul] at hm
    omega

theorem near64 (neg : Bool) (N : Nat) : double.nearest neg N (-1074) = double.word neg (min (RG 52 0 N) 9218868437227405312) := by
  by_cases h0 : N = 0
  · subst h0
    rw [nearest_zero]
    rw [RG_zero]; rfl
  · unfold Format.nearest RG
    rw [if_neg h0]
    have hl : max (-1074 + (N.log2 : Int) - (double.fractionBits : Int)) double.leastPlace = -1074 + ((N.log2 - (52 + 0) : Nat) : Int) := by
      rw [fb64, lp64]; omega
    dsimp only
    rw [hl]
    have e1 : (-1074 - (-1074 + ((N.log2 - (52 + 0) : Nat) : Int))).toNat = 0 := by omega
    have e2 : (-1074 + ((N.log2 - (52 + 0) : Nat) : Int) - -1074).toNat = N.log2 - (52 + 0) + 0 := by omega
    have e3 : (-1074 + ((N.log2 - (52 + 0) : Nat) : Int) - double.leastPlace).toNat = N.log2 - (52 + 0) := by rw [lp64]; omega
    rw [e1, e2, e3, Nat.shiftLeft_zero, cut_half, bi64, inf64]

theorem near32 (neg : Bool) (N : Nat) : single.nearest neg N (-1074) = single.word neg (min (RG 23 925 N) 2139095040) := by
  by_cases h0 : N = 0
  · subst h0
    rw [nearest_zero]
    rw [RG_zero]; rfl
  · unfold Format.nearest RG
    rw [if_neg h0]
    have hl : max (-1074 + (N.log2 : Int) - (single.fractionBits : Int)) single.leastPlace = -149 + ((N.log2 - (23 + 925) : Nat) : Int) := by
      rw [fb32, lp32]; omega
    dsimp only
    rw [hl]
    have e1 : (-1074 - (-149 + ((N.log2 - (23 + 925) : Nat) : Int))).toNat = 0 := by omega
    have e2 : (-149 + ((N.log2 - (23 + 925) : Nat) : Int) - -1074).toNat = N.log2 - (23 + 925) + 925 := by omega
    have e3 : (-149 + ((N.log2 - (23 + 925) : Nat) : Int) - single.leastPlace).toNat = N.log2 - (23 + 925) := by rw [lp32]; omega
    rw [e1, e2, e3, Nat.shiftLeft_zero, cut_half, bi32, inf32]

/-- The nearest word of a number that is told by its size. -/
theorem near_size (f : Format) (neg : Bool) (r : Nat) : f.nearest neg (magOf double r) (placeOf double r) = f.nearest neg (sizeOf double r) (-1074) := by
  by_cases h0 : r = 0
  · have e1 := (magOf_zero double r).2 h0
    rw [sizeOf_parts, e1, Nat.zero_mul, nearest_zero, nearest_zero]
  · have hm : magOf double r ≠ 0 := fun e => h0 ((magOf_zero double r).1 e)
    have hp := placeOf_ge double r
    rw [lp64] at hp
    rw [sizeOf_parts, nearest_shift f neg _ _ _ hm, lp64]
    congr 1
    omega

theorem RG_size (r : Nat) (h : r < 9218868437227405312) : RG 52 0 (sizeOf double r) = r := by
  have h1 := nearest_parts double false r (by rw [inf64]; exact h)
  rw [near_size, near64] at h1
  have := word_inj _ _ _ _ h1
  rcases Nat.le_total (RG 52 0 (sizeOf double r)) 9218868437227405312 with hq | hq
  · rw [Nat.min_eq_left hq] at this; exact this
  · rw [Nat.min_eq_right hq] at this; omega

/-- A signed whole number. -/
def sv (neg : Bool) (n : Nat) : Int := if neg then -(n : Int) else n

theorem compare_imul (a b : Int) (k : Nat) (hk : 0 < k) : compare (a * (k : Int)) (b * (k : Int)) = compare a b := by
  have hk' : (0 : Int) < (k : Int) := by omega
  rcases Int.lt_trichotomy a b with h | h | h
  · rw [Int.compare_eq_lt.2 h, Int.compare_eq_lt.2 (Int.mul_lt_mul_of_pos_right h hk')]
  · subst h; simp
  · rw [Int.compare_eq_gt.2 h, Int.compare_eq_gt.2 (Int.mul_lt_mul_of_pos_right h hk')]

theorem signed_size (f : Format) (s : Bool) (r : Nat) (base : Int) (h1 : f.leastPlace ≤ base) (h2 : base ≤ placeOf f r) :
    signed s (magOf f r) (placeOf f r - base).toNat * ((2 ^ (base - f.leastPlace).toNat : Nat) : Int) = sv s (sizeOf f r) := by
  have e : magOf f r <<< (placeOf f r - base).toNat * 2 ^ (base - f.leastPlace).toNat = sizeOf f r := by
    rw [sizeOf_parts, Nat.shiftLeft_eq, Nat.mul_assoc, ← Nat.pow_add]
    congr 2; omega
  unfold signed sv
  cases s
  · simp only [Bool.false_eq_true, if_false]
    rw [← Int.natCast_mul, e]
  · simp only [if_true]
    rw [Int.neg_mul, ← Int.natCast_mul, e]

theorem compare_sv_size (f : Format) (s t : Bool) (a b : Nat) : compare (sv s (sizeOf f a)) (sv t (sizeOf f b)) = compare (sv s a) (sv t b) := by
  have hb0 : 0 < f.binade := Nat.two_pow_pos _
  have h0 : sizeOf f 0 = 0 := by unfold sizeOf; rw [if_pos hb0]
  have hlt := fun {a b : Nat} (h : a < b) => sizeOf_lt f h
  have ha : a = 0 ∨ 0 < sizeOf f a := by
    rcases Nat.eq_zero_or_pos a with h | h
    · exact .inl h
    · right; have := hlt h; omega
  have hb : b = 0 ∨ 0 < sizeOf f b := by
    rcases Nat.eq_zero_or_pos b with h | h
    · exact .inl h
    · right; have := hlt h; omega
  have hz : a = 0 → sizeOf f a = 0 := fun h => by rw [h]; exact h0
  have hz' : b = 0 → sizeOf f b = 0 := fun h => by rw [h]; exact h0
  have hab : a < b → sizeOf f a < sizeOf f b := hlt
  have hba : b < a → sizeOf f b < sizeOf f a := hlt
  have heq : a = b → sizeOf f a = sizeOf f b := fun h => by rw [h]
  generalize sizeOf f a = A at *
  generalize sizeOf f b = B at *
  rcases Int.lt_trichotomy (sv s a) (sv t b) with h | h | h
  · have : sv s A < sv t B := by
      unfold sv at *
      cases s <;> cases t <;> simp only [Bool.false_eq_true, if_false, if_true] at * <;> omega
    rw [Int.compare_eq_lt.2 h, Int.compare_eq_lt.2 this]
  · have : sv s A = sv t B := by
      unfold sv at *
      cases s <;> cases t <;> simp only [Bool.false_eq_true, if_false, if_true] at * <;> omega
    rw [h, this]; simp
  · have : sv t B < sv s A := by
      unfold sv at *
      cases s <;> cases t <;> simp only [Bool.false_eq_true, if_false, if_true] at * <;> omega
    rw [Int.compare_eq_gt.2 h, Int.compare_eq_gt.2 this]

/-- How two words of numbers stand: as their rungs with the signs. -/
theorem ord_gen (f : Format) (s t : Bool) (a b : Nat) (ha : a ≤ f.infRung) (hb : b ≤ f.infRung) (hbi : f.binade ≤ f.infRung) (hi0 : 0 < f.infRung) :
    f.order (f.word s a) (f.word t b) = some (compare (sv s a) (sv t b)) := by
  unfold Format.order
  rcases Nat.lt_or_ge a f.infRung with h1 | h1
  · rcases Nat.lt_or_ge b f.infRung with h2 | h2
    · rw [read_number f s a h1, read_number f t b h2]
      simp only [Datum.order]
      have g1 := placeOf_ge f a
      have g2 := placeOf_ge f b
      rw [← compare_imul _ _ (2 ^ (min (placeOf f a) (placeOf f b) - f.leastPlace).toNat) (Nat.two_pow_pos _), signed_size f s a _ (by omega) (by omega), signed_size f t b _ (by omega) (by omega), compare_sv_size]
    · obtain rfl : b = f.infRung := by omega
      rw [read_number f s a h1, read_inf f t hbi]
      simp only [Datum.order]
      unfold sv
      cases s <;> cases t <;> simp only [Bool.false_eq_true, if_false, if_true]
      · rw [Int.compare_eq_lt.2 (by omega)]
      · rw [Int.compare_eq_gt.2 (by omega)]
      · rw [Int.compare_eq_lt.2 (by omega)]
      · rw [Int.compare_eq_gt.2 (by omega)]
  · obtain rfl : a = f.infRung := by omega
    rcases Nat.lt_or_ge b f.infRung with h2 | h2
    · rw [read_number f t b h2, read_inf f s hbi]
      simp only [Datum.order]
      unfold sv
      cases s <;> cases t <;> simp only [Bool.false_eq_true, if_false, if_true]
      · rw [Int.compare_eq_gt.2 (by omega)]
      · rw [Int.compare_eq_gt.2 (by omega)]
      · rw [Int.compare_eq_lt.2 (by omega)]
      · rw [Int.compare_eq_lt.2 (by omega)]
    · obtain rfl : b = f.infRung := by omega
      rw [read_inf f s hbi, read_inf f t hbi]
      simp only [Datum.order]
      unfold sv
      cases s <;> cases t <;> simp only [Bool.false_eq_true, if_false, if_true, Bool.toNat_false, Bool.toNat_true]
      · simp
      · rw [Int.compare_eq_gt.2 (by omega)]; rfl
      · rw [Int.compare_eq_lt.2 (by omega)]; rfl
      · simp

/-- The difference of two finite numbers: the nearest one of the exact difference. -/
theorem sub_fin (s t : Bool) (a b : Nat) (ha : a < 9218868437227405312) (hb : b < 9218868437227405312) : ∃ neg, double.sub (double.word s a) (double.word t b) = some (double.word neg (min (RG 52 0 (sv s (sizeOf double a) - sv t (sizeOf double b)).natAbs) 9218868437227405312)) ∧ (sv s (sizeOf double a) - sv t (sizeOf double b) ≠ 0 → neg = decide (sv s (sizeOf double a) - sv t (sizeOf double b) < 0)) := by
  unfold Format.sub
  rw [read_number double s a (by rw [inf64]; exact ha), read_number double t b (by rw [inf64]; exact hb)]
  have g1 := placeOf_ge double a
  have g2 := placeOf_ge double b
  have e1 := signed_size double s a (min (placeOf double a) (placeOf double b)) (by omega) (by omega)
  have e2 := signed_size double t b (min (placeOf double a) (placeOf double b)) (by omega) (by omega)
  have hopp : signed (!t) (magOf double b) (placeOf double b - min (placeOf double a) (placeOf double b)).toNat = - signed t (magOf double b) (placeOf double b - min (placeOf double a) (placeOf double b)).toNat := by
    unfold signed; cases t <;> simp
  simp only [Datum.opposite, Datum.sum, Option.map_some, Format.write]
  rw [hopp]
  rw [lp64] at g1 g2 e1 e2
  generalize signed s (magOf double a) (placeOf double a - min (placeOf double a) (placeOf double b)).toNat = S at *
  generalize signed t (magOf double b) (placeOf double b - min (placeOf double a) (placeOf double b)).toNat = T at *
  rw [← e1, ← e2]
  have hk := Nat.two_pow_pos (min (placeOf double a) (placeOf double b) - -1074).toNat
  have hmul : S * ((2 ^ (min (placeOf double a) (placeOf double b) - -1074).toNat : Nat) : Int) - T * ((2 ^ (min (placeOf double a) (placeOf double b) - -1074).toNat : Nat) : Int) = (S + -T) * ((2 ^ (min (placeOf double a) (placeOf double b) - -1074).toNat : Nat) : Int) := by
    rw [← Int.sub_mul]; rfl
  rw [hmul]
  generalize hD : S + -T = D
  refine ⟨if D = 0 then s && !t else decide (D < 0), ?_, ?_⟩
  · congr 1
    rw [Int.natAbs_mul, Int.natAbs_natCast, ← near64]
    by_cases h0 : D.natAbs = 0
    · rw [h0, Nat.zero_mul, nearest_zero, nearest_zero]
    · rw [nearest_shift double _ _ _ _ h0]
      congr 1
      omega
  · intro hne
    have hD0 : D ≠ 0 := by
      intro e; rw [e, Int.zero_mul] at hne; exact hne rfl
    rw [if_neg hD0, decide_eq_decide]
    have hk' : (0 : Int) < ((2 ^ (min (placeOf double a) (placeOf double b) - -1074).toNat : Nat) : Int) := by omega
    constructor
    · intro h; exact Int.mul_neg_of_neg_of_pos h hk'
    · intro h
      rcases Int.lt_trichotomy D 0 with h1 | h1 | h1
      · exact h1
      · exact absurd h1 hD0
      · exact absurd (Int.mul_pos h1 hk') (by omega)

end Fl
end Go.Proofs.YtfcbjcebkahehaaGreatDoor
namespace Go.Proofs.YtfcbjcebkahehaaGreatDoor
namespace Fl
open Ieee

theorem near32s (neg : Bool) (N s : Nat) : single.nearest neg N (-149 - (s : Int)) = single.word neg (min (RG 23 s N) 2139095040) := by
  by_cases h0 : N = 0
  · subst h0
    rw [nearest_zero]
    rw [RG_zero]; rfl
  · unfold Format.nearest RG
    rw [if_neg h0]
    have hl : max (-149 - (s : Int) + (N.log2 : Int) - (single.fractionBits : Int)) single.leastPlace = -149 + ((N.log2 - (23 + s) : Nat) : Int) := by
      rw [fb32, lp32]; omega
    dsimp only
    rw [hl]
    have e1 : (-149 - (s : Int) - (-149 + ((N.log2 - (23 + s) : Nat) : Int))).toNat = 0 := by omega
    have e2 : (-149 + ((N.log2 - (23 + s) : Nat) : Int) - (-149 - (s : Int))).toNat = N.log2 - (23 + s) + s := by omega
    have e3 : (-149 + ((N.log2 - (23 + s) : Nat) : Int) - single.leastPlace).toNat = N.log2 - (23 + s) := by rw [lp32]; omega
    rw [e1, e2, e3, Nat.shiftLeft_zero, cut_half, bi32, inf32]
theorem near32z (neg : Bool) (N : Nat) : single.nearest neg N (-149) = single.word neg (min (RG 23 0 N) 2139095040) := near32s neg N 0
theorem near_size32 (f : Format) (neg : Bool) (r : Nat) (k : Int) : f.nearest neg (magOf single r) (placeOf single r + k) = f.nearest neg (sizeOf single r) (-149 + k) := by
  by_cases h0 : r = 0
  · have e1 := (magOf_zero single r).2 h0
    rw [sizeOf_parts, e1, Nat.zero_mul, nearest_zero, nearest_zero]
  · have hm : magOf single r ≠ 0 := fun e => h0 ((magOf_zero single r).1 e)
    have hp := placeOf_ge single r
    rw [lp32] at hp
    rw [sizeOf_parts, nearest_shift f neg _ _ _ hm, lp32]
    congr 1
    omega
theorem RG_size32 (r : Nat) (h : r < 2139095040) : RG 23 0 (sizeOf single r) = r := by
  have h1 := nearest_parts single false r (by rw [inf32]; exact h)
  have h2 := near_size32 single false r 0
  rw [Int.add_zero, Int.add_zero, near32z] at h2
  rw [h2] at h1
  have := word_inj _ _ _ _ h1
  rcases Nat.le_total (RG 23 0 (sizeOf single r)) 2139095040 with hq | hq
  · rw [Nat.min_eq_left hq] at this; exact this
  · rw [Nat.min_eq_right hq] at this; omega
theorem RG_scale (b s N : Nat) : RG b s (N * 2 ^ s) = RG b 0 N := by
  by_cases h0 : N = 0
  · subst h0; rw [Nat.zero_mul, RG_zero, RG_zero]
  · unfold RG
    rw [log2_mul_pow N s h0, show N.log2 + s - (b + s) = N.log2 - (b + 0) by omega, ← cut_half false, cut_mul false N _ s h0, cut_half, Nat.add_zero, Nat.add_zero]
theorem RG_sizes (r s : Nat) (h : r < 2139095040) : RG 23 s (sizeOf single r * 2 ^ s) = r := by rw [RG_scale, RG_size32 r h]
theorem RG_le {N r s : Nat} (h : N ≤ sizeOf single r * 2 ^ s) (hr : r < 2139095040) : RG 23 s N ≤ r := by
  have := RG_mono 23 s _ _ h
  rwa [RG_sizes r s hr] at this
theorem RG_ge {N r s : Nat} (h : sizeOf single r * 2 ^ s ≤ N) (hr : r < 2139095040) : r ≤ RG 23 s N := by
  have := RG_mono 23 s _ _ h
  rwa [RG_sizes r s hr] at this
theorem size_le {r r' : Nat} (h : r ≤ r') : sizeOf single r ≤ sizeOf single r' := by
  rcases Nat.lt_or_ge r r' with h1 | h1
  · exact Nat.le_of_lt (sizeOf_lt single h1)
  · have : r = r' := by omega
    rw [this]; exact Nat.le_refl _
theorem size_le' {r r' : Nat} (h : sizeOf single r ≤ sizeOf single r') : r ≤ r' := by
  rcases Nat.lt_or_ge r' r with h1 | h1
  · have := sizeOf_lt single h1; omega
  · exact h1
theorem size0 : sizeOf single 0 = 0 := by unfold sizeOf; rw [bi32]; rfl
theorem size1 : sizeOf single 1 = 1 := by unfold sizeOf; rw [bi32]; rfl

/-- A sum of two finite ones. -/
theorem add_fin (s t : Bool) (a b : Nat) (ha : a < 2139095040) (hb : b < 2139095040) : ∃ neg, single.add (single.word s a) (single.word t b) = some (single.word neg (min (RG 23 0 (sv s (sizeOf single a) + sv t (sizeOf single b)).natAbs) 2139095040)) ∧
    (sv s (sizeOf single a) + sv t (sizeOf single b) ≠ 0 → neg = decide (sv s (sizeOf single a) + sv t (sizeOf single b) < 0)) ∧ (sv s (sizeOf single a) + sv t (sizeOf single b) = 0 → neg = (s && t)) := by
  unfold Format.add
  rw [read_number single s a (by rw [inf32]; exact ha), read_number single t b (by rw [inf32]; exact hb)]
  have g1 := placeOf_ge single a
  have g2 := placeOf_ge single b
  have e1 := signed_size single s a (min (placeOf single a) (placeOf single b)) (by omega) (by omega)
  have e2 := signed_size single t b (min (placeOf single a) (placeOf single b)) (by omega) (by omega)
  simp only [Datum.sum, Option.map_some, Format.write]
  rw [lp32] at g1 g2 e1 e2
  generalize signed s (magOf single a) (placeOf single a - min (placeOf single a) (placeOf single b)).toNat = S at *
  generalize signed t (magOf single b) (placeOf single b - min (placeOf single a) (placeOf single b)).toNat = T at *
  rw [← e1, ← e2]
  have hk := Nat.two_pow_pos (min (placeOf single a) (placeOf single b) - -149).toNat
  have hmul : S * ((2 ^ (min (placeOf single a) (placeOf single b) - -149).toNat : Nat) : Int) + T * ((2 ^ (min (placeOf single a) (placeOf single b) - -149).toNat : Nat) : Int) = (S + T) * ((2 ^ (min (placeOf single a) (placeOf single b) - -149).toNat : Nat) : Int) := by
    rw [← Int.add_mul]
  rw [hmul]
  generalize hD : S + T = D
  refine ⟨if D = 0 then s && t else decide (D < 0), ?_, ?_, ?_⟩
  · congr 1
    rw [Int.natAbs_mul, Int.natAbs_natCast, ← near32z]
    by_cases h0 : D.natAbs = 0
    · rw [h0, Nat.zero_mul, nearest_zero, nearest_zero]
    · rw [nearest_shift single _ _ _ _ h0]
      congr 1
      omega
  · intro hne
    have hD0 : D ≠ 0 := by
      intro e; rw [e, Int.zero_mul] at hne; exact hne rfl
    rw [if_neg hD0, decide_eq_decide]
    have hk' : (0 : Int) < ((2 ^ (min (placeOf single a) (placeOf single b) - -149).toNat : Nat) : Int) := by omega
    constructor
    · intro h; exact Int.mul_neg_of_neg_of_pos h hk'
    · intro h
      rcases Int.lt_trichotomy D 0 with h1 | h1 | h1
      · exact h1
      · exact absurd h1 hD0
      · exact absurd (Int.mul_pos h1 hk') (by omega)
  · intro he
    have hk' : ((2 ^ (min (placeOf single a) (placeOf single b) - -149).toNat : Nat) : Int) ≠ 0 := by omega
    rcases Int.mul_eq_zero.1 he with h1 | h1
    · rw [if_pos h1]
    · exact absurd h1 hk'
theorem sub_add (x : Nat) (t : Bool) (b : Nat) (hb : b < 2139095040) : single.sub x (single.word t b) = single.add x (single.word (!t) b) := by
  unfold Format.sub Format.add
  rw [read_number single t b (by rw [inf32]; exact hb), read_number single (!t) b (by rw [inf32]; exact hb)]
  rfl
/-- x - a, of two that are not below 0 -/
theorem sub_pos (x a : Nat) (hx : x < 2139095040) (ha : a < 2139095040) :
    (a ≤ x → single.sub x a = some (single.word false (RG 23 0 (sizeOf single x - sizeOf single a)))) ∧ (x < a → single.sub x a = some (single.word true (RG 23 0 (sizeOf single a - sizeOf single x)))) := by
  have h1 := sub_add x false a ha
  obtain ⟨neg, h2, h3, h4⟩ := add_fin false true x a hx ha
  have hw : single.word false a = a := rfl
  have hw2 : single.word false x = x := rfl
  rw [hw] at h1
  rw [hw2] at h2
  rw [h1, show (!false) = true from rfl, h2]
  have e1 : sv false (sizeOf single x) = (sizeOf single x : Int) := rfl
  have e2 : sv true (sizeOf single a) = -(sizeOf single a : Int) := rfl
  rw [e1, e2] at h3 h4 ⊢
  constructor
  · intro h
    have hs := size_le h
    have hn : ((sizeOf single x : Int) + -(sizeOf single a : Int)).natAbs = sizeOf single x - sizeOf single a := by omega
    have hr : RG 23 0 (sizeOf single x - sizeOf single a) ≤ x := RG_le (by omega) hx
    rw [hn, Nat.min_eq_left (by omega)]
    by_cases h0 : (sizeOf single x : Int) + -(sizeOf single a : Int) = 0
    · rw [h4 h0]; rfl
    · rw [h3 h0]
      have : decide ((sizeOf single x : Int) + -(sizeOf single a : Int) < 0) = false := by simp; omega
      rw [this]
  · intro h
    have hs := sizeOf_lt single h
    have hn : ((sizeOf single x : Int) + -(sizeOf single a : Int)).natAbs = sizeOf single a - sizeOf single x := by omega
    have hr : RG 23 0 (sizeOf single a - sizeOf single x) ≤ a := RG_le (by omega) ha
    rw [hn, Nat.min_eq_left (by omega), h3 (by omega)]
    have : decide ((sizeOf single x : Int) + -(sizeOf single a : Int) < 0) = true := by simp; omega
    rw [this]
/-- a + p, and a - p where p is not above a -/
theorem add_pos (a p : Nat) (ha : a < 2139095040) (hp : p < 2139095040) (h : RG 23 0 (sizeOf single a + sizeOf single p) < 2139095040) : single.add a (single.word false p) = some (RG 23 0 (sizeOf single a + sizeOf single p)) := by
  obtain ⟨neg, h2, h3, h4⟩ := add_fin false false a p ha hp
  have hw2 : single.word false a = a := rfl
  rw [hw2] at h2
  have e1 : ∀ n, sv false n = (n : Int) := fun _ => rfl
  rw [e1, e1] at h2 h3 h4
  have hn : ((sizeOf single a : Int) + (sizeOf single p : Int)).natAbs = sizeOf single a + sizeOf single p := by omega
  rw [h2, hn, Nat.min_eq_left (by omega)]
  by_cases h0 : (sizeOf single a : Int) + (sizeOf single p : Int) = 0
  · rw [h4 h0]; rfl
  · rw [h3 h0]
    have : decide ((sizeOf single a : Int) + (sizeOf single p : Int) < 0) = false := by simp; omega
    rw [this]; rfl
theorem add_neg (a p : Nat) (ha : a < 2139095040) (hp : p ≤ a) : single.add a (single.word true p) = some (RG 23 0 (sizeOf single a - sizeOf single p)) := by
  have h1 := sub_add a false p (by omega)
  rw [show (!false) = true from rfl] at h1
  rw [← h1]
  have hw : single.word false p = p := rfl
  rw [hw, (sub_pos a p ha (by omega)).1 hp]
  rfl
/-- a quotient by 2 to the k -/
theorem div_pow (c k : Nat) (hc : single.read c = .number false 8388608 ((k : Int) - 23)) (s : Bool) (a : Nat) (ha : a < 2139095040) : single.div (single.word s a) c = some (single.word s (min (RG 23 k (sizeOf single a)) 2139095040)) := by
  have hm := magOf_lt single a
  have hl := log2_le single _ hm
  have hr := read_number single s a (by rw [inf32]; exact ha)
  have hns := near_size32 single s a (-(k : Int))
  rw [show -149 + -(k : Int) = -149 - (k : Int) by omega, near32s] at hns
  rw [← hns]
  unfold Format.div
  rw [hr, hc]
  rw [fb32] at hl
  have hbl : (8388608 : Nat).log2 = 23 := by decide
  simp only [Datum.quotient, if_neg (by decide : ¬ (8388608 : Nat) = 0), Option.map_some, Format.write, Bool.xor_false, hbl, fb32]
  generalize hmore : 23 + 2 + 23 - (magOf single a).log2 = more
  generalize hmm : magOf single a = m at *
  have e : m <<< more = m * 2 ^ (more - 23) * 8388608 := by
    rw [Nat.shiftLeft_eq, Nat.mul_assoc, show (8388608 : Nat) = 2 ^ 23 from by decide, ← Nat.pow_add]
    congr 2; omega
  rw [e, Nat.mul_div_cancel _ (by decide), Nat.mul_mod_left]
  by_cases h0 : m = 0
  · subst h0; simp [nearest_zero]
  · have e2 : 2 * (m * 2 ^ (more - 23)) + (0 != 0).toNat = m * 2 ^ (more - 23 + 1) := by
      rw [Nat.pow_succ, Nat.mul_comm 2, Nat.mul_assoc]; simp
    rw [e2, nearest_shift single s m _ _ h0]
    congr 2; omega
end Fl
end Go.Proofs.YtfcbjcebkahehaaGreatDoor
namespace Go.Proofs.YtfcbjcebkahehaaGreatDoor
namespace Fl
open Ieee
theorem mul_four (a : Nat) (ha : a < 2139095040) : single.mul 1082130432 a = some (min (RG 23 0 (4 * sizeOf single a)) 2139095040) := by
  have hr := read_number single false a (by rw [inf32]; exact ha)
  have h4 : single.read 1082130432 = .number false 8388608 (-21) := by decide
  have hw : single.word false a = a := rfl
  rw [hw] at hr
  have hns := near_size32 single false a 2
  have hsh : single.nearest false (4 * sizeOf single a) (-149) = single.nearest false (sizeOf single a) (-149 + 2) := by
    by_cases h0 : sizeOf single a = 0
    · rw [h0, nearest_zero, nearest_zero]
    · have := nearest_shift single false (sizeOf single a) 2 (-149) h0
      rw [show sizeOf single a * 2 ^ 2 = 4 * sizeOf single a by omega] at this
      exact this
  rw [near32z] at hsh
  have hw2 : single.word false (min (RG 23 0 (4 * sizeOf single a)) 2139095040) = min (RG 23 0 (4 * sizeOf single a)) 2139095040 := word_false _ _
  rw [← hw2, hsh, ← hns]
  unfold Format.mul
  rw [hr, h4]
  show some (single.nearest (false ^^ false) (8388608 * magOf single a) (-21 + placeOf single a)) = _
  have e3 : (8388608 : Nat) = 2 ^ 23 := by decide
  have e2 : (8388608 * magOf single a) = magOf single a * 2 ^ 23 := by rw [e3, Nat.mul_comm]
  by_cases h0 : magOf single a = 0
  · rw [h0]; simp [nearest_zero]
  · rw [e2, nearest_shift single _ _ _ _ h0]
    congr 2; omega
end Fl
end Go.Proofs.YtfcbjcebkahehaaGreatDoor
namespace Go.Proofs.YtfcbjcebkahehaaGreatDoor
namespace Fl
open Ieee
/-- powers of two are numbers -/
theorem pow_rung (j : Nat) (hj : j ≤ 250) : ∃ r, r < 2139095040 ∧ sizeOf single r = 2 ^ j := by
  by_cases h : j < 23
  · refine ⟨2 ^ j, ?_, ?_⟩
    · have := Nat.pow_lt_pow_right (a := 2) (by omega) h
      have e : (2 : Nat) ^ 23 = 8388608 := by decide
      omega
    · unfold sizeOf
      rw [if_pos]
      unfold Format.binade
      rw [fb32]
      exact Nat.pow_lt_pow_right (by omega) h
  · refine ⟨(j - 22) * 8388608, by omega, ?_⟩
    unfold sizeOf
    rw [bi32, if_neg (by omega), Nat.mul_mod_left, Nat.mul_div_cancel _ (by omega), Nat.add_zero, show (8388608 : Nat) = 2 ^ 23 from by decide, ← Nat.pow_add]
    congr 1
    omega
theorem step_small (N k : Nat) (hk : 1 ≤ k) (hN : N ≤ 2 ^ 200) : RG 23 0 N < 2139095040 ∧ RG 23 k (sizeOf single (RG 23 0 N)) < 2139095040 ∧ sizeOf single (RG 23 k (sizeOf single (RG 23 0 N))) ≤ N := by
  by_cases h0 : N = 0
  · subst h0
    rw [RG_zero, size0, RG_zero, size0]
    omega
  · have hl : N.log2 ≤ 200 := by
      have := log2_mono N _ hN
      rwa [Nat.log2_two_pow] at this
    have h1 := Nat.log2_self_le h0
    have h2 := @Nat.lt_log2_self N
    obtain ⟨q, hq, hqs⟩ := pow_rung N.log2 (by omega)
    obtain ⟨q', hq', hqs'⟩ := pow_rung (N.log2 + 1) (by omega)
    have hr : RG 23 0 N ≤ q' := RG_le (by rw [hqs', Nat.pow_zero, Nat.mul_one]; omega) hq'
    have hs := size_le hr
    rw [hqs'] at hs
    have hk2 : 2 ^ (N.log2 + 1) ≤ 2 ^ N.log2 * 2 ^ k := by rw [← Nat.pow_add]; exact Nat.pow_le_pow_right (by omega) (by omega)
    have hp : RG 23 k (sizeOf single (RG 23 0 N)) ≤ q := RG_le (by rw [hqs]; omega) hq
    have hs2 := size_le hp
    rw [hqs] at hs2
    exact ⟨by omega, by omega, by omega⟩
structure Went (x a c lo hi : Nat) (neg : Bool) (r p a' : Nat) : Prop where
  sub : single.sub x a = some (single.word neg r)
  div : single.div (single.word neg r) c = some (single.word neg p)
  add : single.add a (single.word neg p) = some a'
  lo : lo ≤ a'
  hi : a' ≤ hi
  pos : neg = true → 0 < r
  is_ : r = RG 23 0 ((sizeOf single x - sizeOf single a) + (sizeOf single a - sizeOf single x))
  fin : r < 2139095040
theorem goes (k c : Nat) (hk : 1 ≤ k) (hc : single.read c = .number false 8388608 ((k : Int) - 23)) (a x lo hi : Nat) (h1 : lo ≤ a) (h2 : a ≤ hi) (h3 : lo ≤ x) (h4 : x ≤ hi) (h5 : hi < 2139095040) (hB : sizeOf single hi ≤ 2 ^ 200) :
    ∃ neg r p a', Went x a c lo hi neg r p a' := by
  obtain ⟨s1, s2⟩ := sub_pos x a (by omega) (by omega)
  have m1 := size_le h2
  have m2 := size_le h4
  rcases Nat.lt_or_ge x a with hlt | hge
  · have hs := sizeOf_lt single hlt
    obtain ⟨t1, t2, t3⟩ := step_small (sizeOf single a - sizeOf single x) k hk (by omega)
    have hpa : RG 23 k (sizeOf single (RG 23 0 (sizeOf single a - sizeOf single x))) ≤ a := size_le' (by omega)
    have hd := div_pow c k hc true (RG 23 0 (sizeOf single a - sizeOf single x)) t1
    rw [Nat.min_eq_left (by omega)] at hd
    refine ⟨true, _, _, _, s2 hlt, hd, add_neg a _ (by omega) hpa, ?_, ?_, ?_, ?_, t1⟩
    · refine Nat.le_trans h3 (RG_ge (by rw [Nat.pow_zero, Nat.mul_one]; omega) (by omega))
    · refine Nat.le_trans (RG_le (r := a) (by rw [Nat.pow_zero, Nat.mul_one]; omega) (by omega)) h2
    · intro _
      exact RG_ge (r := 1) (by rw [size1]; omega) (by omega)
    · congr 1; omega
  · have hs := size_le hge
    obtain ⟨t1, t2, t3⟩ := step_small (sizeOf single x - sizeOf single a) k hk (by omega)
    have hd := div_pow c k hc false (RG 23 0 (sizeOf single x - sizeOf single a)) t1
    rw [Nat.min_eq_left (by omega)] at hd
    have hx : RG 23 0 (sizeOf single a + sizeOf single (RG 23 k (sizeOf single (RG 23 0 (sizeOf single x - sizeOf single a))))) ≤ x := RG_le (by rw [Nat.pow_zero, Nat.mul_one]; omega) (by omega)
    refine ⟨false, _, _, _, s1 hge, hd, add_pos a _ (by omega) t2 (by omega), ?_, ?_, ?_, ?_, t1⟩
    · exact Nat.le_trans h1 (RG_ge (by rw [Nat.pow_zero, Nat.mul_one]; omega) (by omega))
    · exact Nat.le_trans hx h4
    · intro h; cases h
    · congr 1; omega
/-- a whole number as a narrow one -/
def fI (n : Nat) : Nat := RG 23 0 (n * 2 ^ 149)
theorem hsum (L : Int) (h1 : L ≤ 0) (h2 : -149 ≤ L) : (0 - L).toNat + (L - -149).toNat = 149 := by omega
theorem int_rung (n : Nat) (h : n < 16777216) : ∃ r, r < 2139095040 ∧ sizeOf single r = n * 2 ^ 149 := by
  by_cases h0 : n = 0
  · subst h0; exact ⟨0, by omega, by rw [size0, Nat.zero_mul]⟩
  · have h24 : n < 2 ^ (single.fractionBits + 1) := by rw [fb32]; exact h
    have hp : single.leastPlace ≤ (0 : Int) := by rw [lp32]; omega
    have hll := log2_le single n h24
    have hr : rungOf single n 0 < single.infRung := by
      have := rungOf_lt single n 0 h0 h24 hp 250 (by rw [fb32, lp32]; rw [fb32] at hll; omega) (by omega)
      rw [bi32] at this; rw [inf32]; omega
    have hla := lastOf_le single n 0 h24 hp
    have hlb : -149 ≤ lastOf single n 0 := by unfold lastOf; rw [lp32]; omega
    obtain ⟨q1, q2⟩ := parts_rungOf single n 0 h0 h24 hp
    refine ⟨rungOf single n 0, by rw [inf32] at hr; exact hr, ?_⟩
    rw [sizeOf_parts, q1, q2, lp32, Nat.mul_assoc, ← Nat.pow_add, hsum _ hla hlb]
theorem fI_size (n : Nat) (h : n < 16777216) : sizeOf single (fI n) = n * 2 ^ 149 := by
  obtain ⟨r, h1, h2⟩ := int_rung n h
  unfold fI
  rw [← h2, RG_size32 r h1]
theorem fI_lt (n : Nat) (h : n < 16777216) : fI n < 2139095040 := by
  obtain ⟨r, h1, h2⟩ := int_rung n h
  unfold fI
  rw [← h2, RG_size32 r h1]
  exact h1
theorem fI_mono {n m : Nat} (h : n ≤ m) : fI n ≤ fI m := RG_mono 23 0 _ _ (Nat.mul_le_mul_right _ h)
theorem ofI (n : Nat) (h : n < 16777216) : floatOfInt .f32 (n : Int) = fI n := by
  rw [ofInt32]
  have e : single.nearest false n 0 = single.nearest false (n * 2 ^ 149) (-149) := by
    by_cases h0 : n = 0
    · subst h0; rw [Nat.zero_mul, nearest_zero, nearest_zero]
    · have e9 : (-149 : Int) + ((149 : Nat) : Int) = 0 := by decide
      rw [nearest_shift single false n 149 _ h0, e9]
  have h2 := fI_lt n h
  rw [e, near32z, word_false]
  exact Nat.min_eq_left (Nat.le_of_lt h2)
theorem fI0 : fI 0 = 0 := by unfold fI; rw [Nat.zero_mul, RG_zero]
theorem fI20 : fI 1048576 = 1233125376 := by decide +kernel
theorem eight32 : single.read 1090519040 = .number false 8388608 (((3 : Nat) : Int) - 23) := by decide
theorem fourth32 : single.read 1082130432 = .number false 8388608 (((2 : Nat) : Int) - 23) := by decide
theorem twice32 : single.read 1073741824 = .number false 8388608 (((1 : Nat) : Int) - 23) := by decide
theorem top_size : sizeOf single 1233125376 = 1048576 * 2 ^ 149 := by rw [← fI20]; exact fI_size _ (by omega)
theorem top_200 {r : Nat} (h : r ≤ 1233125376) : sizeOf single r ≤ 2 ^ 200 := by
  have h1 := size_le h
  rw [top_size] at h1
  have : (1048576 : Nat) * 2 ^ 149 ≤ 2 ^ 200 := by decide +kernel
  omega
/-- the half of the first -/
theorem half_fin (x : Nat) (h : x ≤ 1233125376) : ∃ y, single.div x 1073741824 = some y ∧ y ≤ x := by
  have h1 := div_pow 1073741824 1 twice32 false x (by omega)
  have h2 : RG 23 1 (sizeOf single x) ≤ x := RG_le (by rw [Nat.pow_one]; omega) (by omega)
  rw [word_false, word_false, Nat.min_eq_left (by omega)] at h1
  exact ⟨_, h1, h2⟩
end Fl
end Go.Proofs.YtfcbjcebkahehaaGreatDoor
namespace Go.Proofs.YtfcbjcebkahehaaGreatDoor
namespace Fl
open Ieee
def cdiv (n D : Nat) : Nat := n / D + (if n % D = 0 then 0 else 1)
theorem cut_up (n d : Nat) : Toward.up.cut false n d = cdiv n (2 ^ d) := by
  have key : ∀ g, (n / g + (!false && n % g != 0).toNat) = cdiv n g := by
    intro g
    unfold cdiv
    by_cases h : n % g = 0
    · rw [if_pos h, h]; rfl
    · rw [if_neg h]
      have : (n % g != 0) = true := by simp [h]
      rw [this]; rfl
  show n / (1 <<< min d (n.log2 + 2)) + _ = _
  by_cases hd : d ≤ n.log2 + 2
  · rw [Nat.min_eq_left hd, Nat.one_shiftLeft]
    exact key (2 ^ d)
  · rw [Nat.min_eq_right (by omega), Nat.one_shiftLeft]
    refine (key _).trans ?_
    have h1 : n < 2 ^ (n.log2 + 1) := Nat.lt_log2_self
    have h2 : 2 ^ (n.log2 + 2) = 2 * 2 ^ (n.log2 + 1) := by rw [← Nat.pow_succ']
    have h3 : 2 ^ (n.log2 + 2) ≤ 2 ^ d := Nat.pow_le_pow_right (by omega) (by omega)
    unfold cdiv
    generalize 2 ^ (n.log2 + 1) = a at *
    generalize 2 ^ (n.log2 + 2) = b at *
    generalize 2 ^ d = c at *
    rw [Nat.div_eq_of_lt (by omega : n < b), Nat.div_eq_of_lt (by omega : n < c), Nat.mod_eq_of_lt (by omega : n < b), Nat.mod_eq_of_lt (by omega : n < c)]
theorem cut_zr (n d : Nat) : Toward.zero.cut false n d = n / 2 ^ d := by
  show n / (1 <<< min d (n.log2 + 2)) + 0 = _
  by_cases hd : d ≤ n.log2 + 2
  · rw [Nat.min_eq_left hd, Nat.one_shiftLeft, Nat.add_zero]
  · rw [Nat.min_eq_right (by omega), Nat.one_shiftLeft, Nat.add_zero]
    have h1 : n < 2 ^ (n.log2 + 1) := Nat.lt_log2_self
    have h2 : 2 ^ (n.log2 + 2) = 2 * 2 ^ (n.log2 + 1) := by rw [← Nat.pow_succ']
    have h3 : 2 ^ (n.log2 + 2) ≤ 2 ^ d := Nat.pow_le_pow_right (by omega) (by omega)
    generalize 2 ^ (n.log2 + 1) = a at *
    generalize 2 ^ (n.log2 + 2) = b at *
    generalize 2 ^ d = c at *
    rw [Nat.div_eq_of_lt (by omega : n < b), Nat.div_eq_of_lt (by omega : n < c)]
theorem cdiv_mul (n D k : Nat) (hk : 0 < k) : cdiv (n * k) (D * k) = cdiv n D := by
  unfold cdiv
  rw [Nat.mul_div_mul_right _ _ hk, Nat.mul_mod_mul_right]
  by_cases h : n % D = 0
  · rw [h, Nat.zero_mul, if_pos rfl]
  · rw [if_neg h, if_neg (Nat.mul_ne_zero h (by omega))]
theorem cdiv_ratio {n D n' E : Nat} (h : n * E = n' * D) (hD : 0 < D) (hE : 0 < E) : cdiv n D = cdiv n' E := by
  rw [← cdiv_mul n D E hE, ← cdiv_mul n' E D hD, h, Nat.mul_comm D E]
theorem div_ratio {n D n' E : Nat} (h : n * E = n' * D) (hD : 0 < D) (hE : 0 < E) : n / D = n' / E := by
  rw [← Nat.mul_div_mul_right n D hE, ← Nat.mul_div_mul_right n' E hD, h, Nat.mul_comm D E]
theorem pw1 (i : Int) (h : -149 ≤ i) : i.toNat + 149 = (i - -149).toNat + (-i).toNat := by omega
theorem pw2 (i L : Int) (h : -149 ≤ i) (hL : L ≤ i) : (i - L).toNat + L.toNat + 149 = (i - -149).toNat + (-L).toNat := by omega
/-- how many whole ones -/
def wholes (g : Nat) : Nat := sizeOf single g / 2 ^ 149
def ups (g : Nat) : Nat := cdiv (sizeOf single g) (2 ^ 149)
theorem trunc32 (g : Nat) (hg : g < 2139095040) : (single.read g).toInt .zero = some ((wholes g : Nat) : Int) := by
  have hr := read_number single false g (by rw [inf32]; exact hg)
  rw [word_false] at hr
  have hp := placeOf_ge single g
  rw [lp32] at hp
  have hs := sizeOf_parts single g
  rw [lp32] at hs
  rw [hr]
  unfold Datum.toInt Datum.integral
  dsimp only
  rw [cut_zr]
  have e : magOf single g <<< (placeOf single g).toNat / 2 ^ (-placeOf single g).toNat = wholes g := by
    unfold wholes
    refine div_ratio ?_ (Nat.two_pow_pos _) (Nat.two_pow_pos _)
    rw [hs, Nat.shiftLeft_eq, Nat.mul_assoc, Nat.mul_assoc, ← Nat.pow_add, ← Nat.pow_add, pw1 _ hp]
  rw [e]
  simp [signed]
theorem toInt32 (g : Nat) (hg : g < 2139095040) (h : wholes g ≤ 1000000000000) : floatToIntVal .f32 g .i64 = some ((wholes g : Nat) : Int) := by
  unfold floatToIntVal FloatKind.decode
  show (match ((single.read g).toInt .zero) with | some n => if IntKind.i64.min ≤ n ∧ n ≤ IntKind.i64.max then some n else none | none => none) = _
  rw [trunc32 g hg]
  have : (-9223372036854775808 : Int) ≤ (wholes g : Int) ∧ (wholes g : Int) ≤ 9223372036854775807 := by omega
  show (if (-9223372036854775808 : Int) ≤ (wholes g : Int) ∧ (wholes g : Int) ≤ 9223372036854775807 then _ else _) = _
  rw [if_pos this]
theorem toInt64 (n : Nat) (h : n < 2 ^ 53) : floatToIntVal .f64 (double.nearest false n 0) .i64 = some (n : Int) := by
  unfold floatToIntVal FloatKind.decode
  show (match ((double.read (double.nearest false n 0)).toInt .zero) with | some n => if IntKind.i64.min ≤ n ∧ n ≤ IntKind.i64.max then some n else none | none => none) = _
  have hv : (double.read (double.nearest false n 0)).toInt .zero = some (n : Int) := by
    by_cases h0 : n = 0
    · subst h0; decide
    · have hp : double.leastPlace ≤ (0 : Int) := by rw [lp64]; omega
      have hr : rungOf double n 0 < double.infRung := by
        have hl := log2_le double n h
        rw [fb64] at hl
        have := rungOf_lt double n 0 h0 h hp 2000 (by rw [fb64, lp64]; omega) (by omega)
        rw [bi64] at this; rw [inf64]; omega
      have hl := lastOf_le double n 0 h hp
      rw [read_nearest double false n 0 h0 h hp hr]
      unfold Datum.toInt Datum.integral
      have e1 : (lastOf double n 0).toNat = 0 := by omega
      have e2 : (-lastOf double n 0).toNat = (0 - lastOf double n 0).toNat := by omega
      dsimp only
      rw [e1, e2, Nat.shiftLeft_zero, cutz n _ h0]
      simp [signed]
  rw [hv]
  have : (-9223372036854775808 : Int) ≤ (n : Int) ∧ (n : Int) ≤ 9223372036854775807 := by
    have : (2 : Nat) ^ 53 = 9007199254740992 := by decide
    omega
  show (if (-9223372036854775808 : Int) ≤ (n : Int) ∧ (n : Int) ≤ 9223372036854775807 then _ else _) = _
  rw [if_pos this]
/-- a narrow number made wide, and what the wide one is -/
theorem wide (g : Nat) (hg : g < 2139095040) : ∃ W m L, floatToFloatBits .f32 g .f64 = some W ∧ double.read W = .number false m L ∧ (Datum.number false m L).integral .up = .number false (ups g) 0 := by
  have hr := read_number single false g (by rw [inf32]; exact hg)
  rw [word_false] at hr
  have hp := placeOf_ge single g
  rw [lp32] at hp
  have hs := sizeOf_parts single g
  rw [lp32] at hs
  have hm := magOf_lt single g
  rw [fb32] at hm
  have key : ∃ m L, double.read (double.nearest false (magOf single g) (placeOf single g)) = .number false m L ∧ (Datum.number false m L).integral .up = .number false (ups g) 0 := by
    by_cases h0 : magOf single g = 0
    · refine ⟨0, -1074, ?_, ?_⟩
      · rw [h0, nearest_zero]; decide
      · unfold Datum.integral ups
        dsimp only
        rw [hs, h0, Nat.zero_mul, cut_up]
        have z : ∀ D, cdiv 0 D = 0 := fun D => by unfold cdiv; rw [Nat.zero_div, Nat.zero_mod, if_pos rfl]
        rw [z, show (0 : Nat) <<< ((-1074 : Int)).toNat = 0 from by rw [Nat.zero_shiftLeft], z]
    · have hm2 : magOf single g < 2 ^ (double.fractionBits + 1) := by
        rw [fb64]
        exact Nat.lt_trans hm (by decide)
      have hp2 : double.leastPlace ≤ placeOf single g := by rw [lp64]; omega
      have hl2 := log2_le double _ hm2
      rw [fb64] at hl2
      have hpu : placeOf single g ≤ 200 := by
        unfold placeOf
        split
        · rw [lp32]; omega
        · rw [lp32, bi32]; omega
      have hri : rungOf double (magOf single g) (placeOf single g) < double.infRung := by
        have := rungOf_lt double _ _ h0 hm2 hp2 1400 (by rw [fb64, lp64]; omega) (by omega)
        rw [bi64] at this; rw [inf64]; omega
      have hL := lastOf_le double _ _ hm2 hp2
      refine ⟨_, _, read_nearest double false _ _ h0 hm2 hp2 hri, ?_⟩
      unfold Datum.integral ups
      dsimp only
      rw [cut_up]
      congr 1
      refine cdiv_ratio ?_ (Nat.two_pow_pos _) (Nat.two_pow_pos _)
      rw [hs, Nat.shiftLeft_eq, Nat.mul_assoc, Nat.mul_assoc, Nat.mul_assoc, ← Nat.pow_add, ← Nat.pow_add, ← Nat.pow_add, ← Nat.add_assoc, pw2 _ _ hp hL]
  obtain ⟨m, L, h1, h2⟩ := key
  refine ⟨double.nearest false (magOf single g) (placeOf single g), m, L, ?_, h1, h2⟩
  unfold floatToFloatBits FloatKind.decode
  rw [if_neg (by decide)]
  show (match single.read g with | .nan _ _ => none | .infinity s => some (FloatKind.f64.encode (.infinity s)) | .number s m e => if (double.read (double.nearest s m e)).isInfinity then none else some (double.nearest s m e)) = _
  rw [hr]
  dsimp only
  rw [h1]
  rfl
end Fl
end Go.Proofs.YtfcbjcebkahehaaGreatDoor
