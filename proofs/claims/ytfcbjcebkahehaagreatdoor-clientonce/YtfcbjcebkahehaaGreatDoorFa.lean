/- Plain arithmetic of binary floating point: when a number is exact in a format, how halving and doubling act on it, how two of them stand to each other. -/
import Derived.Laws.FloatArith
namespace Go.Proofs.YtfcbjcebkahehaaGreatDoor
namespace Fl
open Ieee

theorem log2_mul_pow (m k : Nat) (hm : m ≠ 0) : (m * 2 ^ k).log2 = m.log2 + k := by
  have h1 : 2 ^ m.log2 ≤ m := Nat.log2_self_le hm
  have h2 : m < 2 ^ (m.log2 + 1) := Nat.lt_log2_self
  have hp : 0 < 2 ^ k := Nat.two_pow_pos k
  have h0 : m * 2 ^ k ≠ 0 := Nat.mul_ne_zero hm (by omega)
  rw [Nat.log2_eq_iff h0]
  refine ⟨?_, ?_⟩
  · rw [Nat.pow_add]; exact Nat.mul_le_mul_right _ h1
  · rw [show m.log2 + k + 1 = (m.log2 + 1) + k from by omega, Nat.pow_add]
    exact Nat.mul_lt_mul_of_pos_right h2 hp

theorem cut_zero (neg : Bool) (n : Nat) : Toward.even.cut neg n 0 = n := by
  simp [Toward.cut, Nat.mod_one]

theorem cut_mul (neg : Bool) (n drop k : Nat) (hn : n ≠ 0) : Toward.even.cut neg (n * 2 ^ k) (drop + k) = Toward.even.cut neg n drop := by
  have hp : 0 < 2 ^ k := Nat.two_pow_pos k
  unfold Toward.cut
  rw [log2_mul_pow n k hn]
  have hmin : min (drop + k) (n.log2 + k + 2) = min drop (n.log2 + 2) + k := by omega
  rw [hmin]
  simp only [Nat.one_shiftLeft, Nat.pow_add]
  generalize 2 ^ (min drop (n.log2 + 2)) = g
  have e1 : n * 2 ^ k / (g * 2 ^ k) = n / g := Nat.mul_div_mul_right _ _ hp
  have e2 : n * 2 ^ k % (g * 2 ^ k) = (n % g) * 2 ^ k := Nat.mul_mod_mul_right ..
  rw [e1, e2]
  generalize n % g = r
  generalize n / g = q
  have e3 : decide (g * 2 ^ k < 2 * (r * 2 ^ k)) = decide (g < 2 * r) := by
    rw [← Nat.mul_assoc, decide_eq_decide]
    exact Nat.mul_lt_mul_right hp
  have e4 : (g * 2 ^ k == 2 * (r * 2 ^ k)) = (g == 2 * r) := by
    rw [← Nat.mul_assoc, Bool.eq_iff_iff, beq_iff_eq, beq_iff_eq]
    constructor
    · intro h; exact Nat.eq_of_mul_eq_mul_right hp h
    · intro h; rw [h]
  rw [e3, e4]

theorem nearest_shift (f : Format) (neg : Bool) (m k : Nat) (p : Int) (hm : m ≠ 0) : f.nearest neg (m * 2 ^ k) p = f.nearest neg m (p + k) := by
  have hp : 0 < 2 ^ k := Nat.two_pow_pos k
  have h0 : m * 2 ^ k ≠ 0 := Nat.mul_ne_zero hm (by omega)
  unfold Format.nearest
  rw [if_neg hm, if_neg h0, log2_mul_pow m k hm]
  have hl : max (p + ((m.log2 + k : Nat) : Int) - (f.fractionBits : Int)) f.leastPlace = max (p + (k : Int) + (m.log2 : Int) - (f.fractionBits : Int)) f.leastPlace := by
    rw [Int.natCast_add]; congr 1; omega
  rw [hl]
  generalize max (p + (k : Int) + (m.log2 : Int) - (f.fractionBits : Int)) f.leastPlace = last
  have hk : Toward.even.cut neg ((m * 2 ^ k) <<< (p - last).toNat) (last - p).toNat = Toward.even.cut neg (m <<< (p + k - last).toNat) (last - (p + k)).toNat := by
    simp only [Nat.shiftLeft_eq]
    by_cases h1 : last ≤ p
    · have a1 : (last - p).toNat = 0 := by omega
      have a2 : (last - (p + (k : Int))).toNat = 0 := by omega
      have a3 : (p + (k : Int) - last).toNat = k + (p - last).toNat := by omega
      rw [a1, a2, a3, cut_zero, cut_zero, Nat.pow_add, Nat.mul_assoc]
    · by_cases h2 : last ≤ p + k
      · have a1 : (p - last).toNat = 0 := by omega
        have a2 : (last - (p + (k : Int))).toNat = 0 := by omega
        have a3 : k = (p + (k : Int) - last).toNat + (last - p).toNat := by omega
        rw [a1, a2, cut_zero, Nat.pow_zero, Nat.mul_one]
        generalize (p + (k : Int) - last).toNat = x at a3 ⊢
        generalize (last - p).toNat = y at a3 ⊢
        subst a3
        have hz : m * 2 ^ x ≠ 0 := Nat.mul_ne_zero hm (by have := Nat.two_pow_pos x; omega)
        have := cut_mul neg (m * 2 ^ x) 0 y hz
        rw [Nat.zero_add, cut_zero, Nat.mul_assoc, ← Nat.pow_add] at this
        exact this
      · have a1 : (p - last).toNat = 0 := by omega
        have a2 : (p + (k : Int) - last).toNat = 0 := by omega
        have a3 : (last - p).toNat = (last - (p + (k : Int))).toNat + k := by omega
        rw [a1, a2, a3, Nat.pow_zero, Nat.mul_one, Nat.mul_one, cut_mul neg m _ k hm]
  dsimp only
  rw [hk]

/-- The place of the last digit that a format keeps of a number. -/
def lastOf (f : Format) (m : Nat) (p : Int) : Int := max (p + m.log2 - f.fractionBits) f.leastPlace

theorem log2_le (f : Format) (m : Nat) (h : m < 2 ^ (f.fractionBits + 1)) : m.log2 ≤ f.fractionBits := by
  by_cases h0 : m = 0
  · subst h0; simp
  · have := (Nat.log2_lt h0).2 h; omega

theorem lastOf_le (f : Format) (m : Nat) (p : Int) (h : m < 2 ^ (f.fractionBits + 1)) (hp : f.leastPlace ≤ p) : lastOf f m p ≤ p := by
  have := log2_le f m h
  unfold lastOf; omega

/-- The rung of an exact number. -/
def rungOf (f : Format) (m : Nat) (p : Int) : Nat := (lastOf f m p - f.leastPlace).toNat * f.binade + m * 2 ^ (p - lastOf f m p).toNat

theorem nearest_exact (f : Format) (neg : Bool) (m : Nat) (p : Int) (hm : m ≠ 0) (h : m < 2 ^ (f.fractionBits + 1)) (hp : f.leastPlace ≤ p) :
    f.nearest neg m p = f.word neg (min (rungOf f m p) f.infRung) := by
  have hl := lastOf_le f m p h hp
  unfold Format.nearest rungOf
  rw [if_neg hm]
  show f.word neg (min ((lastOf f m p - f.leastPlace).toNat * f.binade + Toward.even.cut neg (m <<< (p - lastOf f m p).toNat) (lastOf f m p - p).toNat) f.infRung) = _
  have a1 : (lastOf f m p - p).toNat = 0 := by omega
  rw [a1, cut_zero, Nat.shiftLeft_eq]

theorem nearest_zero (f : Format) (neg : Bool) (p : Int) : f.nearest neg 0 p = f.word neg 0 := by
  unfold Format.nearest; rw [if_pos rfl]

theorem read_word (f : Format) (neg : Bool) (r : Nat) (h : r < f.signWeight) : f.read (f.word neg r) =
    if r < f.binade then .number neg r f.leastPlace
    else if r < f.infRung then .number neg (f.binade + r % f.binade) (f.leastPlace + (r / f.binade - 1 : Nat))
    else if r = f.infRung then .infinity neg else .nan neg (r - f.infRung) := by
  have hs : 0 < f.signWeight := Nat.two_pow_pos _
  unfold Format.read
  have e1 : f.word neg r % f.signWeight = r := by
    unfold Format.word; cases neg
    · simpa using Nat.mod_eq_of_lt h
    · simp only [if_true]; rw [Nat.add_mod_left, Nat.mod_eq_of_lt h]
  have e2 : (f.word neg r / f.signWeight % 2 == 1) = neg := by
    unfold Format.word; cases neg
    · simp [Nat.div_eq_of_lt h]
    · simp only [if_true]
      rw [Nat.add_div_left _ hs, Nat.div_eq_of_lt h]
      rfl
  simp only [e1, e2]

/-- Each word is that of a sign and a rung. -/
theorem word_of (f : Format) (x : Nat) (h : x < 2 ^ f.width) : ∃ neg r, r < f.signWeight ∧ x = f.word neg r := by
  have two : 2 ^ f.width = 2 * f.signWeight := by
    unfold Format.width Format.signWeight
    rw [Nat.add_assoc, Nat.add_comm 1, Nat.pow_succ, Nat.mul_comm]
  by_cases hx : x < f.signWeight
  · exact ⟨false, x, hx, by simp [Format.word]⟩
  · exact ⟨true, x - f.signWeight, by omega, by simp only [Format.word, if_true]; omega⟩

/-- What a rung that is a number's stands for. -/
def magOf (f : Format) (r : Nat) : Nat := if r < f.binade then r else f.binade + r % f.binade
def placeOf (f : Format) (r : Nat) : Int := if r < f.binade then f.leastPlace else f.leastPlace + (r / f.binade - 1 : Nat)

theorem read_number (f : Format) (neg : Bool) (r : Nat) (h : r < f.infRung) : f.read (f.word neg r) = .number neg (magOf f r) (placeOf f r) := by
  have := f.infRung_lt
  rw [read_word f neg r (by omega)]
  unfold magOf placeOf
  by_cases hb : r < f.binade
  · simp [hb]
  · simp [hb, h]

theorem binade_pow (f : Format) : 2 ^ (f.fractionBits + 1) = 2 * f.binade := by
  unfold Format.binade; rw [Nat.pow_succ]; omega

theorem magOf_lt (f : Format) (r : Nat) : magOf f r < 2 ^ (f.fractionBits + 1) := by
  have hb : 0 < f.binade := Nat.two_pow_pos _
  have := Nat.mod_lt r hb
  rw [binade_pow]
  unfold magOf; split <;> omega

theorem placeOf_ge (f : Format) (r : Nat) : f.leastPlace ≤ placeOf f r := by
  unfold placeOf; split <;> omega

theorem magOf_zero (f : Format) (r : Nat) : magOf f r = 0 ↔ r = 0 := by
  have hb : 0 < f.binade := Nat.two_pow_pos _
  unfold magOf; split
  · rfl
  · constructor <;> intro h <;> omega

theorem log2_binade (f : Format) (x : Nat) (h : x < f.binade) : (f.binade + x).log2 = f.fractionBits := by
  have hb : 0 < f.binade := Nat.two_pow_pos _
  rw [Nat.log2_eq_iff (by omega)]
  refine ⟨?_, ?_⟩
  · show f.binade ≤ _; omega
  · rw [binade_pow]; omega

/-- The rung of what a rung stands for is that rung. -/
theorem rungOf_parts (f : Format) (r : Nat) : rungOf f (magOf f r) (placeOf f r) = r := by
  have hb : 0 < f.binade := Nat.two_pow_pos _
  unfold rungOf
  have hl : lastOf f (magOf f r) (placeOf f r) = placeOf f r := by
    unfold lastOf magOf placeOf
    split
    · rename_i h
      have : r.log2 ≤ f.fractionBits := log2_le f r (by rw [binade_pow]; omega)
      omega
    · rw [log2_binade f _ (Nat.mod_lt r hb)]; omega
  rw [hl]
  unfold magOf placeOf
  split
  · simp
  · rename_i h
    have h1 : 1 ≤ r / f.binade := (Nat.one_le_div_iff hb).2 (by omega)
    have h2 := Nat.div_add_mod r f.binade
    have e : (f.leastPlace + ((r / f.binade - 1 : Nat) : Int) - f.leastPlace).toNat = r / f.binade - 1 := by omega
    rw [e, Int.sub_self, Int.toNat_zero, Nat.pow_zero, Nat.mul_one, Nat.sub_mul, Nat.one_mul, Nat.mul_comm (r / f.binade)]
    have : f.binade ≤ f.binade * (r / f.binade) := Nat.le_mul_of_pos_right _ (by omega)
    omega

theorem nearest_parts (f : Format) (neg : Bool) (r : Nat) (h : r < f.infRung) : f.nearest neg (magOf f r) (placeOf f r) = f.word neg r := by
  by_cases h0 : r = 0
  · rw [(magOf_zero f r).2 h0, nearest_zero, h0]
  · rw [nearest_exact f neg _ _ (fun e => h0 ((magOf_zero f r).1 e)) (magOf_lt f r) (placeOf_ge f r), rungOf_parts, Nat.min_eq_left (by omega)]

/-- An exact number is read as itself, shifted to the last place that is kept. -/
theorem parts_rungOf (f : Format) (m : Nat) (p : Int) (hm : m ≠ 0) (h : m < 2 ^ (f.fractionBits + 1)) (hp : f.leastPlace ≤ p) :
    magOf f (rungOf f m p) = m * 2 ^ (p - lastOf f m p).toNat ∧ placeOf f (rungOf f m p) = lastOf f m p := by
  have hb : 0 < f.binade := Nat.two_pow_pos _
  have hl := lastOf_le f m p h hp
  have hL : f.leastPlace ≤ lastOf f m p := by unfold lastOf; omega
  have hlog := log2_mul_pow m (p - lastOf f m p).toNat hm
  have hK0 : m * 2 ^ (p - lastOf f m p).toNat ≠ 0 := Nat.mul_ne_zero hm (by have := Nat.two_pow_pos (p - lastOf f m p).toNat; omega)
  have hlo := Nat.log2_self_le hK0
  have hhi := @Nat.lt_log2_self (m * 2 ^ (p - lastOf f m p).toNat)
  rw [hlog] at hlo hhi
  by_cases hc : f.leastPlace ≤ p + m.log2 - f.fractionBits
  · have hlast : lastOf f m p = p + m.log2 - f.fractionBits := by unfold lastOf; omega
    have hs : m.log2 + (p - lastOf f m p).toNat = f.fractionBits := by
      have := log2_le f m h
      rw [hlast]; omega
    rw [hs] at hlo hhi
    rw [binade_pow] at hhi
    have hlo' : f.binade ≤ m * 2 ^ (p - lastOf f m p).toNat := hlo
    clear hlo
    unfold rungOf
    generalize m * 2 ^ (p - lastOf f m p).toNat = K at *
    have hn : ¬ ((lastOf f m p - f.leastPlace).toNat * f.binade + K < f.binade) := by omega
    have hdiv : ((lastOf f m p - f.leastPlace).toNat * f.binade + K) / f.binade = (lastOf f m p - f.leastPlace).toNat + 1 := by
      rw [Nat.mul_comm, Nat.mul_add_div hb, Nat.div_eq_of_lt_le (k := 1) (by omega) (by omega)]
    have hmod : ((lastOf f m p - f.leastPlace).toNat * f.binade + K) % f.binade = K - f.binade := by
      rw [Nat.mul_comm, Nat.mul_add_mod, Nat.mod_eq_sub_mod hlo', Nat.mod_eq_of_lt (by omega)]
    unfold magOf placeOf
    rw [if_neg hn, if_neg hn, hdiv, hmod]
    exact ⟨by omega, by omega⟩
  · have hlast : lastOf f m p = f.leastPlace := by unfold lastOf; omega
    have hs : m.log2 + (p - lastOf f m p).toNat + 1 ≤ f.fractionBits := by rw [hlast]; omega
    have hK : m * 2 ^ (p - lastOf f m p).toNat < f.binade := Nat.lt_of_lt_of_le hhi (Nat.pow_le_pow_right (by omega) hs)
    unfold rungOf
    have e : (lastOf f m p - f.leastPlace).toNat = 0 := by omega
    rw [e, Nat.zero_mul, Nat.zero_add]
    unfold magOf placeOf
    rw [if_pos hK, if_pos hK]
    exact ⟨rfl, hlast.symm⟩

theorem read_nearest (f : Format) (neg : Bool) (m : Nat) (p : Int) (hm : m ≠ 0) (h : m < 2 ^ (f.fractionBits + 1)) (hp : f.leastPlace ≤ p) (hr : rungOf f m p < f.infRung) :
    f.read (f.nearest neg m p) = .number neg (m * 2 ^ (p - lastOf f m p).toNat) (lastOf f m p) := by
  rw [nearest_exact f neg m p hm h hp, Nat.min_eq_left (by omega), read_number f neg _ hr, (parts_rungOf f m p hm h hp).1, (parts_rungOf f m p hm h hp).2]

theorem binade_ne (f : Format) : f.binade ≠ 0 := by have : 0 < f.binade := Nat.two_pow_pos _; omega

theorem mul_two (f : Format) (two : Nat) (h2 : f.read two = .number false f.binade (1 - f.fractionBits)) (x : Nat) (s : Bool) (m : Nat) (i : Int) (hx : f.read x = .number s m i) :
    f.mul x two = some (f.nearest s m (i + 1)) := by
  unfold Format.mul
  rw [hx, h2]
  simp only [Datum.product, Option.map_some, Format.write, Bool.xor_false]
  by_cases h0 : m = 0
  · subst h0; rw [Nat.zero_mul, nearest_zero, nearest_zero]
  · unfold Format.binade
    rw [nearest_shift f s m _ _ h0]
    congr 2; omega

theorem div_two (f : Format) (two : Nat) (h2 : f.read two = .number false f.binade (1 - f.fractionBits)) (x : Nat) (s : Bool) (m : Nat) (i : Int) (hx : f.read x = .number s m i) (hm : m < 2 ^ (f.fractionBits + 1)) :
    f.div x two = some (f.nearest s m (i - 1)) := by
  have hl := log2_le f m hm
  have hb : 0 < f.binade := Nat.two_pow_pos _
  unfold Format.div
  rw [hx, h2]
  have hbl : f.binade.log2 = f.fractionBits := by
    have := log2_binade f 0 hb
    simpa using this
  simp only [Datum.quotient, if_neg (binade_ne f), Option.map_some, Format.write, Bool.xor_false, hbl]
  generalize hmore : f.fractionBits + 2 + f.fractionBits - m.log2 = more
  have e : m <<< more = m * 2 ^ (more - f.fractionBits) * f.binade := by
    unfold Format.binade
    rw [Nat.shiftLeft_eq, Nat.mul_assoc, ← Nat.pow_add]
    congr 2; omega
  rw [e, Nat.mul_div_cancel _ hb, Nat.mul_mod_left]
  by_cases h0 : m = 0
  · subst h0; simp [nearest_zero]
  · have e2 : 2 * (m * 2 ^ (more - f.fractionBits)) + (0 != 0).toNat = m * 2 ^ (more - f.fractionBits + 1) := by
      rw [Nat.pow_succ, Nat.mul_comm 2, Nat.mul_assoc]; simp
    rw [e2, nearest_shift f s m _ _ h0]
    congr 2; omega

/-- How great a rung's number is, in units of the least one. -/
def sizeOf (f : Format) (r : Nat) : Nat := if r < f.binade then r else (f.binade + r % f.binade) * 2 ^ (r / f.binade - 1)

theorem sizeOf_parts (f : Format) (r : Nat) : sizeOf f r = magOf f r * 2 ^ (placeOf f r - f.leastPlace).toNat := by
  unfold sizeOf magOf placeOf
  split
  · simp
  · congr 2; omega

theorem sizeOf_succ (f : Format) (r : Nat) : sizeOf f r < sizeOf f (r + 1) := by
  have hb : 0 < f.binade := Nat.two_pow_pos _
  have hm := Nat.mod_lt r hb
  have hd := Nat.div_add_mod r f.binade
  unfold sizeOf
  by_cases h1 : r + 1 < f.binade
  · rw [if_pos (by omega), if_pos h1]; omega
  · rw [if_neg h1]
    by_cases h2 : r < f.binade
    · have : r + 1 = f.binade := by omega
      rw [if_pos h2, this, Nat.mod_self, Nat.div_self hb]; simp; omega
    · rw [if_neg h2]
      by_cases h3 : r % f.binade + 1 < f.binade
      · have e1 : (r + 1) % f.binade = r % f.binade + 1 := by
          rw [Nat.add_mod, Nat.mod_eq_of_lt (a := 1) (by omega), Nat.mod_eq_of_lt h3]
        have e2 : (r + 1) / f.binade = r / f.binade := by
          refine Nat.div_eq_of_lt_le ?_ ?_
          · rw [Nat.mul_comm]; omega
          · rw [Nat.add_mul, Nat.mul_comm]; omega
        rw [e1, e2]
        exact Nat.mul_lt_mul_of_pos_right (by omega) (Nat.two_pow_pos _)
      · have e0 : r + 1 = f.binade * (r / f.binade + 1) := by rw [Nat.mul_add]; omega
        have e1 : (r + 1) % f.binade = 0 := by rw [e0, Nat.mul_mod_right]
        have e2 : (r + 1) / f.binade = r / f.binade + 1 := by rw [e0, Nat.mul_div_cancel_left _ hb]
        have h4 : 1 ≤ r / f.binade := (Nat.one_le_div_iff hb).2 (by omega)
        rw [e1, e2, Nat.add_zero, Nat.add_sub_cancel]
        have e3 : 2 ^ (r / f.binade) = 2 * 2 ^ (r / f.binade - 1) := by
          rw [← Nat.pow_succ']; congr 1; omega
        rw [e3, ← Nat.mul_assoc]
        exact Nat.mul_lt_mul_of_pos_right (by omega) (Nat.two_pow_pos _)

theorem sizeOf_lt (f : Format) {r r' : Nat} (h : r < r') : sizeOf f r < sizeOf f r' := by
  induction r' with
  | zero => omega
  | succ n ih =>
    have := sizeOf_succ f n
    by_cases e : r = n
    · subst e; exact this
    · have := ih (by omega); omega

theorem compare_mul (a b k : Nat) (hk : 0 < k) : compare (a * k) (b * k) = compare a b := by
  rcases Nat.lt_trichotomy a b with h | h | h
  · rw [Nat.compare_eq_lt.2 h, Nat.compare_eq_lt.2 (Nat.mul_lt_mul_of_pos_right h hk)]
  · subst h; simp
  · rw [Nat.compare_eq_gt.2 h, Nat.compare_eq_gt.2 (Nat.mul_lt_mul_of_pos_right h hk)]

theorem compare_sizeOf (f : Format) (r r' : Nat) : compare (sizeOf f r) (sizeOf f r') = compare r r' := by
  rcases Nat.lt_trichotomy r r' with h | h | h
  · rw [Nat.compare_eq_lt.2 h, Nat.compare_eq_lt.2 (sizeOf_lt f h)]
  · subst h; simp
  · rw [Nat.compare_eq_gt.2 h, Nat.compare_eq_gt.2 (sizeOf_lt f h)]

theorem compare_cast (a b : Nat) : compare (a : Int) (b : Int) = compare a b := by
  rcases Nat.lt_trichotomy a b with h | h | h
  · rw [Nat.compare_eq_lt.2 h, Int.compare_eq_lt.2 (by omega)]
  · subst h; simp
  · rw [Nat.compare_eq_gt.2 h, Int.compare_eq_gt.2 (by omega)]

theorem compare_negs (a b : Nat) : compare (-(a : Int)) (-(b : Int)) = compare b a := by
  rcases Nat.lt_trichotomy a b with h | h | h
  · rw [Nat.compare_eq_gt.2 h, Int.compare_eq_gt.2 (by omega)]
  · subst h; simp
  · rw [Nat.compare_eq_lt.2 h, Int.compare_eq_lt.2 (by omega)]

/-- Both sizes in the units of the lower place. -/
theorem common (f : Format) (r r' : Nat) :
    compare (magOf f r <<< (placeOf f r - min (placeOf f r) (placeOf f r')).toNat) (magOf f r' <<< (placeOf f r' - min (placeOf f r) (placeOf f r')).toNat) = compare r r' := by
  rw [← compare_sizeOf f r r', sizeOf_parts, sizeOf_parts, Nat.shiftLeft_eq, Nat.shiftLeft_eq]
  have h1 := placeOf_ge f r
  have h2 := placeOf_ge f r'
  generalize placeOf f r = p at *
  generalize placeOf f r' = q at *
  rw [← compare_mul _ _ (2 ^ (min p q - f.leastPlace).toNat) (Nat.two_pow_pos _), Nat.mul_assoc, Nat.mul_assoc, ← Nat.pow_add, ← Nat.pow_add]
  congr 3 <;> omega

/-- Two numbers that are not below 0 stand as their rungs do. -/
theorem order_pos (f : Format) (r r' : Nat) (h : r < f.infRung) (h' : r' < f.infRung) : f.order (f.word false r) (f.word false r') = some (compare r r') := by
  unfold Format.order
  rw [read_number f false r h, read_number f false r' h']
  simp only [Datum.order, signed, Bool.false_eq_true, if_false]
  rw [compare_cast, common]

/-! ### numbers of 64 bits and of 32 -/
theorem inf64 : double.infRung = 9218868437227405312 := rfl
theorem sw64 : double.signWeight = 9223372036854775808 := rfl
theorem bi64 : double.binade = 4503599627370496 := rfl
theorem lp64 : double.leastPlace = -1074 := rfl
theorem fb64 : double.fractionBits = 52 := rfl
theorem inf32 : single.infRung = 2139095040 := rfl
theorem sw32 : single.signWeight = 2147483648 := rfl
theorem bi32 : single.binade = 8388608 := rfl
theorem lp32 : single.leastPlace = -149 := rfl
theorem fb32 : single.fractionBits = 23 := rfl
theorem two64 : double.read 4611686018427387904 = .number false double.binade (1 - double.fractionBits) := by decide
theorem two32 : single.read 1073741824 = .number false single.binade (1 - single.fractionBits) := by decide

theorem word_false (f : Format) (r : Nat) : f.word false r = r := rfl
theorem word_true (f : Format) (r : Nat) : f.word true r = f.signWeight + r := rfl

theorem read_inf (f : Format) (neg : Bool) (hbi : f.binade ≤ f.infRung) : f.read (f.word neg f.infRung) = .infinity neg := by
  rw [read_word f neg _ f.infRung_lt, if_neg (by omega), if_neg (by omega), if_pos rfl]

theorem read_nan (f : Format) (neg : Bool) (r : Nat) (h : r < f.signWeight) (hbi : f.binade ≤ f.infRung) (hr : f.infRung < r) : f.read (f.word neg r) = .nan neg (r - f.infRung) := by
  rw [read_word f neg _ h, if_neg (by omega), if_neg (by omega), if_neg (by omega)]

theorem order_self (f : Format) (neg : Bool) (r : Nat) (h : r < f.signWeight) (hbi : f.binade ≤ f.infRung) : (f.order (f.word neg r) (f.word neg r) != some .eq) = decide (f.infRung < r) := by
  unfold Format.order
  rcases Nat.lt_trichotomy r f.infRung with h1 | h1 | h1
  · have : ¬ f.infRung < r := by omega
    rw [read_number f neg r h1]
    simp [Datum.order, this]
  · subst h1
    rw [read_inf f neg hbi]
    simp [Datum.order]
  · rw [read_nan f neg r h hbi h1]
    simp [Datum.order, h1]

/-- Not below 0, and no NaN: they stand as their rungs. -/
theorem ordPos (f : Format) (r r' : Nat) (h : r ≤ f.infRung) (h' : r' ≤ f.infRung) (hbi : f.binade ≤ f.infRung) : f.order r r' = some (compare r r') := by
  by_cases h1 : r < f.infRung
  · by_cases h2 : r' < f.infRung
    · exact order_pos f r r' h1 h2
    · have e : r' = f.infRung := by omega
      subst e
      unfold Format.order
      rw [← word_false f r, ← word_false f f.infRung, read_number f false r h1, read_inf f false hbi, word_false, word_false, Nat.compare_eq_lt.2 h1]
      rfl
  · have e : r = f.infRung := by omega
    subst e
    by_cases h2 : r' < f.infRung
    · unfold Format.order
      rw [← word_false f r', ← word_false f f.infRung, read_number f false r' h2, read_inf f false hbi, word_false, word_false, Nat.compare_eq_gt.2 h2]
      rfl
    · have e : r' = f.infRung := by omega
      subst e
      unfold Format.order
      rw [← word_false f f.infRung, read_inf f false hbi, word_false]
      simp [Datum.order]

theorem read_zero (f : Format) (neg : Bool) : f.read (f.word neg 0) = .number neg 0 f.leastPlace := by
  have hs : 0 < f.signWeight := Nat.two_pow_pos _
  have hb : 0 < f.binade := Nat.two_pow_pos _
  rw [read_word f neg 0 hs, if_pos hb]

theorem ordNeg (f : Format) (r : Nat) (h : r ≤ f.infRung) (h0 : 0 < r) (hbi : f.binade ≤ f.infRung) : f.order (f.word true r) 0 = some .lt := by
  unfold Format.order
  rw [show f.read 0 = .number false 0 f.leastPlace from read_zero f false]
  by_cases h1 : r < f.infRung
  · rw [read_number f true r h1]
    have hm : magOf f r ≠ 0 := fun e => by have := (magOf_zero f r).1 e; omega
    simp only [Datum.order, signed, if_true, Bool.false_eq_true, if_false, Nat.zero_shiftLeft]
    rw [Int.compare_eq_lt.2]
    have : 0 < magOf f r <<< (placeOf f r - min (placeOf f r) f.leastPlace).toNat := by
      rw [Nat.shiftLeft_eq]; exact Nat.mul_pos (by omega) (Nat.two_pow_pos _)
    omega
  · have e : r = f.infRung := by omega
    subst e
    rw [read_inf f true hbi]
    rfl

theorem ordZero (f : Format) (neg : Bool) : f.order (f.word neg 0) 0 = some .eq := by
  unfold Format.order
  rw [show f.read 0 = .number false 0 f.leastPlace from read_zero f false, read_zero]
  cases neg <;> simp [Datum.order, signed]

theorem div_zero (f : Format) (neg : Bool) (one : Nat) (m : Nat) (i : Int) (hm : m ≠ 0) (h1 : f.read one = .number false m i) : f.div one (f.word neg 0) = some (f.word neg f.infRung) := by
  unfold Format.div
  rw [h1, read_zero]
  simp [Datum.quotient, hm, Format.write]

/-- Doubling an exact number. -/
theorem dbl (f : Format) (two : Nat) (h2 : f.read two = .number false f.binade (1 - f.fractionBits)) (s : Bool) (m : Nat) (p : Int) (hm : m ≠ 0) (h : m < 2 ^ (f.fractionBits + 1)) (hp : f.leastPlace ≤ p) (hr : rungOf f m p < f.infRung) :
    f.mul (f.nearest s m p) two = some (f.nearest s m (p + 1)) := by
  have hl := lastOf_le f m p h hp
  rw [mul_two f two h2 _ s _ _ (read_nearest f s m p hm h hp hr), nearest_shift f s m _ _ hm]
  congr 2; omega

theorem hlv (f : Format) (two : Nat) (h2 : f.read two = .number false f.binade (1 - f.fractionBits)) (s : Bool) (m : Nat) (p : Int) (hm : m ≠ 0) (h : m < 2 ^ (f.fractionBits + 1)) (hp : f.leastPlace ≤ p) (hr : rungOf f m p < f.infRung) :
    f.div (f.nearest s m p) two = some (f.nearest s m (p - 1)) := by
  have hl := lastOf_le f m p h hp
  have hlt : m * 2 ^ (p - lastOf f m p).toNat < 2 ^ (f.fractionBits + 1) := by
    rw [← (parts_rungOf f m p hm h hp).1]; exact magOf_lt f _
  rw [div_two f two h2 _ s _ _ (read_nearest f s m p hm h hp hr) hlt, nearest_shift f s m _ _ hm]
  congr 2; omega

/-- The rung of a full significand. -/
theorem rungOf_full (f : Format) (x : Nat) (p : Int) (h : x < f.binade) (hp : f.leastPlace ≤ p) : rungOf f (f.binade + x) p = (p - f.leastPlace).toNat * f.binade + (f.binade + x) := by
  have hl : lastOf f (f.binade + x) p = p := by
    unfold lastOf; rw [log2_binade f x h]; omega
  unfold rungOf
  rw [hl, Int.sub_self, Int.toNat_zero, Nat.pow_zero, Nat.mul_one]

/-- Of a number whose first digit stands at a place: its rung. -/
theorem rungOf_lt (f : Format) (m : Nat) (p : Int) (hm : m ≠ 0) (h : m < 2 ^ (f.fractionBits + 1)) (hp : f.leastPlace ≤ p) (t : Nat) (ht : p + m.log2 - f.fractionBits - f.leastPlace + 1 ≤ t) (h1 : 1 ≤ t) : rungOf f m p < t * f.binade + f.binade := by
  have hb : 0 < f.binade := Nat.two_pow_pos _
  have hl := lastOf_le f m p h hp
  have e1 := (parts_rungOf f m p hm h hp).1
  have e2 := magOf_lt f (rungOf f m p)
  rw [e1, binade_pow] at e2
  have h3 : (lastOf f m p - f.leastPlace).toNat ≤ t - 1 := by unfold lastOf; omega
  have h4 := Nat.mul_le_mul_right f.binade h3
  have h5 : (t - 1) * f.binade + f.binade = t * f.binade := by
    rw [← Nat.succ_mul]; congr 1; omega
  unfold rungOf
  omega

theorem bi_le64 : double.binade ≤ double.infRung := by rw [bi64, inf64]; omega
theorem bi_le32 : single.binade ≤ single.infRung := by rw [bi32, inf32]; omega

theorem magOf_full (f : Format) (r : Nat) (h : f.binade ≤ r) : magOf f r = f.binade + r % f.binade := by
  unfold magOf; rw [if_neg (by omega)]

theorem placeOf_full (f : Format) (r : Nat) (h : f.binade ≤ r) : placeOf f r = f.leastPlace + (r / f.binade - 1 : Nat) := by
  unfold placeOf; rw [if_neg (by omega)]

theorem nearest_full (f : Format) (s : Bool) (x : Nat) (p : Int) (h : x < f.binade) (hp : f.leastPlace ≤ p) (hi : (p - f.leastPlace).toNat * f.binade + (f.binade + x) ≤ f.infRung) :
    f.nearest s (f.binade + x) p = f.word s ((p - f.leastPlace).toNat * f.binade + (f.binade + x)) := by
  have hb : 0 < f.binade := Nat.two_pow_pos _
  rw [nearest_exact f s _ p (by omega) (by rw [binade_pow]; omega) hp, rungOf_full f x p h hp, Nat.min_eq_left hi]

theorem dblR (f : Format) (two : Nat) (h2 : f.read two = .number false f.binade (1 - f.fractionBits)) (s : Bool) (r : Nat) (h : f.binade ≤ r) (hi : r + f.binade ≤ f.infRung) :
    f.mul (f.word s r) two = some (f.word s (r + f.binade)) := by
  have hb : 0 < f.binade := Nat.two_pow_pos _
  have hd := Nat.div_add_mod r f.binade
  have h1 : 1 ≤ r / f.binade := (Nat.one_le_div_iff hb).2 h
  have hx := Nat.mod_lt r hb
  have e : (f.leastPlace + ((r / f.binade - 1 : Nat) : Int) + 1 - f.leastPlace).toNat = r / f.binade := by omega
  have e2 : r / f.binade * f.binade + (f.binade + r % f.binade) = r + f.binade := by rw [Nat.mul_comm]; omega
  rw [mul_two f two h2 _ s _ _ (read_number f s r (by omega)), magOf_full f r h, placeOf_full f r h, nearest_full f s _ _ hx (by omega) (by rw [e, e2]; omega), e, e2]

theorem hlvR (f : Format) (two : Nat) (h2 : f.read two = .number false f.binade (1 - f.fractionBits)) (s : Bool) (r : Nat) (h : 2 * f.binade ≤ r) (hi : r < f.infRung) :
    f.div (f.word s r) two = some (f.word s (r - f.binade)) := by
  have hb : 0 < f.binade := Nat.two_pow_pos _
  have hd := Nat.div_add_mod r f.binade
  have h1 : 2 ≤ r / f.binade := (Nat.le_div_iff_mul_le hb).2 h
  have hx := Nat.mod_lt r hb
  have e : (f.leastPlace + ((r / f.binade - 1 : Nat) : Int) - 1 - f.leastPlace).toNat = r / f.binade - 2 := by omega
  have e2 : (r / f.binade - 2) * f.binade + (f.binade + r % f.binade) = r - f.binade := by
    have := Nat.mul_le_mul_left f.binade h1
    rw [Nat.sub_mul, Nat.mul_comm]; omega
  rw [div_two f two h2 _ s _ _ (read_number f s r hi) (magOf_lt f r), magOf_full f r (by omega), placeOf_full f r (by omega), nearest_full f s _ _ hx (by omega) (by rw [e, e2]; omega), e, e2]

theorem cut_one (m : Nat) (hm : m ≠ 0) (s : Bool) : Toward.even.cut s m 1 < m := by
  unfold Toward.cut
  have e : min 1 (m.log2 + 2) = 1 := by omega
  rw [e]
  simp only [Nat.one_shiftLeft, Nat.pow_one]
  have h1 : decide (2 < 2 * (m % 2)) = false := by simp; omega
  rw [h1, Bool.false_or]
  by_cases h2 : (2 == 2 * (m % 2) && m / 2 % 2 == 1) = true
  · rw [h2]
    simp at h2
    simp only [Bool.toNat_true]
    omega
  · rw [Bool.not_eq_true] at h2
    rw [h2]
    simp only [Bool.toNat_false]
    omega

/-- A number above 0 is not its half. -/
theorem hlv_lt (f : Format) (two : Nat) (h2 : f.read two = .number false f.binade (1 - f.fractionBits)) (r : Nat) (h0 : 0 < r) (hi : r < f.infRung) :
    ∃ r', f.div r two = some r' ∧ r' < r := by
  have hb : 0 < f.binade := Nat.two_pow_pos _
  by_cases h : 2 * f.binade ≤ r
  · exact ⟨_, hlvR f two h2 false r h hi, by rw [word_false]; omega⟩
  · refine ⟨_, div_two f two h2 _ false _ _ (read_number f false r hi) (magOf_lt f r), ?_⟩
    have hp : placeOf f r = f.leastPlace := by
      unfold placeOf
      split
      · rfl
      · have : r / f.binade = 1 := Nat.div_eq_of_lt_le (k := 1) (by omega) (by omega)
        rw [this]; simp
    have hmr : magOf f r = r := by
      unfold magOf
      split
      · rfl
      · rw [Nat.mod_eq_sub_mod (by omega), Nat.mod_eq_of_lt (by omega)]; omega
    rw [hp, hmr]
    have hlog := log2_le f r (by rw [binade_pow]; omega)
    have hlast : max (f.leastPlace - 1 + (r.log2 : Int) - (f.fractionBits : Int)) f.leastPlace = f.leastPlace := by omega
    have hc := cut_one r (by omega) false
    unfold Format.nearest
    rw [if_neg (by omega)]
    dsimp only
    rw [hlast]
    have a1 : (f.leastPlace - f.leastPlace).toNat = 0 := by omega
    have a2 : (f.leastPlace - 1 - f.leastPlace).toNat = 0 := by omega
    have a3 : (f.leastPlace - (f.leastPlace - 1)).toNat = 1 := by omega
    rw [a1, a2, a3, Nat.shiftLeft_zero, Nat.zero_mul, Nat.zero_add, word_false]
    omega

theorem hlv_inf (f : Format) (two : Nat) (h2 : f.read two = .number false f.binade (1 - f.fractionBits)) (hbi : f.binade ≤ f.infRung) : f.div f.infRung two = some f.infRung := by
  unfold Format.div
  rw [h2, show f.read f.infRung = .infinity false from read_inf f false hbi]
  rfl

/-- Times 2 to the power of 52. -/
theorem top64 : double.read 4841369599423283200 = .number false double.binade 0 := by decide

theorem mul_top (x : Nat) (s : Bool) (m : Nat) (i : Int) (hx : double.read x = .number s m i) : double.mul x 4841369599423283200 = some (double.nearest s m (i + 52)) := by
  unfold Format.mul
  rw [hx, top64]
  simp only [Datum.product, Option.map_some, Format.write, Bool.xor_false]
  by_cases h0 : m = 0
  · subst h0; rw [Nat.zero_mul, nearest_zero, nearest_zero]
  · unfold Format.binade
    rw [nearest_shift double s m _ _ h0, fb64]
    congr 2; omega

theorem cutz (K j : Nat) (hK : K ≠ 0) : Toward.zero.cut false (K * 2 ^ j) j = K := by
  unfold Toward.cut
  rw [log2_mul_pow K j hK]
  have e : min j (K.log2 + j + 2) = j := by omega
  rw [e]
  simp only [Nat.one_shiftLeft, Bool.toNat_false, Nat.add_zero]
  exact Nat.mul_div_cancel _ (Nat.two_pow_pos _)

theorem toInt_nearest (n : Nat) (h : n < 2 ^ 53) : floatToIntVal .f64 (double.nearest false n 0) .u64 = some (n : Int) := by
  unfold floatToIntVal FloatKind.decode
  show (match ((double.read (double.nearest false n 0)).toInt .zero) with | some n => if IntKind.u64.min ≤ n ∧ n ≤ IntKind.u64.max then some n else none | none => none) = _
  have hv : (double.read (double.nearest false n 0)).toInt .zero = some (n : Int) := by
    by_cases h0 : n = 0
    · subst h0; decide
    · have hp : double.leastPlace ≤ (0 : Int) := by rw [lp64]; omega
      have hr : rungOf double n 0 < double.infRung := by
        have hl := log2_le double n h
        rw [fb64] at hl
        have := rungOf_lt double n 0 h0 h hp 2000 (by rw [fb64, lp64]; omega) (by omega)
        rw [bi64] at this; rw [inf64]; omega
      have hl := lastOf_le double n 0 h hp
      rw [read_nearest double false n 0 h0 h hp hr]
      unfold Datum.toInt Datum.integral
      have e1 : (lastOf double n 0).toNat = 0 := by omega
      have e2 : (-lastOf double n 0).toNat = (0 - lastOf double n 0).toNat := by omega
      dsimp only
      rw [e1, e2, Nat.shiftLeft_zero, cutz n _ h0]
      simp [signed]
  rw [hv]
  have : (0 : Int) ≤ (n : Int) ∧ (n : Int) ≤ 18446744073709551615 := by
    have : (2 : Nat) ^ 53 = 9007199254740992 := by decide
    omega
  show (if (0 : Int) ≤ (n : Int) ∧ (n : Int) ≤ 18446744073709551615 then _ else _) = _
  rw [if_pos this]

theorem ofInt64 (n : Nat) : floatOfInt .f64 (n : Int) = double.nearest false n 0 := by
  unfold floatOfInt FloatKind.nearest FloatKind.encode
  show double.nearest (decide ((n : Int) < 0)) (n : Int).natAbs 0 = _
  rw [Int.natAbs_natCast]
  have : decide ((n : Int) < 0) = false := by simp
  rw [this]

theorem ofInt32 (n : Nat) : floatOfInt .f32 (n : Int) = single.nearest false n 0 := by
  unfold floatOfInt FloatKind.nearest FloatKind.encode
  show single.nearest (decide ((n : Int) < 0)) (n : Int).natAbs 0 = _
  rw [Int.natAbs_natCast]
  have : decide ((n : Int) < 0) = false := by simp
  rw [this]

theorem xor_top (k r : Nat) (h : r < 2 ^ k) : r ^^^ 2 ^ k = 2 ^ k + r := by
  apply Nat.eq_of_testBit_eq
  intro i
  rw [Nat.testBit_xor, Nat.testBit_two_pow]
  by_cases hi : i = k
  · subst hi
    rw [Nat.testBit_lt_two_pow h, Nat.testBit_two_pow_add_eq, Nat.testBit_lt_two_pow h]; simp
  · rcases Nat.lt_or_gt_of_ne hi with h1 | h1
    · have hk : decide (k = i) = false := by simp; omega
      rw [Nat.testBit_two_pow_add_gt h1, hk, Bool.xor_false]
    · have e : 2 ^ k + r < 2 ^ i := by
        have : 2 ^ (k + 1) ≤ 2 ^ i := Nat.pow_le_pow_right (by omega) h1
        rw [Nat.pow_succ] at this; omega
      have hk : decide (k = i) = false := by simp; omega
      rw [Nat.testBit_lt_two_pow (Nat.lt_of_le_of_lt (Nat.le_add_left _ _) e), Nat.testBit_lt_two_pow e, hk]
      rfl

theorem xor_top' (k r : Nat) (h : r < 2 ^ k) : (2 ^ k + r) ^^^ 2 ^ k = r := by
  rw [← xor_top k r h, Nat.xor_assoc, Nat.xor_self, Nat.xor_zero]

end Fl
end Go.Proofs.YtfcbjcebkahehaaGreatDoor
