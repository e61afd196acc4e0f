/- Narrow numbers: sums, differences, quotients by powers of two; what lies between two numbers is rounded to what lies between them. -/
import Derived.Test.YtpimdiliibokbaaBoFc
namespace Go.Proofs.Ytpimdiliibokbaa
namespace Fl
open Ieee

theorem near32s (neg : Bool) (N s : Nat) : single.nearest neg N (-149 - (s : Int)) = single.word neg (min (RG 23 s N) 2139095040) := by
  by_cases h0 : N = 0
  · subst h0
    rw [nearest_zero]
    rw [RG_zero]; rfl
  · unfold Format.nearest RG
    rw [if_neg h0]
    have hl : max (-149 - (s : Int) + (N.log2 : Int) - (single.fractionBits : Int)) single.leastPlace = -149 + ((N.log2 - (23 + s) : Nat) : Int) := by
      rw [fb32, lp32]; omega
    dsimp only
    rw [hl]
    have e1 : (-149 - (s : Int) - (-149 + ((N.log2 - (23 + s) : Nat) : Int))).toNat = 0 := by omega
    have e2 : (-149 + ((N.log2 - (23 + s) : Nat) : Int) - (-149 - (s : Int))).toNat = N.log2 - (23 + s) + s := by omega
    have e3 : (-149 + ((N.log2 - (23 + s) : Nat) : Int) - single.leastPlace).toNat = N.log2 - (23 + s) := by rw [lp32]; omega
    rw [e1, e2, e3, Nat.shiftLeft_zero, cut_half, bi32, inf32]
theorem near32z (neg : Bool) (N : Nat) : single.nearest neg N (-149) = single.word neg (min (RG 23 0 N) 2139095040) := near32s neg N 0
theorem near_size32 (f : Format) (neg : Bool) (r : Nat) (k : Int) : f.nearest neg (magOf single r) (placeOf single r + k) = f.nearest neg (sizeOf single r) (-149 + k) := by
  by_cases h0 : r = 0
  · have e1 := (magOf_zero single r).2 h0
    rw [sizeOf_parts, e1, Nat.zero_mul, nearest_zero, nearest_zero]
  · have hm : magOf single r ≠ 0 := fun e => h0 ((magOf_zero single r).1 e)
    have hp := placeOf_ge single r
    rw [lp32] at hp
    rw [sizeOf_parts, nearest_shift f neg _ _ _ hm, lp32]
    congr 1
    omega
theorem RG_size32 (r : Nat) (h : r < 2139095040) : RG 23 0 (sizeOf single r) = r := by
  have h1 := nearest_parts single false r (by rw [inf32]; exact h)
  have h2 := near_size32 single false r 0
  rw [Int.add_zero, Int.add_zero, near32z] at h2
  rw [h2] at h1
  have := word_inj _ _ _ _ h1
  rcases Nat.le_total (RG 23 0 (sizeOf single r)) 2139095040 with hq | hq
  · rw [Nat.min_eq_left hq] at this; exact this
  · rw [Nat.min_eq_right hq] at this; omega
theorem RG_scale (b s N : Nat) : RG b s (N * 2 ^ s) = RG b 0 N := by
  by_cases h0 : N = 0
  · subst h0; rw [Nat.zero_mul, RG_zero, RG_zero]
  · unfold RG
    rw [log2_mul_pow N s h0, show N.log2 + s - (b + s) = N.log2 - (b + 0) by omega, ← cut_half false, cut_mul false N _ s h0, cut_half, Nat.add_zero, Nat.add_zero]
theorem RG_sizes (r s : Nat) (h : r < 2139095040) : RG 23 s (sizeOf single r * 2 ^ s) = r := by rw [RG_scale, RG_size32 r h]
theorem RG_le {N r s : Nat} (h : N ≤ sizeOf single r * 2 ^ s) (hr : r < 2139095040) : RG 23 s N ≤ r := by
  have := RG_mono 23 s _ _ h
  rwa [RG_sizes r s hr] at this
theorem RG_ge {N r s : Nat} (h : sizeOf single r * 2 ^ s ≤ N) (hr : r < 2139095040) : r ≤ RG 23 s N := by
  have := RG_mono 23 s _ _ h
  rwa [RG_sizes r s hr] at this
theorem size_le {r r' : Nat} (h : r ≤ r') : sizeOf single r ≤ sizeOf single r' := by
  rcases Nat.lt_or_ge r r' with h1 | h1
  · exact Nat.le_of_lt (sizeOf_lt single h1)
  · have : r = r' := by omega
    rw [this]; exact Nat.le_refl _
theorem size_le' {r r' : Nat} (h : sizeOf single r ≤ sizeOf single r') : r ≤ r' := by
  rcases Nat.lt_or_ge r' r with h1 | h1
  · have := sizeOf_lt single h1; omega
  · exact h1
theorem size0 : sizeOf single 0 = 0 := by unfold sizeOf; rw [bi32]; rfl
theorem size1 : sizeOf single 1 = 1 := by unfold sizeOf; rw [bi32]; rfl

/-- A sum of two finite ones. -/
theorem add_fin (s t : Bool) (a b : Nat) (ha : a < 2139095040) (hb : b < 2139095040) : ∃ neg, single.add (single.word s a) (single.word t b) = some (single.word neg (min (RG 23 0 (sv s (sizeOf single a) + sv t (sizeOf single b)).natAbs) 2139095040)) ∧
    (sv s (sizeOf single a) + sv t (sizeOf single b) ≠ 0 → neg = decide (sv s (sizeOf single a) + sv t (sizeOf single b) < 0)) ∧ (sv s (sizeOf single a) + sv t (sizeOf single b) = 0 → neg = (s && t)) := by
  unfold Format.add
  rw [read_number single s a (by rw [inf32]; exact ha), read_number single t b (by rw [inf32]; exact hb)]
  have g1 := placeOf_ge single a
  have g2 := placeOf_ge single b
  have e1 := signed_size single s a (min (placeOf single a) (placeOf single b)) (by omega) (by omega)
  have e2 := signed_size single t b (min (placeOf single a) (placeOf single b)) (by omega) (by omega)
  simp only [Datum.sum, Option.map_some, Format.write]
  rw [lp32] at g1 g2 e1 e2
  generalize signed s (magOf single a) (placeOf single a - min (placeOf single a) (placeOf single b)).toNat = S at *
  generalize signed t (magOf single b) (placeOf single b - min (placeOf single a) (placeOf single b)).toNat = T at *
  rw [← e1, ← e2]
  have hk := Nat.two_pow_pos (min (placeOf single a) (placeOf single b) - -149).toNat
  have hmul : S * ((2 ^ (min (placeOf single a) (placeOf single b) - -149).toNat : Nat) : Int) + T * ((2 ^ (min (placeOf single a) (placeOf single b) - -149).toNat : Nat) : Int) = (S + T) * ((2 ^ (min (placeOf single a) (placeOf single b) - -149).toNat : Nat) : Int) := by
    rw [← Int.add_mul]
  rw [hmul]
  generalize hD : S + T = D
  refine ⟨if D = 0 then s && t else decide (D < 0), ?_, ?_, ?_⟩
  · congr 1
    rw [Int.natAbs_mul, Int.natAbs_natCast, ← near32z]
    by_cases h0 : D.natAbs = 0
    · rw [h0, Nat.zero_mul, nearest_zero, nearest_zero]
    · rw [nearest_shift single _ _ _ _ h0]
      congr 1
      omega
  · intro hne
    have hD0 : D ≠ 0 := by
      intro e; rw [e, Int.zero_mul] at hne; exact hne rfl
    rw [if_neg hD0, decide_eq_decide]
    have hk' : (0 : Int) < ((2 ^ (min (placeOf single a) (placeOf single b) - -149).toNat : Nat) : Int) := by omega
    constructor
    · intro h; exact Int.mul_neg_of_neg_of_pos h hk'
    · intro h
      rcases Int.lt_trichotomy D 0 with h1 | h1 | h1
      · exact h1
      · exact absurd h1 hD0
      · exact absurd (Int.mul_pos h1 hk') (by omega)
  · intro he
    have hk' : ((2 ^ (min (placeOf single a) (placeOf single b) - -149).toNat : Nat) : Int) ≠ 0 := by omega
    rcases Int.mul_eq_zero.1 he with h1 | h1
    · rw [if_pos h1]
    · exact absurd h1 hk'
theorem sub_add (x : Nat) (t : Bool) (b : Nat) (hb : b < 2139095040) : single.sub x (single.word t b) = single.add x (single.word (!t) b) := by
  unfold Format.sub Format.add
  rw [read_number single t b (by rw [inf32]; exact hb), read_number single (!t) b (by rw [inf32]; exact hb)]
  rfl
/-- x - a, of two that are not below 0 -/
theorem sub_pos (x a : Nat) (hx : x < 2139095040) (ha : a < 2139095040) :
    (a ≤ x → single.sub x a = some (single.word false (RG 23 0 (sizeOf single x - sizeOf single a)))) ∧ (x < a → single.sub x a = some (single.word true (RG 23 0 (sizeOf single a - sizeOf single x)))) := by
  have h1 := sub_add x false a ha
  obtain ⟨neg, h2, h3, h4⟩ := add_fin false true x a hx ha
  have hw : single.word false a = a := rfl
  have hw2 : single.word false x = x := rfl
  rw [hw] at h1
  rw [hw2] at h2
  rw [h1, show (!false) = true from rfl, h2]
  have e1 : sv false (sizeOf single x) = (sizeOf single x : Int) := rfl
  have e2 : sv true (sizeOf single a) = -(sizeOf single a : Int) := rfl
  rw [e1, e2] at h3 h4 ⊢
  constructor
  · intro h
    have hs := size_le h
    have hn : ((sizeOf single x : Int) + -(sizeOf single a : Int)).natAbs = sizeOf single x - sizeOf single a := by omega
    have hr : RG 23 0 (sizeOf single x - sizeOf single a) ≤ x := RG_le (by omega) hx
    rw [hn, Nat.min_eq_left (by omega)]
    by_cases h0 : (sizeOf single x : Int) + -(sizeOf single a : Int) = 0
    · rw [h4 h0]; rfl
    · rw [h3 h0]
      have : decide ((sizeOf single x : Int) + -(sizeOf single a : Int) < 0) = false := by simp; omega
      rw [this]
  · intro h
    have hs := sizeOf_lt single h
    have hn : ((sizeOf single x : Int) + -(sizeOf single a : Int)).natAbs = sizeOf single a - sizeOf single x := by omega
    have hr : RG 23 0 (sizeOf single a - sizeOf single x) ≤ a := RG_le (by omega) ha
    rw [hn, Nat.min_eq_left (by omega), h3 (by omega)]
    have : decide ((sizeOf single x : Int) + -(sizeOf single a : Int) < 0) = true := by simp; omega
    rw [this]
/-- a + p, and a - p where p is not above a -/
theorem add_pos (a p : Nat) (ha : a < 2139095040) (hp : p < 2139095040) (h : RG 23 0 (sizeOf single a + sizeOf single p) < 2139095040) : single.add a (single.word false p) = some (RG 23 0 (sizeOf single a + sizeOf single p)) := by
  obtain ⟨neg, h2, h3, h4⟩ := add_fin false false a p ha hp
  have hw2 : single.word false a = a := rfl
  rw [hw2] at h2
  have e1 : ∀ n, sv false n = (n : Int) := fun _ => rfl
  rw [e1, e1] at h2 h3 h4
  have hn : ((sizeOf single a : Int) + (sizeOf single p : Int)).natAbs = sizeOf single a + sizeOf single p := by omega
  rw [h2, hn, Nat.min_eq_left (by omega)]
  by_cases h0 : (sizeOf single a : Int) + (sizeOf single p : Int) = 0
  · rw [h4 h0]; rfl
  · rw [h3 h0]
    have : decide ((sizeOf single a : Int) + (sizeOf single p : Int) < 0) = false := by simp; omega
    rw [this]; rfl
theorem add_neg (a p : Nat) (ha : a < 2139095040) (hp : p ≤ a) : single.add a (single.word true p) = some (RG 23 0 (sizeOf single a - sizeOf single p)) := by
  have h1 := sub_add a false p (by omega)
  rw [show (!false) = true from rfl] at h1
  rw [← h1]
  have hw : single.word false p = p := rfl
  rw [hw, (sub_pos a p ha (by omega)).1 hp]
  rfl
/-- a quotient by 2 to the k -/
theorem div_pow (c k : Nat) (hc : single.read c = .number false 8388608 ((k : Int) - 23)) (s : Bool) (a : Nat) (ha : a < 2139095040) : single.div (single.word s a) c = some (single.word s (min (RG 23 k (sizeOf single a)) 2139095040)) := by
  have hm := magOf_lt single a
  have hl := log2_le single _ hm
  have hr := read_number single s a (by rw [inf32]; exact ha)
  have hns := near_size32 single s a (-(k : Int))
  rw [show -149 + -(k : Int) = -149 - (k : Int) by omega, near32s] at hns
  rw [← hns]
  unfold Format.div
  rw [hr, hc]
  rw [fb32] at hl
  have hbl : (8388608 : Nat).log2 = 23 := by decide
  simp only [Datum.quotient, if_neg (by decide : ¬ (8388608 : Nat) = 0), Option.map_some, Format.write, Bool.xor_false, hbl, fb32]
  generalize hmore : 23 + 2 + 23 - (magOf single a).log2 = more
  generalize hmm : magOf single a = m at *
  have e : m <<< more = m * 2 ^ (more - 23) * 8388608 := by
    rw [Nat.shiftLeft_eq, Nat.mul_assoc, show (8388608 : Nat) = 2 ^ 23 from by decide, ← Nat.pow_add]
    congr 2; omega
  rw [e, Nat.mul_div_cancel _ (by decide), Nat.mul_mod_left]
  by_cases h0 : m = 0
  · subst h0; simp [nearest_zero]
  · have e2 : 2 * (m * 2 ^ (more - 23)) + (0 != 0).toNat = m * 2 ^ (more - 23 + 1) := by
      rw [Nat.pow_succ, Nat.mul_comm 2, Nat.mul_assoc]; simp
    rw [e2, nearest_shift single s m _ _ h0]
    congr 2; omega
end Fl
end Go.Proofs.Ytpimdiliibokbaa
