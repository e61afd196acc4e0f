/- Plain, no program: the bits that the second reader guesses out of a text, and that of a number's own text they are the number's. -/
import Derived.Test.YtbbikogpfpghbaaDoorW18
namespace Go.Proofs.YtbbikogpfpghbaaDoor

/-- A text without a front; or as it is. -/
def cutL (s f : List UInt8) : List UInt8 × Bool := if s.take f.length = f then (s.drop f.length, true) else (s, false)

/-- Up to so many digits of sixteen, and as many zeros as are lacking. -/
def hexRun : Nat → List UInt8 → Nat → Nat × List UInt8
  | 0, s, n => (n, s)
  | k + 1, [], n => (n * 16 ^ (k + 1), [])
  | k + 1, c :: s, n => match hexV c with
    | some v => hexRun k s (16 * n + v)
    | none => (n * 16 ^ (k + 1), c :: s)

/-- What the signs behind the first make, as digits of ten. -/
def tenRun (s : List UInt8) : Int := ((s.drop 1).take 5).foldl (fun e c => 10 * e + (c.toNat : Int) - 48) 0
def expL (s : List UInt8) : Int := if s.head? = some 45 then -tenRun s else tenRun s

/-- The bits of a lead and a power. -/
def bitsL (n : Nat) (e : Int) : Nat :=
  if 1023 < e ∨ e < -1074 then 0 else if -1022 ≤ e then R (e + 1023).toNat (n - 4503599627370496) else n / 2 ^ (-1022 - e).toNat

/-- Of a text behind its sign. -/
def guessSize (s : List UInt8) : Nat × Int :=
  let h := hexRun 13 (cutL (cutL s [48, 120, 49]).1 [46]).1 1
  (h.1, expL (cutL h.2 [112]).1)

def guessL (s : List UInt8) : Nat :=
  let t := cutL s [45]
  let sign := if t.2 then 9223372036854775808 else 0
  if t.1 = [110, 97, 110] then 9221120237041090560
  else if t.1 = [105, 110, 102] then sign + 9218868437227405312
  else if t.1 = [48, 120, 48, 112, 43, 48] then sign
  else
    let g := guessSize t.1
    if 1023 < g.2 ∨ g.2 < -1074 then 0 else sign + bitsL g.1 g.2

theorem exp_back_neg : ∀ a : Fin 43, ∀ b : Fin 25, 25 * a.val + b.val = 0 ∨ expL (powL (-((25 * a.val + b.val : Nat) : Int))) = -((25 * a.val + b.val : Nat) : Int) := by decide +kernel
theorem exp_back_pos : ∀ a : Fin 43, ∀ b : Fin 25, expL (powL ((25 * a.val + b.val : Nat) : Int)) = ((25 * a.val + b.val : Nat) : Int) := by decide +kernel

theorem exp_back (e : Int) (h1 : -1074 ≤ e) (h2 : e ≤ 1023) : expL (powL e) = e := by
  by_cases h : e < 0
  · obtain ⟨n, rfl⟩ : ∃ n : Nat, e = -(n : Int) := ⟨e.natAbs, by omega⟩
    have := exp_back_neg ⟨n / 25, by omega⟩ ⟨n % 25, by omega⟩
    have e1 : 25 * (n / 25) + n % 25 = n := by omega
    simp only [e1] at this
    rcases this with h0 | h0
    · omega
    · exact h0
  · obtain ⟨n, rfl⟩ : ∃ n : Nat, e = (n : Int) := ⟨e.toNat, by omega⟩
    have := exp_back_pos ⟨n / 25, by omega⟩ ⟨n % 25, by omega⟩
    have e1 : 25 * (n / 25) + n % 25 = n := by omega
    simp only [e1] at this
    exact this

theorem hexRun_fold (p : List UInt8) : ∀ (ds : List UInt8) (k a V : Nat), ds.length ≤ k → foldHex ds a = some V → hexRun k (ds ++ 112 :: p) a = (V * 16 ^ (k - ds.length), 112 :: p)
  | [], 0, a, V, _, h => by
    simp only [foldHex, Option.some.injEq] at h
    subst h
    simp [hexRun]
  | [], k + 1, a, V, _, h => by
    simp only [foldHex, Option.some.injEq] at h
    subst h
    simp [hexRun, show hexV 112 = none from by decide]
  | c :: ds, 0, a, V, hl, h => by simp at hl
  | c :: ds, k + 1, a, V, hl, h => by
    simp only [foldHex] at h
    simp only [List.cons_append, hexRun]
    cases hc : hexV c with
    | none => rw [hc] at h; cases h
    | some v =>
      rw [hc] at h
      simp only [] at h ⊢
      have := hexRun_fold p ds k (a * 16 + v) V (by simpa using hl) h
      rw [Nat.mul_comm 16 a, this]
      simp

/-- A lead digit ahead. -/
theorem fold_lead : ∀ (ds : List UInt8) (a V : Nat), foldHex ds 0 = some V → foldHex ds a = some (a * 16 ^ ds.length + V) := by
  intro ds
  suffices H : ∀ (ds : List UInt8) (a b V : Nat), foldHex ds b = some V → foldHex ds (a + b) = some (a * 16 ^ ds.length + V) by
    intro a V h; have := H ds a 0 V h; rwa [Nat.add_zero] at this
  intro ds
  induction ds with
  | nil => intro a b V h; simp only [foldHex, Option.some.injEq] at h; subst h; simp [foldHex]
  | cons c ds ih =>
    intro a b V h
    simp only [foldHex] at h ⊢
    cases hc : hexV c with
    | none => rw [hc] at h; cases h
    | some v =>
      rw [hc] at h
      simp only [] at h ⊢
      have := ih (a * 16) (b * 16 + v) V h
      rw [show (a + b) * 16 + v = a * 16 + (b * 16 + v) by omega, this]
      simp [Nat.pow_succ, Nat.mul_assoc, Nat.mul_comm 16]

/-- The digits behind the point. -/
theorem frac_run (F : Nat) (hF : F < 4503599627370496) (p : List UInt8) : hexRun 13 (cutL (fracL F ++ 112 :: p) [46]).1 1 = (4503599627370496 + F, 112 :: p) := by
  unfold fracL
  rw [hex14_dig F hF]
  have hs := trim_split (dig 13 F) 48
  have hle := trim_len (dig 13 F) 48
  rw [dig_len] at hs hle
  have hf := fold_dig 13 F
  rw [show (16 : Nat) ^ 13 = 4503599627370496 from by decide, Nat.mod_eq_of_lt hF] at hf
  generalize Lib.trimRightB (dig 13 F) 48 = ds at *
  rw [hs, foldHex_append] at hf
  cases h1 : foldHex ds 0 with
  | none => rw [h1] at hf; simp at hf
  | some V =>
    rw [h1] at hf
    simp only [Option.bind_some, fold_zeros, Option.some.injEq] at hf
    have hc : (cutL ((if ds = [] then [] else 46 :: ds) ++ 112 :: p) [46]).1 = ds ++ 112 :: p := by
      by_cases hd : ds = []
      · subst hd; simp [cutL]
      · rw [if_neg hd]; simp [cutL]
    rw [hc, hexRun_fold p ds 13 1 _ hle (fold_lead ds 1 V h1)]
    rw [Nat.add_mul, hf, Nat.one_mul, ← Nat.pow_add, show ds.length + (13 - ds.length) = 13 by omega]

theorem size_guess (E F : Nat) (hE : E ≤ 2046) (hF : F < 4503599627370496) (h0 : R E F ≠ 0) : guessSize (sizeL E F) = (4503599627370496 + frc E F, pwr E F) := by
  have hp := pwr_bd E F hE hF h0
  have hf : frc E F < 4503599627370496 := by unfold frc; split <;> omega
  unfold guessSize sizeL
  have e1 : (cutL ([48, 120, 49] ++ fracL (frc E F) ++ [112] ++ powL (pwr E F)) [48, 120, 49]).1 = fracL (frc E F) ++ 112 :: powL (pwr E F) := by simp [cutL]
  rw [e1, frac_run _ hf]
  have e2 : (cutL (112 :: powL (pwr E F)) [112]).1 = powL (pwr E F) := by simp [cutL]
  simp only [e2]
  rw [exp_back _ (by omega) (by omega)]

theorem bits_back (E F : Nat) (hE : E ≤ 2046) (hF : F < 4503599627370496) (h0 : R E F ≠ 0) : bitsL (4503599627370496 + frc E F) (pwr E F) = R E F := by
  have hp := pwr_bd E F hE hF h0
  unfold bitsL
  rw [if_neg (by omega)]
  unfold frc pwr
  by_cases hz : E = 0
  · subst hz
    have hF0 : F ≠ 0 := by intro e; apply h0; subst e; rfl
    obtain ⟨h1, h2, h3, h4, h5⟩ := low_parts F hF0 hF
    rw [if_pos rfl, if_pos rfl, if_neg (by omega)]
    have hsh : (-1022 - (-1022 - (53 - (Lib.bitLen F : Int)))).toNat = 53 - Lib.bitLen F := by omega
    rw [hsh]
    have hK : 4503599627370496 + F * 2 ^ (53 - Lib.bitLen F) % 4503599627370496 = F * 2 ^ (53 - Lib.bitLen F) := by omega
    rw [hK, Nat.mul_div_cancel _ (Nat.two_pow_pos _)]
    unfold R
    rw [Nat.zero_mul, Nat.zero_add]
  · rw [if_neg hz, if_neg hz, if_pos (by omega)]
    have : ((E : Int) - 1023 + 1023).toNat = E := by omega
    rw [this, Nat.add_sub_cancel_left]

/-- Behind the sign. -/
theorem guess_body (r sign : Nat) (h : r ≤ 9218868437227405312) :
    (if sizeT r = [110, 97, 110] then 9221120237041090560 else if sizeT r = [105, 110, 102] then sign + 9218868437227405312 else if sizeT r = [48, 120, 48, 112, 43, 48] then sign
      else if 1023 < (guessSize (sizeT r)).2 ∨ (guessSize (sizeT r)).2 < -1074 then 0 else sign + bitsL (guessSize (sizeT r)).1 (guessSize (sizeT r)).2) = sign + r := by
  by_cases hi : r = 9218868437227405312
  · subst hi
    have e : sizeT 9218868437227405312 = [105, 110, 102] := by unfold sizeT; rw [if_pos rfl]
    rw [e, if_neg (by decide), if_pos rfl]
  · by_cases hz : r = 0
    · subst hz
      have e : sizeT 0 = [48, 120, 48, 112, 43, 48] := by unfold sizeT; rw [if_neg (by decide), if_pos rfl]
      rw [e, if_neg (by decide), if_neg (by decide), if_pos rfl, Nat.add_zero]
    · have e : sizeT r = sizeL (r / 4503599627370496) (r % 4503599627370496) := by unfold sizeT; rw [if_neg hi, if_neg hz]
      have hR : R (r / 4503599627370496) (r % 4503599627370496) = r := by unfold R; omega
      have hE : r / 4503599627370496 ≤ 2046 := by omega
      have hF : r % 4503599627370496 < 4503599627370496 := by omega
      have h0 : R (r / 4503599627370496) (r % 4503599627370496) ≠ 0 := by rw [hR]; exact hz
      have hp := pwr_bd _ _ hE hF h0
      rw [e, if_neg (by unfold sizeL; simp), if_neg (by unfold sizeL; simp), if_neg (by unfold sizeL; simp), size_guess _ _ hE hF h0]
      rw [if_neg (by simp only []; omega), bits_back _ _ hE hF h0, hR]

/-- Of a number's own text the guess is the number's. -/
theorem guess_back (x : Nat) (h : x < 18446744073709551616) : guessL (textL x) = c64 x := by
  cases hx : nan64 x with
  | true => rw [textL_nan x hx, c64_nan x hx]; decide
  | false =>
    rw [c64_num x hx]
    have hle : x % 9223372036854775808 ≤ 9218868437227405312 := by
      unfold nan64 at hx; rw [decide_eq_false_iff_not] at hx; omega
    obtain ⟨c, l, hcl, hc⟩ := sizeT_head (x % 9223372036854775808)
    unfold textL
    rw [hx]
    simp only [Bool.false_eq_true, if_false]
    by_cases hn : 9223372036854775808 ≤ x
    · rw [if_pos hn]
      have e : cutL ([45] ++ sizeT (x % 9223372036854775808)) [45] = (sizeT (x % 9223372036854775808), true) := by simp [cutL]
      unfold guessL
      rw [e]
      simp only [if_true]
      rw [guess_body _ 9223372036854775808 hle]
      omega
    · rw [if_neg hn, List.nil_append]
      have e : cutL (sizeT (x % 9223372036854775808)) [45] = (sizeT (x % 9223372036854775808), false) := by
        rw [hcl]; rcases hc with rfl | rfl <;> simp [cutL]
      unfold guessL
      rw [e]
      simp only [Bool.false_eq_true, if_false]
      rw [guess_body _ 0 hle]
      omega

theorem hexRun_lt : ∀ (k : Nat) (s : List UInt8) (n : Nat), n * 16 ^ k ≤ (hexRun k s n).1 ∧ (hexRun k s n).1 < (n + 1) * 16 ^ k
  | 0, s, n => by simp [hexRun]
  | k + 1, [], n => by
    have : 0 < 16 ^ (k + 1) := Nat.pow_pos (by omega)
    simp only [hexRun]; rw [Nat.add_mul]; omega
  | k + 1, c :: s, n => by
    have h16 : 0 < 16 ^ (k + 1) := Nat.pow_pos (by omega)
    simp only [hexRun]
    cases hc : hexV c with
    | none => simp only []; rw [Nat.add_mul]; omega
    | some v =>
      have hv := (hexB_hexV c v hc).2
      simp only []
      obtain ⟨h1, h2⟩ := hexRun_lt k s (16 * n + v)
      have e1 : n * 16 ^ (k + 1) = 16 * n * 16 ^ k := by rw [Nat.pow_succ, Nat.mul_comm 16 n, Nat.mul_assoc, Nat.mul_comm (16 ^ k)]
      have e2 : (n + 1) * 16 ^ (k + 1) = (16 * n + 16) * 16 ^ k := by rw [Nat.pow_succ, Nat.mul_comm (16 ^ k), ← Nat.mul_assoc, Nat.add_mul, Nat.mul_comm n 16, Nat.one_mul]
      refine ⟨Nat.le_trans ?_ h1, Nat.lt_of_lt_of_le h2 ?_⟩
      · rw [e1]; exact Nat.mul_le_mul_right _ (by omega)
      · rw [e2]; exact Nat.mul_le_mul_right _ (by omega)

theorem guessSize_lt (s : List UInt8) : 4503599627370496 ≤ (guessSize s).1 ∧ (guessSize s).1 < 9007199254740992 := by
  have := hexRun_lt 13 (cutL (cutL s [48, 120, 49]).1 [46]).1 1
  rw [show (16 : Nat) ^ 13 = 4503599627370496 from by decide] at this
  unfold guessSize
  simp only []
  omega

theorem bitsL_lt (n : Nat) (e : Int) (h1 : 4503599627370496 ≤ n) (h2 : n < 9007199254740992) : bitsL n e < 9218868437227405312 := by
  unfold bitsL
  split
  · omega
  · split
    · exact R_lt _ _ (by omega) (by omega)
    · exact Nat.lt_of_le_of_lt (Nat.div_le_self _ _) (by omega)

theorem guess_lt (s : List UInt8) : guessL s < 18446744073709551616 := by
  obtain ⟨h1, h2⟩ := guessSize_lt (cutL s [45]).1
  have h3 := bitsL_lt _ (guessSize (cutL s [45]).1).2 h1 h2
  unfold guessL
  simp only []
  repeat' split
  all_goals omega

/-- The second reader's answer is the first one's. -/
theorem guess_parse (s : List UInt8) : parseL s = if textL (guessL s) = s then some (c64 (guessL s)) else none := by
  cases hz : parseL s with
  | none =>
    rw [if_neg]
    intro e
    by_cases hg : guessL s < 18446744073709551616
    · have := text_back _ hg
      rw [e, hz] at this; cases this
    · exact hg (guess_lt s)
  | some z =>
    obtain ⟨h1, h2, h3⟩ := text_forth s z hz
    have hb := guess_back z h2
    rw [h1, h3] at hb
    rw [hb, if_pos h1, h3]

end Go.Proofs.YtbbikogpfpghbaaDoor
