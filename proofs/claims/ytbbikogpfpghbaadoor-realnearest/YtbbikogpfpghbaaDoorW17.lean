/- Texts of numbers, in plain lists: what is read back is what was told, and what is read is told as it stood. -/
import Derived.Test.YtbbikogpfpghbaaDoorW13
namespace Go.Proofs.YtbbikogpfpghbaaDoor

/-- A digit of the base 16, read. -/
def hexV (c : UInt8) : Option Nat := if 48 ≤ c.toNat ∧ c.toNat ≤ 57 then some (c.toNat - 48) else if 97 ≤ c.toNat ∧ c.toNat ≤ 102 then some (c.toNat - 87) else none
def foldHex : List UInt8 → Nat → Option Nat
  | [], a => some a
  | c :: l, a => match hexV c with
    | some v => foldHex l (a * 16 + v)
    | none => none

theorem hexV_hexB (x : Nat) (h : x < 16) : hexV (hexB x) = some x := by
  have : ∀ x : Fin 16, hexV (hexB x.val) = some x.val := by decide
  exact this ⟨x, h⟩
theorem hexB_hexV (c : UInt8) (v : Nat) (h : hexV c = some v) : c = hexB v ∧ v < 16 := by
  have key : ∀ n : Fin 256, ∀ v, hexV (UInt8.ofNat n.val) = some v → UInt8.ofNat n.val = hexB v ∧ v < 16 := by
    intro n v hv
    have h1 : ∀ n : Fin 256, (hexV (UInt8.ofNat n.val)).all (fun v => decide (UInt8.ofNat n.val = hexB v ∧ v < 16)) = true := by decide +kernel
    have := h1 n
    rw [hv] at this
    simpa using this
  have e : UInt8.ofNat c.toNat = c := by simp
  have := key ⟨c.toNat, UInt8.toNat_lt c⟩ v
  simp only [e] at this
  exact this h

theorem foldHex_append (l m : List UInt8) (a : Nat) : foldHex (l ++ m) a = (foldHex l a).bind fun b => foldHex m b := by
  induction l generalizing a with
  | nil => rfl
  | cons c l ih =>
    simp only [List.cons_append, foldHex]
    cases hexV c with
    | none => rfl
    | some v => exact ih _

/-- The digits of a number, k of them. -/
def dig (k V : Nat) : List UInt8 := (List.range k).map fun t => hexB (V / 16 ^ (k - 1 - t) % 16)

theorem dig_succ (k V : Nat) : dig (k + 1) V = dig k (V / 16) ++ [hexB (V % 16)] := by
  unfold dig
  rw [List.range_succ, List.map_append]
  congr 1
  · apply List.map_congr_left
    intro t ht
    have ht2 := List.mem_range.1 ht
    have e : k + 1 - 1 - t = (k - 1 - t) + 1 := by omega
    rw [e, Nat.pow_succ, Nat.mul_comm, ← Nat.div_div_eq_div_mul]
  · simp

theorem dig_len (k V : Nat) : (dig k V).length = k := by simp [dig]

theorem fold_dig (k V : Nat) : foldHex (dig k V) 0 = some (V % 16 ^ k) := by
  induction k generalizing V with
  | zero => simp [dig, foldHex, Nat.mod_one]
  | succ k ih =>
    rw [dig_succ, foldHex_append, ih]
    simp only [Option.bind_some, foldHex, hexV_hexB _ (Nat.mod_lt V (by omega : 0 < 16))]
    have e : V % 16 ^ (k + 1) = V / 16 % 16 ^ k * 16 + V % 16 := by
      rw [Nat.pow_succ, Nat.mul_comm (16 ^ k), Nat.mod_mul]
      omega
    rw [e]

theorem dig_fold (n : Nat) : ∀ (l : List UInt8) (V : Nat), l.length = n → foldHex l 0 = some V → l = dig n V ∧ V < 16 ^ n := by
  induction n with
  | zero =>
    intro l V hl h
    have : l = [] := List.eq_nil_of_length_eq_zero hl
    subst this
    simp only [foldHex, Option.some.injEq] at h
    subst h
    simp [dig]
  | succ n ih =>
    intro l V hl h
    rcases List.eq_nil_or_concat l with rfl | ⟨l', c, rfl⟩
    · simp at hl
    · rw [List.concat_eq_append] at h hl ⊢
      rw [foldHex_append] at h
      cases h1 : foldHex l' 0 with
      | none => rw [h1] at h; simp at h
      | some b =>
        rw [h1] at h
        simp only [Option.bind_some, foldHex] at h
        cases h2 : hexV c with
        | none => rw [h2] at h; simp at h
        | some v =>
          rw [h2] at h
          simp only [Option.some.injEq] at h
          obtain ⟨hc, hv⟩ := hexB_hexV c v h2
          obtain ⟨h3, h4⟩ := ih l' b (by simpa using hl) h1
          subst h
          have e1 : (b * 16 + v) / 16 = b := by omega
          have e2 : (b * 16 + v) % 16 = v := by omega
          refine ⟨by rw [dig_succ, e1, e2, ← h3, ← hc], ?_⟩
          rw [Nat.pow_succ]; omega

theorem fold_zeros (k a : Nat) : foldHex (List.replicate k 48) a = some (a * 16 ^ k) := by
  induction k generalizing a with
  | zero => simp [foldHex]
  | succ k ih =>
    rw [List.replicate_succ]
    have : hexV 48 = some 0 := by decide
    simp only [foldHex, this, Nat.add_zero]
    rw [ih, Nat.pow_succ, Nat.mul_assoc, Nat.mul_comm 16]

/-! What is cut off at the right. -/
theorem dropWhile_split (l : List UInt8) (c : UInt8) : l = List.replicate (l.length - (l.dropWhile (· == c)).length) c ++ l.dropWhile (· == c) := by
  induction l with
  | nil => rfl
  | cons b l ih =>
    by_cases h : b == c
    · have hb : b = c := by simpa using h
      subst hb
      rw [List.dropWhile_cons_of_pos (by simp)]
      have hl := (List.dropWhile_sublist (p := (· == b)) (l := l)).length_le
      have e : (b :: l).length - (l.dropWhile (· == b)).length = (l.length - (l.dropWhile (· == b)).length) + 1 := by
        rw [List.length_cons]; omega
      rw [e, List.replicate_succ, List.cons_append, ← ih]
    · rw [List.dropWhile_cons_of_neg (by simpa using h)]
      simp

theorem trim_split (l : List UInt8) (c : UInt8) : l = Lib.trimRightB l c ++ List.replicate (l.length - (Lib.trimRightB l c).length) c := by
  unfold Lib.trimRightB
  have h := dropWhile_split l.reverse c
  have h2 := congrArg List.reverse h
  rw [List.reverse_reverse, List.reverse_append, List.reverse_replicate, List.length_reverse] at h2
  rw [List.length_reverse]
  exact h2

theorem head_dropWhile (l : List UInt8) (c : UInt8) : (l.dropWhile (· == c)).head? ≠ some c := by
  induction l with
  | nil => simp
  | cons b l ih =>
    by_cases h : b == c
    · rw [List.dropWhile_cons_of_pos (p := (· == c)) (by simpa using h)]; exact ih
    · rw [List.dropWhile_cons_of_neg (by simpa using h)]
      simp only [List.head?_cons, ne_eq, Option.some.injEq]
      simpa using h

theorem trim_last (l : List UInt8) (c : UInt8) : (Lib.trimRightB l c).getLast? ≠ some c := by
  unfold Lib.trimRightB
  rw [List.getLast?_reverse]
  exact head_dropWhile _ _

theorem trim_of (ds : List UInt8) (k : Nat) (c : UInt8) (h : ds.getLast? ≠ some c) : Lib.trimRightB (ds ++ List.replicate k c) c = ds := by
  unfold Lib.trimRightB
  rw [List.reverse_append, List.reverse_replicate]
  have h1 : ∀ (k : Nat) (m : List UInt8), (List.replicate k c ++ m).dropWhile (· == c) = m.dropWhile (· == c) := by
    intro k m
    induction k with
    | zero => rfl
    | succ k ih => rw [List.replicate_succ, List.cons_append, List.dropWhile_cons_of_pos (by simp), ih]
  rw [h1]
  have h2 : ds.reverse.dropWhile (· == c) = ds.reverse := by
    have h3 : ds.reverse.head? ≠ some c := by rw [List.head?_reverse]; exact h
    cases hr : ds.reverse with
    | nil => rfl
    | cons b m =>
      rw [hr] at h3
      rw [List.dropWhile_cons_of_neg]
      simpa using h3
  rw [h2, List.reverse_reverse]

/-! The fraction. -/
def parseFracL (s : List UInt8) : Option Nat :=
  match s with
  | [] => some 0
  | c :: ds => if c ≠ 46 ∨ ds = [] ∨ 13 < ds.length ∨ ds.getLast? = some 48 then none else (foldHex ds 0).map (· * 16 ^ (13 - ds.length))

theorem hex14_dig (F : Nat) (_hF : F < 4503599627370496) : (hex14 (4503599627370496 + F)).drop 1 = dig 13 F := by
  have e : hex14 (4503599627370496 + F) = dig 14 (4503599627370496 + F) := rfl
  rw [e]
  apply List.ext_getElem
  · simp [dig]
  · intro t h1 h2
    have ht : t < 13 := by simpa [dig] using h2
    simp only [dig, List.getElem_drop, List.getElem_map, List.getElem_range]
    congr 1
    have e1 : 14 - 1 - (1 + t) = 12 - t := by omega
    have e2 : 13 - 1 - t = 12 - t := by omega
    rw [e1, e2]
    have e3 : 4503599627370496 = 16 ^ (12 - t) * 16 ^ (t + 1) := by
      rw [← Nat.pow_add, show 12 - t + (t + 1) = 13 by omega]
    rw [e3, Nat.mul_add_div (Nat.pow_pos (by omega)), Nat.pow_succ, Nat.add_mod, Nat.mul_mod_left, Nat.zero_add, Nat.mod_mod]

theorem frac_back (F : Nat) (hF : F < 4503599627370496) : parseFracL (fracL F) = some F := by
  unfold fracL
  rw [hex14_dig F hF]
  have hs := trim_split (dig 13 F) 48
  have hla := trim_last (dig 13 F) 48
  have hle := trim_len (dig 13 F) 48
  rw [dig_len] at hs hle
  have hf := fold_dig 13 F
  rw [show (16 : Nat) ^ 13 = 4503599627370496 from by decide, Nat.mod_eq_of_lt hF] at hf
  generalize Lib.trimRightB (dig 13 F) 48 = ds at *
  rw [hs, foldHex_append] at hf
  cases h1 : foldHex ds 0 with
  | none => rw [h1] at hf; simp at hf
  | some V =>
    rw [h1] at hf
    simp only [Option.bind_some, fold_zeros, Option.some.injEq] at hf
    by_cases hd : ds = []
    · subst hd
      simp only [foldHex, Option.some.injEq] at h1
      subst h1
      rw [if_pos rfl]
      simp only [parseFracL, Option.some.injEq]
      rw [← hf, Nat.zero_mul]
    · rw [if_neg hd]
      simp only [parseFracL, ne_eq, not_true_eq_false, false_or]
      rw [if_neg (by intro h; rcases h with h | h | h; exact hd h; omega; exact hla h), h1]
      simp [hf]

theorem frac_forth (s : List UInt8) (F : Nat) (h : parseFracL s = some F) : s = fracL F ∧ F < 4503599627370496 := by
  cases s with
  | nil =>
    simp only [parseFracL, Option.some.injEq] at h
    subst h
    exact ⟨by decide +kernel, by omega⟩
  | cons c ds =>
    simp only [parseFracL] at h
    split at h
    · simp at h
    · rename_i hc
      simp only [not_or, Decidable.not_not] at hc
      obtain ⟨rfl, hd, hl, hla⟩ := hc
      obtain ⟨V, h1, h2⟩ := Option.map_eq_some_iff.1 h
      have hf : foldHex (ds ++ List.replicate (13 - ds.length) 48) 0 = some F := by
        rw [foldHex_append, h1]
        simp only [Option.bind_some, fold_zeros, h2]
      obtain ⟨h3, h4⟩ := dig_fold 13 _ F (by simp; omega) hf
      have hF : F < 4503599627370496 := Nat.lt_of_lt_of_eq h4 (by decide)
      refine ⟨?_, hF⟩
      unfold fracL
      rw [hex14_dig F hF, ← h3, trim_of ds _ 48 hla, if_neg hd]

/-! The exponent. -/
def isDec (c : UInt8) : Bool := decide (48 ≤ c.toNat) && decide (c.toNat ≤ 57)
def decV (l : List UInt8) (a : Nat) : Nat := l.foldl (fun a c => a * 10 + (c.toNat - 48)) a
def parsePowL (s : List UInt8) : Option Int :=
  if s = [43, 48] then some 0 else
  match s with
  | c :: ds => if ds = [] ∨ 4 < ds.length ∨ ds.head? = some 48 ∨ ds.all isDec = false then none else if c = 43 then some (decV ds 0 : Nat) else if c = 45 then some (-(decV ds 0 : Nat) : Int) else none
  | [] => none

theorem pow_back_neg : ∀ a : Fin 43, ∀ b : Fin 25, 25 * a.val + b.val = 0 ∨ parsePowL (powL (-((25 * a.val + b.val : Nat) : Int))) = some (-((25 * a.val + b.val : Nat) : Int)) := by decide +kernel
theorem pow_back_pos : ∀ a : Fin 43, ∀ b : Fin 25, parsePowL (powL ((25 * a.val + b.val : Nat) : Int)) = some ((25 * a.val + b.val : Nat) : Int) := by decide +kernel

theorem pow_back (e : Int) (h1 : -1074 ≤ e) (h2 : e ≤ 1023) : parsePowL (powL e) = some e := by
  by_cases h : e < 0
  · obtain ⟨n, rfl⟩ : ∃ n : Nat, e = -(n : Int) := ⟨e.natAbs, by omega⟩
    have := pow_back_neg ⟨n / 25, by omega⟩ ⟨n % 25, by omega⟩
    have e1 : 25 * (n / 25) + n % 25 = n := by omega
    simp only [e1] at this
    rcases this with h0 | h0
    · omega
    · exact h0
  · obtain ⟨n, rfl⟩ : ∃ n : Nat, e = (n : Int) := ⟨e.toNat, by omega⟩
    have := pow_back_pos ⟨n / 25, by omega⟩ ⟨n % 25, by omega⟩
    have e1 : 25 * (n / 25) + n % 25 = n := by omega
    simp only [e1] at this
    exact this

def dB (x : Nat) : UInt8 := UInt8.ofNat (48 + x)
theorem dec_one : ∀ a : Fin 10, a.val = 0 ∨ Lib.decDigits a.val = [dB a.val] := by decide +kernel
theorem dec_two : ∀ a b : Fin 10, a.val = 0 ∨ Lib.decDigits (a.val * 10 + b.val) = [dB a.val, dB b.val] := by decide +kernel
theorem dec_three : ∀ a b c : Fin 10, a.val = 0 ∨ Lib.decDigits ((a.val * 10 + b.val) * 10 + c.val) = [dB a.val, dB b.val, dB c.val] := by decide +kernel
theorem dec_four : ∀ a b c d : Fin 10, a.val = 0 ∨ Lib.decDigits (((a.val * 10 + b.val) * 10 + c.val) * 10 + d.val) = [dB a.val, dB b.val, dB c.val, dB d.val] := by decide +kernel

theorem isDec_of (c : UInt8) (h : isDec c = true) : ∃ x, x < 10 ∧ c = dB x ∧ c.toNat - 48 = x := by
  unfold isDec at h
  simp only [Bool.and_eq_true, decide_eq_true_eq] at h
  refine ⟨c.toNat - 48, by omega, ?_, rfl⟩
  unfold dB
  have : 48 + (c.toNat - 48) = c.toNat := by omega
  rw [this]
  simp

theorem dec_forth (ds : List UInt8) (h0 : ds ≠ []) (hl : ds.length ≤ 4) (hh : ds.head? ≠ some 48) (ha : ds.all isDec = true) : Lib.decDigits (decV ds 0) = ds ∧ decV ds 0 ≠ 0 := by
  have hz : dB 0 = 48 := by decide
  have first : ∀ c x, c = dB x → (some c ≠ some 48) → x ≠ 0 := by
    intro c x hc hne h; subst h; rw [hz] at hc; exact hne (by rw [hc])
  match ds, h0, hl, hh, ha with
  | [a], _, _, hh, ha =>
    simp only [List.all_cons, List.all_nil, Bool.and_true] at ha
    obtain ⟨x, hx, rfl, e1⟩ := isDec_of a ha
    have hx0 := first _ x rfl hh
    simp only [decV, List.foldl_cons, List.foldl_nil, e1, Nat.zero_mul, Nat.zero_add]
    rcases dec_one ⟨x, hx⟩ with h | h
    · exact absurd h hx0
    · exact ⟨h, hx0⟩
  | [a, b], _, _, hh, ha =>
    simp only [List.all_cons, List.all_nil, Bool.and_true, Bool.and_eq_true] at ha
    obtain ⟨x, hx, rfl, e1⟩ := isDec_of a ha.1
    obtain ⟨y, hy, rfl, e2⟩ := isDec_of b ha.2
    have hx0 := first _ x rfl hh
    simp only [decV, List.foldl_cons, List.foldl_nil, e1, e2, Nat.zero_mul, Nat.zero_add]
    rcases dec_two ⟨x, hx⟩ ⟨y, hy⟩ with h | h
    · exact absurd h hx0
    · exact ⟨h, by omega⟩
  | [a, b, c], _, _, hh, ha =>
    simp only [List.all_cons, List.all_nil, Bool.and_true, Bool.and_eq_true] at ha
    obtain ⟨x, hx, rfl, e1⟩ := isDec_of a ha.1
    obtain ⟨y, hy, rfl, e2⟩ := isDec_of b ha.2.1
    obtain ⟨z, hz', rfl, e3⟩ := isDec_of c ha.2.2
    have hx0 := first _ x rfl hh
    simp only [decV, List.foldl_cons, List.foldl_nil, e1, e2, e3, Nat.zero_mul, Nat.zero_add]
    rcases dec_three ⟨x, hx⟩ ⟨y, hy⟩ ⟨z, hz'⟩ with h | h
    · exact absurd h hx0
    · exact ⟨h, by omega⟩
  | [a, b, c, d], _, _, hh, ha =>
    simp only [List.all_cons, List.all_nil, Bool.and_true, Bool.and_eq_true] at ha
    obtain ⟨x, hx, rfl, e1⟩ := isDec_of a ha.1
    obtain ⟨y, hy, rfl, e2⟩ := isDec_of b ha.2.1
    obtain ⟨z, hz', rfl, e3⟩ := isDec_of c ha.2.2.1
    obtain ⟨u, hu, rfl, e4⟩ := isDec_of d ha.2.2.2
    have hx0 := first _ x rfl hh
    simp only [decV, List.foldl_cons, List.foldl_nil, e1, e2, e3, e4, Nat.zero_mul, Nat.zero_add]
    rcases dec_four ⟨x, hx⟩ ⟨y, hy⟩ ⟨z, hz'⟩ ⟨u, hu⟩ with h | h
    · exact absurd h hx0
    · exact ⟨h, by omega⟩
  | a :: b :: c :: d :: e :: l, _, hl, _, _ => simp at hl

theorem pow_forth (s : List UInt8) (e : Int) (h : parsePowL s = some e) : s = powL e := by
  unfold parsePowL at h
  split at h
  · rename_i hs
    simp only [Option.some.injEq] at h
    subst h
    rw [hs]
    decide +kernel
  · split at h
    · rename_i c ds _
      split at h
      · simp at h
      · rename_i hc
        simp only [not_or, Bool.not_eq_false, Nat.not_lt] at hc
        obtain ⟨h0, hl, hh, ha⟩ := hc
        obtain ⟨h1, h2⟩ := dec_forth ds h0 hl hh ha
        split at h
        · rename_i hc
          subst hc
          simp only [Option.some.injEq] at h
          subst h
          unfold powL Lib.itoa
          rw [if_neg (by omega), if_neg (by omega), Int.toNat_natCast, h1]
        · split at h
          · rename_i hc
            subst hc
            simp only [Option.some.injEq] at h
            subst h
            unfold powL Lib.itoa
            rw [if_pos (by omega), if_pos (by omega), Int.natAbs_neg, Int.natAbs_natCast, h1]
          · simp at h
    · simp at h

end Go.Proofs.YtbbikogpfpghbaaDoor
