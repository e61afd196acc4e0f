/- The second reader's guess, of every text. -/
import Derived.Test.YtbbikogpfpghbaaDoorW26
namespace Go.Proofs.YtbbikogpfpghbaaDoor
open Go.RowKit

set_option maxRecDepth 4000 in
set_option maxHeartbeats 1000000 in
theorem guess_nan (s t : ByteArray) (b : Bool) (w : World) (hc : ∀ w, Calls Tryd.prog 118 #[.string s, .string ⟨#[45]⟩] w fun e w' => e = .returned (.tuple #[.string t, .bool b]) ∧ w' = w)
    (h1 : (t.toList == [110, 97, 110]) = true) :
    Calls Tryd.prog 93 #[.string s] w fun e w' => e = .returned (.int .u64 9221120237041090560) ∧ w' = w := by
  have HC : Hid (∀ w, Calls Tryd.prog 118 #[.string s, .string ⟨#[45]⟩] w fun e w' => e = .returned (.tuple #[.string t, .bool b]) ∧ w' = w) := hc
  clear hc
  cases b
  all_goals
    go_enter Tryd.func93, Tryd.ntmps93
    go_wp2_with (go_at_call 118; refine (HC.out _).mono ?_; rintro e w' ⟨rfl, rfl⟩)
    go_ret
    exact ⟨rfl, rfl⟩

set_option maxRecDepth 4000 in
set_option maxHeartbeats 1000000 in
theorem guess_inf (s t : ByteArray) (b : Bool) (w : World) (hc : ∀ w, Calls Tryd.prog 118 #[.string s, .string ⟨#[45]⟩] w fun e w' => e = .returned (.tuple #[.string t, .bool b]) ∧ w' = w)
    (h1 : (t.toList == [110, 97, 110]) = false) (h2 : (t.toList == [105, 110, 102]) = true) :
    Calls Tryd.prog 93 #[.string s] w fun e w' => e = .returned (.int .u64 ((if b then 9223372036854775808 else 0) + 9218868437227405312)) ∧ w' = w := by
  have HC : Hid (∀ w, Calls Tryd.prog 118 #[.string s, .string ⟨#[45]⟩] w fun e w' => e = .returned (.tuple #[.string t, .bool b]) ∧ w' = w) := hc
  clear hc
  cases b
  all_goals
    go_enter Tryd.func93, Tryd.ntmps93
    go_wp2_with (go_at_call 118; refine (HC.out _).mono ?_; rintro e w' ⟨rfl, rfl⟩)
    go_ret
    exact ⟨by rfl, rfl⟩

set_option maxRecDepth 4000 in
set_option maxHeartbeats 1000000 in
theorem guess_zero (s t : ByteArray) (b : Bool) (w : World) (hc : ∀ w, Calls Tryd.prog 118 #[.string s, .string ⟨#[45]⟩] w fun e w' => e = .returned (.tuple #[.string t, .bool b]) ∧ w' = w)
    (h1 : (t.toList == [110, 97, 110]) = false) (h2 : (t.toList == [105, 110, 102]) = false) (h3 : (t.toList == [48, 120, 48, 112, 43, 48]) = true) :
    Calls Tryd.prog 93 #[.string s] w fun e w' => e = .returned (.int .u64 (if b then 9223372036854775808 else 0)) ∧ w' = w := by
  have HC : Hid (∀ w, Calls Tryd.prog 118 #[.string s, .string ⟨#[45]⟩] w fun e w' => e = .returned (.tuple #[.string t, .bool b]) ∧ w' = w) := hc
  clear hc
  cases b
  all_goals
    go_enter Tryd.func93, Tryd.ntmps93
    go_wp2_with (go_at_call 118; refine (HC.out _).mono ?_; rintro e w' ⟨rfl, rfl⟩)
    go_ret
    exact ⟨by rfl, rfl⟩

theorem or_sign (sg x : Nat) (hs : sg = 0 ∨ sg = 9223372036854775808) (hx : x < 9223372036854775808) : bits .or .u64 (sg : Int) (x : Int) = ((sg + x : Nat) : Int) :=
  or64 sg x 63 (by omega) (by rcases hs with rfl | rfl <;> decide) (by rw [show (2 : Nat) ^ 63 = 9223372036854775808 from by decide]; exact hx) (by omega)

theorem or_norm (sg M : Nat) (hs : sg = 0 ∨ sg = 9223372036854775808) (e : Int) (h1 : -1022 ≤ e) (h2 : e ≤ 1023) (hM1 : 4503599627370496 ≤ M) (hM2 : M < 9007199254740992) :
    bits .or .u64 (bits .or .u64 (sg : Int) ((e + 1023) * 4503599627370496)) (IntKind.u64.wrap ((M : Int) - 4503599627370496)) = ((sg + bitsL M e : Nat) : Int) := by
  have e1 : (e + 1023) * 4503599627370496 = (((e + 1023).toNat * 4503599627370496 : Nat) : Int) := by omega
  have e2 : IntKind.u64.wrap ((M : Int) - 4503599627370496) = ((M - 4503599627370496 : Nat) : Int) := by rw [IntKind.wrap_u64]; omega
  rw [e1, e2, or_sign sg _ hs (by omega)]
  have e3 := or64 (sg + (e + 1023).toNat * 4503599627370496) (M - 4503599627370496) 52 (by omega) (by rw [show (2 : Nat) ^ 52 = 4503599627370496 from by decide]; omega) (by rw [show (2 : Nat) ^ 52 = 4503599627370496 from by decide]; omega) (by omega)
  rw [e3]
  unfold bitsL R
  rw [if_neg (by omega), if_pos h1, Nat.add_assoc]

theorem or_low (sg M : Nat) (hs : sg = 0 ∨ sg = 9223372036854775808) (e k : Int) (hk : k = -1022 - e) (h1 : e < -1022) (h2 : -1074 ≤ e) (hM2 : M < 9007199254740992) :
    bits .or .u64 (sg : Int) ((M : Int) / 2 ^ k.toNat) = ((sg + bitsL M e : Nat) : Int) := by
  subst hk
  have e1 : (M : Int) / 2 ^ (-1022 - e).toNat = ((M / 2 ^ (-1022 - e).toNat : Nat) : Int) := by rw [Int.natCast_ediv, Int.natCast_pow]; rfl
  have h3 : M / 2 ^ (-1022 - e).toNat ≤ M := Nat.div_le_self _ _
  rw [e1, or_sign sg _ hs (by omega)]
  unfold bitsL
  rw [if_neg (by omega), if_neg (by omega)]

theorem head_is (t : ByteArray) : ∃ mi : Bool, ((t.toList.isEmpty = true ∧ mi = false) ∨ (t.toList.isEmpty = false ∧ ∃ hs : 0 < t.size, ((t[0].toNat : Int) == 45) = mi)) ∧ (mi = true ↔ t.data.toList.head? = some 45) := by
  have htl : t.toList = t.data.toList := Lib.toList_data t
  have hlen : t.data.toList.length = t.size := by rw [Array.length_toList]; rfl
  cases hu : t.data.toList with
  | nil => exact ⟨false, .inl ⟨by rw [htl, hu]; rfl, rfl⟩, by simp⟩
  | cons c l =>
    have hs : 0 < t.size := by rw [← hlen, hu]; simp
    have hc := byte_cast c 45 (by omega)
    rw [show ((45 : Nat) : Int) = 45 from rfl] at hc
    refine ⟨decide (c = UInt8.ofNat 45), .inr ⟨by rw [htl, hu]; rfl, hs, by rw [get0 t c l hu hs]; exact hc⟩, ?_⟩
    rw [decide_eq_true_eq, List.head?_cons, Option.some.injEq]
    exact Iff.rfl

theorem guess_any (s : ByteArray) (w : World) :
    Calls Tryd.prog 93 #[.string s] w fun e w' => e = .returned (.int .u64 (guessL s.data.toList : Nat)) ∧ w' = w := by
  obtain ⟨t, ht, HT⟩ := rcut_ex s ⟨#[45]⟩
  obtain ⟨t2, ht2, HT2⟩ := rcut_ex t ⟨#[48, 120, 49]⟩
  obtain ⟨t3, ht3, HT3⟩ := rcut_ex t2 ⟨#[46]⟩
  obtain ⟨t5, ht5, HT5⟩ := rcut_ex ⟨(hexRun 13 t3.data.toList 1).2.toArray⟩ ⟨#[112]⟩
  have htl : t.toList = t.data.toList := Lib.toList_data t
  have f1 : (⟨#[45]⟩ : ByteArray).data.toList = [45] := rfl
  have f2 : (⟨#[48, 120, 49]⟩ : ByteArray).data.toList = [48, 120, 49] := rfl
  have f3 : (⟨#[46]⟩ : ByteArray).data.toList = [46] := rfl
  have f5 : (⟨#[112]⟩ : ByteArray).data.toList = [112] := rfl
  rw [f1] at ht; rw [f2, ht] at ht2; rw [f3, ht2] at ht3
  have hg : guessL s.data.toList = if t.data.toList = [110, 97, 110] then 9221120237041090560 else if t.data.toList = [105, 110, 102] then (if (cutL s.data.toList [45]).2 then 9223372036854775808 else 0) + 9218868437227405312
      else if t.data.toList = [48, 120, 48, 112, 43, 48] then (if (cutL s.data.toList [45]).2 then 9223372036854775808 else 0)
      else if 1023 < (guessSize t.data.toList).2 ∨ (guessSize t.data.toList).2 < -1074 then 0 else (if (cutL s.data.toList [45]).2 then 9223372036854775808 else 0) + bitsL (guessSize t.data.toList).1 (guessSize t.data.toList).2 := by
    rw [ht]; rfl
  by_cases h1 : t.data.toList = [110, 97, 110]
  · rw [hg, if_pos h1]
    exact guess_nan s t _ w HT.out (by rw [htl, h1]; rfl)
  · have b1 : (t.toList == [110, 97, 110]) = false := by rw [htl, beq_eq_false_iff_ne]; exact h1
    by_cases h2 : t.data.toList = [105, 110, 102]
    · rw [hg, if_neg h1, if_pos h2]
      have r := guess_inf s t _ w HT.out b1 (by rw [htl, h2]; rfl)
      rw [f1] at r
      refine r.mono fun e w' ⟨a, b⟩ => ⟨a.trans ?_, b⟩
      cases (cutL s.data.toList [45]).2 <;> rfl
    · have b2 : (t.toList == [105, 110, 102]) = false := by rw [htl, beq_eq_false_iff_ne]; exact h2
      by_cases h3 : t.data.toList = [48, 120, 48, 112, 43, 48]
      · rw [hg, if_neg h1, if_neg h2, if_pos h3]
        have r := guess_zero s t _ w HT.out b1 b2 (by rw [htl, h3]; rfl)
        rw [f1] at r
        refine r.mono fun e w' ⟨a, b⟩ => ⟨a.trans ?_, b⟩
        cases (cutL s.data.toList [45]).2 <;> rfl
      · have b3 : (t.toList == [48, 120, 48, 112, 43, 48]) = false := by rw [htl, beq_eq_false_iff_ne]; exact h3
        obtain ⟨mi, hmi, hm45⟩ := head_is t5
        have hsz := guessSize_lt t.data.toList
        have eM : (hexRun 13 t3.data.toList 1).1 = (guessSize t.data.toList).1 := by rw [ht3, ht]; rfl
        have eE : (if mi then -tenF ((t5.data.toList.drop 1).take 5) else tenF ((t5.data.toList.drop 1).take 5)) = (guessSize t.data.toList).2 := by
          have : (guessSize t.data.toList).2 = expL t5.data.toList := by rw [ht5, f5, ht3, ht]; rfl
          rw [this]
          unfold expL
          cases mi with
          | true => rw [if_pos rfl, if_pos (hm45.1 rfl)]; rfl
          | false => rw [if_neg (by decide), if_neg (fun h => by have := hm45.2 h; cases this)]; rfl
        obtain ⟨sgN, hsgN⟩ : ∃ sgN : Nat, sgN = if (cutL s.data.toList [45]).2 then 9223372036854775808 else 0 := ⟨_, rfl⟩
        have hs2 : sgN = 0 ∨ sgN = 9223372036854775808 := by rw [hsgN]; split <;> simp
        have hcE : (sgN : Int) = if (cutL s.data.toList [45]).2 then 9223372036854775808 else 0 := by rw [hsgN]; split <;> rfl
        rw [if_neg h1, if_neg h2, if_neg h3, ← hsgN] at hg
        refine guess_word s t t2 t3 t5 _ _ _ _ mi (sgN : Int) (hexRun 13 t3.data.toList 1).1 (hexRun 13 t3.data.toList 1).2 w HT.out hcE HT2.out HT3.out HT5.out rfl (by rw [eM]; exact hsz.2) hmi _ rfl (tenF_bd _ (by rw [List.length_take]; omega)) (guessL s.data.toList) ?_ ?_ ?_ b1 b2 b3
        · intro e he hh
          rw [eE] at he; subst he
          rw [hg, if_pos hh]; rfl
        · intro e he ha hb
          rw [eE] at he; subst he
          rw [hg, if_neg (by omega), eM]
          exact or_norm sgN _ hs2 _ ha hb hsz.1 hsz.2
        · intro e k he hk ha hb
          rw [eE] at he; subst he
          rw [hg, if_neg (by omega), eM]
          exact or_low sgN _ hs2 _ k hk ha hb hsz.2

end Go.Proofs.YtbbikogpfpghbaaDoor
