/- The package's readings of texts, walked: the whole. -/
import Derived.Test.YtbbikogpfpghbaaDoorW19
import Derived.Test.YtbbikogpfpghbaaDoorW15
namespace Go.Proofs.YtbbikogpfpghbaaDoor
open Go.RowKit
attribute [local go_sem] x35 x36 x40 x41

set_option maxHeartbeats 400000 in
theorem pf_empty (s : ByteArray) (w : World) (h0 : (s.toList.isEmpty) = true) :
    Calls Tryd.prog 122 #[.string s] w fun e w' => e = .returned (optI .u64 (some 0)) ∧ w' = w := by
  go_enter Tryd.func122, Tryd.ntmps122
  go_wp2
  go_ret2
  exact ⟨rfl, rfl⟩
set_option maxHeartbeats 400000 in
theorem pf_point (s : ByteArray) (w : World) (x : ByteArray) (h0 : (s.toList.isEmpty) = false) (hp : ∀ w, Calls Tryd.prog 94 #[.string s, .string ⟨#[46]⟩] w fun e w' => e = .returned (.tuple #[.string x, .bool false]) ∧ w' = w) :
    Calls Tryd.prog 122 #[.string s] w fun e w' => e = .returned (optI .u64 none) ∧ w' = w := by
  have HP : Hid (∀ w, Calls Tryd.prog 94 #[.string s, .string ⟨#[46]⟩] w fun e w' => e = .returned (.tuple #[.string x, .bool false]) ∧ w' = w) := hp
  clear hp
  go_enter Tryd.func122, Tryd.ntmps122
  go_wp2_with (go_at_call 94; refine (HP.out _).mono ?_; rintro e w' ⟨rfl, rfl⟩)
  go_ret2
  exact ⟨rfl, rfl⟩
set_option maxHeartbeats 400000 in
theorem pf_none (s : ByteArray) (w : World) (ds : List UInt8) (h0 : (s.toList.isEmpty) = false) (hp : ∀ w, Calls Tryd.prog 94 #[.string s, .string ⟨#[46]⟩] w fun e w' => e = .returned (.tuple #[.string ⟨ds.toArray⟩, .bool true]) ∧ w' = w) (hd : ds.isEmpty = true) :
    Calls Tryd.prog 122 #[.string s] w fun e w' => e = .returned (optI .u64 none) ∧ w' = w := by
  have HP : Hid (∀ w, Calls Tryd.prog 94 #[.string s, .string ⟨#[46]⟩] w fun e w' => e = .returned (.tuple #[.string ⟨ds.toArray⟩, .bool true]) ∧ w' = w) := hp
  clear hp
  go_enter Tryd.func122, Tryd.ntmps122
  go_wp2_with (go_at_call 94; refine (HP.out _).mono ?_; rintro e w' ⟨rfl, rfl⟩)
  go_ret2
  exact ⟨rfl, rfl⟩
set_option maxHeartbeats 400000 in
theorem pf_long (s : ByteArray) (w : World) (ds : List UInt8) (h0 : (s.toList.isEmpty) = false) (hp : ∀ w, Calls Tryd.prog 94 #[.string s, .string ⟨#[46]⟩] w fun e w' => e = .returned (.tuple #[.string ⟨ds.toArray⟩, .bool true]) ∧ w' = w) (hd : ds.isEmpty = false) (hl : decide (13 < (ds.length : Int)) = true) :
    Calls Tryd.prog 122 #[.string s] w fun e w' => e = .returned (optI .u64 none) ∧ w' = w := by
  have HP : Hid (∀ w, Calls Tryd.prog 94 #[.string s, .string ⟨#[46]⟩] w fun e w' => e = .returned (.tuple #[.string ⟨ds.toArray⟩, .bool true]) ∧ w' = w) := hp
  clear hp
  go_enter Tryd.func122, Tryd.ntmps122
  go_wp2_with (go_at_call 94; refine (HP.out _).mono ?_; rintro e w' ⟨rfl, rfl⟩)
  go_ret2
  exact ⟨rfl, rfl⟩
set_option maxHeartbeats 400000 in
theorem pf_zero (s : ByteArray) (w : World) (ds : List UInt8) (h0 : (s.toList.isEmpty) = false) (hp : ∀ w, Calls Tryd.prog 94 #[.string s, .string ⟨#[46]⟩] w fun e w' => e = .returned (.tuple #[.string ⟨ds.toArray⟩, .bool true]) ∧ w' = w) (hd : ds.isEmpty = false) (hl : decide (13 < (ds.length : Int)) = false)
    (hs : ∀ w, Calls Tryd.prog 135 #[.string ⟨ds.toArray⟩, .string ⟨#[48]⟩] w fun e w' => e = .returned (.bool true) ∧ w' = w) :
    Calls Tryd.prog 122 #[.string s] w fun e w' => e = .returned (optI .u64 none) ∧ w' = w := by
  have HP : Hid (∀ w, Calls Tryd.prog 94 #[.string s, .string ⟨#[46]⟩] w fun e w' => e = .returned (.tuple #[.string ⟨ds.toArray⟩, .bool true]) ∧ w' = w) := hp
  have HS : Hid (∀ w, Calls Tryd.prog 135 #[.string ⟨ds.toArray⟩, .string ⟨#[48]⟩] w fun e w' => e = .returned (.bool true) ∧ w' = w) := hs
  clear hp hs
  go_enter Tryd.func122, Tryd.ntmps122
  go_wp2_with (first | (go_at_call 94; refine (HP.out _).mono ?_; rintro e w' ⟨rfl, rfl⟩) | (go_at_call 135; refine (HS.out _).mono ?_; rintro e w' ⟨rfl, rfl⟩))
  go_ret2
  exact ⟨rfl, rfl⟩

theorem suffix_last (ds : List UInt8) : Lib.hasSuffix ds [48] = decide (ds.getLast? = some 48) := by
  rcases List.eq_nil_or_concat ds with rfl | ⟨l, c, rfl⟩
  · rfl
  · rw [List.concat_eq_append, List.getLast?_append]
    unfold Lib.hasSuffix List.isSuffixOf
    rw [List.reverse_append]
    simp only [List.reverse_cons, List.reverse_nil, List.nil_append, List.getLast?_singleton, Option.some_or, List.cons_append]
    by_cases h : c = 48
    · subst h; simp
    · have : (48 == c) = false := by rw [beq_eq_false_iff_ne]; exact fun e => h e.symm
      simp [List.isPrefixOf, this, h]

theorem parseFraction_any (s : ByteArray) (w : World) :
    Calls Tryd.prog 122 #[.string s] w fun e w' => e = .returned (optI .u64 ((parseFracL s.data.toList).map fun n : Nat => (n : Int))) ∧ w' = w := by
  have htl : s.toList = s.data.toList := Lib.toList_data s
  cases hl : s.data.toList with
  | nil => exact pf_empty s w (by rw [htl, hl]; rfl)
  | cons c ds =>
    have h0 : s.toList.isEmpty = false := by rw [htl, hl]; rfl
    have hp := fun w => Tryd.strings_CutPrefix s ⟨#[46]⟩ w
    rw [hl] at hp
    by_cases hc : c = 46
    · subst hc
      have e1 : Lib.hasPrefix (46 :: ds) [46] = true := by simp [Lib.hasPrefix]
      have e2 : Lib.trimPrefix (46 :: ds) [46] = ds := by unfold Lib.trimPrefix; rw [e1]; simp
      simp only [e1, e2] at hp
      by_cases hd : ds = []
      · subst hd
        exact pf_none s w [] h0 hp rfl
      · have hde : ds.isEmpty = false := by cases ds with
          | nil => exact absurd rfl hd
          | cons _ _ => rfl
        by_cases hlen : 13 < ds.length
        · have r := pf_long s w ds h0 hp hde (by simp; omega)
          simp only [parseFracL]
          rw [if_pos (.inr (.inr (.inl hlen)))]
          exact r
        · have hs := fun w => Tryd.strings_HasSuffix ⟨ds.toArray⟩ ⟨#[48]⟩ w (by
            have : (⟨ds.toArray⟩ : ByteArray).size = ds.length := by simp [ByteArray.size]
            omega)
          simp only at hs
          rw [suffix_last] at hs
          by_cases hz : ds.getLast? = some 48
          · have r := pf_zero s w ds h0 hp hde (by simp; omega) (by rw [decide_eq_true hz] at hs; exact hs)
            simp only [parseFracL]
            rw [if_pos (.inr (.inr (.inr hz)))]
            exact r
          · have r := parseFraction_main s w ds h0 hp (by rw [decide_eq_false hz] at hs; exact hs) hde (by omega)
            simp only [parseFracL]
            rw [if_neg (by intro hh; rcases hh with hh | hh | hh | hh; exact hh rfl; exact hd hh; exact hlen hh; exact hz hh), Option.map_map]
            exact r
    · have e1 : Lib.hasPrefix (c :: ds) [46] = false := by
        have : (46 == c) = false := by rw [beq_eq_false_iff_ne]; exact fun e => hc e.symm
        simp [Lib.hasPrefix, List.isPrefixOf, this]
      simp only [e1] at hp
      have r := pf_point s w _ h0 hp
      simp only [parseFracL]
      rw [if_pos (.inl hc)]
      exact r

set_option maxHeartbeats 400000 in
theorem pack_out (F e : Int) (w : World) (h : e < -1074 ∨ 1023 < e) :
    Calls Tryd.prog 124 #[.int .u64 F, .int .i64 e] w fun r w' => r = .returned (optI .u64 none) ∧ w' = w := by
  rcases h with h | h
  all_goals
    go_enter Tryd.func124, Tryd.ntmps124
    go_wp2
    go_ret2
    exact ⟨rfl, rfl⟩
set_option maxHeartbeats 400000 in
theorem pack_full (F e b : Int) (w : World) (h1 : -1022 ≤ e) (h2 : e ≤ 1023) (hb : bits .or .u64 ((e + 1023) * 4503599627370496) F = b) :
    Calls Tryd.prog 124 #[.int .u64 F, .int .i64 e] w fun r w' => r = .returned (optI .u64 (some b)) ∧ w' = w := by
  go_enter Tryd.func124, Tryd.ntmps124
  go_wp2
  go_ret2
  exact ⟨rfl, rfl⟩
set_option maxHeartbeats 400000 in
theorem pack_low (F e u : Int) (t : Nat) (w : World) (h1 : -1074 ≤ e) (h2 : e < -1022) (hu : bits .or .u64 4503599627370496 F = u) (ht : ∀ w', Below w.heap.size w w' → Calls Tryd.prog 137 #[.int .u64 u] w' fun r w'' => r = .returned (.int .i64 t) ∧ w'' = w') (hlt : (t : Int) < -1022 - e) :
    Calls Tryd.prog 124 #[.int .u64 F, .int .i64 e] w fun r w' => r = .returned (optI .u64 none) ∧ w' = w := by
  have HT : Hid (∀ w', Below w.heap.size w w' → Calls Tryd.prog 137 #[.int .u64 u] w' fun r w'' => r = .returned (.int .i64 t) ∧ w'' = w') := ht
  clear ht
  go_enter Tryd.func124, Tryd.ntmps124
  go_wp2_with (go_at_call 137; refine (HT.out _ (Below.refl _ _)).mono ?_; rintro e w' ⟨rfl, rfl⟩)
  go_ret2
  exact ⟨rfl, rfl⟩
set_option maxHeartbeats 400000 in
theorem pack_low_ok (F e u : Int) (t : Nat) (w : World) (h1 : -1074 ≤ e) (h2 : e < -1022) (hu : bits .or .u64 4503599627370496 F = u) (ht : ∀ w', Below w.heap.size w w' → Calls Tryd.prog 137 #[.int .u64 u] w' fun r w'' => r = .returned (.int .i64 t) ∧ w'' = w') (hlt : -1022 - e ≤ (t : Int)) :
    Calls Tryd.prog 124 #[.int .u64 F, .int .i64 e] w fun r w' => r = .returned (optI .u64 (some (u / 2 ^ (-1022 - e).toNat))) ∧ w' = w := by
  have HT : Hid (∀ w', Below w.heap.size w w' → Calls Tryd.prog 137 #[.int .u64 u] w' fun r w'' => r = .returned (.int .i64 t) ∧ w'' = w') := ht
  clear ht
  go_enter Tryd.func124, Tryd.ntmps124
  go_wp2_with (go_at_call 137; refine (HT.out _ (Below.refl _ _)).mono ?_; rintro e w' ⟨rfl, rfl⟩)
  go_ret2
  exact ⟨rfl, rfl⟩

theorem pack_any (F : Nat) (e : Int) (w : World) (hF : F < 4503599627370496) (hR : Rd w) :
    Calls Tryd.prog 124 #[.int .u64 F, .int .i64 e] w fun r w' => r = .returned (optI .u64 ((packL F e).map fun n : Nat => (n : Int))) ∧ w' = w := by
  unfold packL
  by_cases h1 : e < -1074 ∨ 1023 < e
  · rw [if_pos h1]; exact pack_out _ _ w h1
  · rw [if_neg h1]
    by_cases h2 : -1022 ≤ e
    · rw [if_pos h2]
      obtain ⟨E, hE⟩ : ∃ E : Nat, e + 1023 = (E : Int) := ⟨(e + 1023).toNat, by omega⟩
      have hEn : (e + 1023).toNat = E := by omega
      have hE2 : E ≤ 2046 := by omega
      have ho := or64 (E * 4503599627370496) F 52 (by omega) (by rw [show (2 : Nat) ^ 52 = 4503599627370496 from by decide]; exact Nat.mul_mod_left _ _) (by rw [show (2 : Nat) ^ 52 = 4503599627370496 from by decide]; exact hF) (by omega)
      rw [Int.natCast_mul] at ho
      rw [hEn]
      exact pack_full F e _ w h2 (by omega) (by rw [hE]; exact ho)
    · rw [if_neg h2]
      have hu := or_top F hF
      have ht : ∀ w', Below w.heap.size w w' → Calls Tryd.prog 137 #[.int .u64 ((4503599627370496 + F : Nat) : Int)] w' fun r w'' => r = .returned (.int .i64 (Lib.ctz 64 (4503599627370496 + F) : Nat)) ∧ w'' = w' := fun w' hb => tz64 _ (by omega) w' (by omega) (hR.below hb).tz
      by_cases h3 : Lib.ctz 64 (4503599627370496 + F) < (-1022 - e).toNat
      · rw [if_pos h3]
        exact pack_low F e _ _ w (by omega) (by omega) hu ht (by omega)
      · rw [if_neg h3]
        have r := pack_low_ok F e _ _ w (by omega) (by omega) hu ht (by omega)
        have ec : ((4503599627370496 + F : Nat) : Int) / 2 ^ (-1022 - e).toNat = (((4503599627370496 + F) / 2 ^ (-1022 - e).toNat : Nat) : Int) := by
          rw [Int.natCast_ediv, Int.natCast_pow]; rfl
        rw [ec] at r
        exact r

/-! A number above 0, or 0. -/
theorem optI_some (k : IntKind) (b : Int) : optI k (some b) = .tuple #[.int k b, .bool true] := rfl
theorem optI_none (k : IntKind) : optI k none = .tuple #[.int k 0, .bool false] := rfl

set_option maxHeartbeats 400000 in
theorem ps_inf (s : ByteArray) (w : World) (h : (s.toList == [105, 110, 102]) = true) :
    Calls Tryd.prog 95 #[.string s] w fun r w' => r = .returned (optI .u64 (some 9218868437227405312)) ∧ w' = w := by
  go_enter Tryd.func95, Tryd.ntmps95
  go_wp2
  go_ret2
  exact ⟨rfl, rfl⟩
set_option maxHeartbeats 400000 in
theorem ps_zero (s : ByteArray) (w : World) (h : (s.toList == [105, 110, 102]) = false) (h2 : (s.toList == [48, 120, 48, 112, 43, 48]) = true) :
    Calls Tryd.prog 95 #[.string s] w fun r w' => r = .returned (optI .u64 (some 0)) ∧ w' = w := by
  go_enter Tryd.func95, Tryd.ntmps95
  go_wp2
  go_ret2
  exact ⟨rfl, rfl⟩

set_option maxHeartbeats 1000000 in
theorem ps_core (s rest front back : ByteArray) (b1 b2 : Bool) (F : Option Int) (e : Option Int) (p : Option Int) (w : World) (h : (s.toList == [105, 110, 102]) = false) (h2 : (s.toList == [48, 120, 48, 112, 43, 48]) = false)
    (hc : ∀ w, Calls Tryd.prog 94 #[.string s, .string ⟨#[48, 120, 49]⟩] w fun r w' => r = .returned (.tuple #[.string rest, .bool b1]) ∧ w' = w)
    (hk : Calls Tryd.prog 121 #[.string rest, .string ⟨#[112]⟩] w fun r w' => r = .returned (.tuple #[.string front, .string back, .bool b2]) ∧ ∃ n, w' = w.drewN n)
    (hf : b1 = true → b2 = true → ∀ w, Calls Tryd.prog 122 #[.string front] w fun r w' => r = .returned (optI .u64 F) ∧ w' = w)
    (he : b1 = true → b2 = true → ∀ w, Calls Tryd.prog 123 #[.string back] w fun r w' => r = .returned (optI .i64 e) ∧ w' = w)
    (hp : ∀ a c, b1 = true → b2 = true → F = some a → e = some c → ∀ n, Calls Tryd.prog 124 #[.int .u64 a, .int .i64 c] (w.drewN n) fun r w' => r = .returned (optI .u64 p) ∧ w' = w.drewN n)
    (hq : b1 = false ∨ b2 = false ∨ F = none ∨ e = none → p = none) :
    Calls Tryd.prog 95 #[.string s] w fun r w' => r = .returned (optI .u64 p) ∧ ∃ n, w' = w.drewN n := by
  have HC : Hid (∀ w, Calls Tryd.prog 94 #[.string s, .string ⟨#[48, 120, 49]⟩] w fun r w' => r = .returned (.tuple #[.string rest, .bool b1]) ∧ w' = w) := hc
  have HK : Hid (Calls Tryd.prog 121 #[.string rest, .string ⟨#[112]⟩] w fun r w' => r = .returned (.tuple #[.string front, .string back, .bool b2]) ∧ ∃ n, w' = w.drewN n) := hk
  have HF : Hid (b1 = true → b2 = true → ∀ w, Calls Tryd.prog 122 #[.string front] w fun r w' => r = .returned (optI .u64 F) ∧ w' = w) := hf
  have HE : Hid (b1 = true → b2 = true → ∀ w, Calls Tryd.prog 123 #[.string back] w fun r w' => r = .returned (optI .i64 e) ∧ w' = w) := he
  have HP : Hid (∀ a c, b1 = true → b2 = true → F = some a → e = some c → ∀ n, Calls Tryd.prog 124 #[.int .u64 a, .int .i64 c] (w.drewN n) fun r w' => r = .returned (optI .u64 p) ∧ w' = w.drewN n) := hp
  have HQ : Hid (b1 = false ∨ b2 = false ∨ F = none ∨ e = none → p = none) := hq
  clear hc hk hf he hp hq
  go_enter Tryd.func95, Tryd.ntmps95
  go_wp2_with fail
  refine (HC.out _).mono ?_
  rintro r w' ⟨rfl, rfl⟩
  go_wp2_with fail
  refine HK.out.mono ?_
  rintro r w1 ⟨rfl, n, rfl⟩
  cases b1 with
  | false =>
    have hpn : Hid (p = none) := HQ.out (.inl rfl)
    go_wp2
    go_ret2
    exact ⟨by rw [hpn.out]; rfl, n, rfl⟩
  | true =>
    cases b2 with
    | false =>
      have hpn : Hid (p = none) := HQ.out (.inr (.inl rfl))
      go_wp2
      go_ret2
      exact ⟨by rw [hpn.out]; rfl, n, rfl⟩
    | true =>
      go_wp2_with fail
      refine (HF.out (by simp) (by simp) _).mono ?_
      rintro r w1 ⟨rfl, rfl⟩
      cases F with
      | none =>
        have hpn : Hid (p = none) := HQ.out (.inr (.inr (.inl rfl)))
        rw [optI_none]
        go_wp2_with fail
        refine (HE.out (by simp) (by simp) _).mono ?_
        rintro r w1 ⟨rfl, rfl⟩
        cases e with
        | none =>
          rw [optI_none]
          go_wp2
          go_ret2
          exact ⟨by rw [hpn.out]; rfl, n, rfl⟩
        | some c =>
          rw [optI_some]
          go_wp2
          go_ret2
          exact ⟨by rw [hpn.out]; rfl, n, rfl⟩
      | some a =>
        rw [optI_some]
        go_wp2_with fail
        refine (HE.out (by simp) (by simp) _).mono ?_
        rintro r w1 ⟨rfl, rfl⟩
        cases e with
        | none =>
          have hpn : Hid (p = none) := HQ.out (.inr (.inr (.inr rfl)))
          rw [optI_none]
          go_wp2
          go_ret2
          exact ⟨by rw [hpn.out]; rfl, n, rfl⟩
        | some c =>
          rw [optI_some]
          go_wp2_with fail
          refine (HP.out a c (by simp) (by simp) (by simp) (by simp) _).mono ?_
          rintro r w1 ⟨rfl, rfl⟩
          cases p with
          | none =>
            rw [optI_none]
            go_wp2
            go_ret2
            exact ⟨rfl, n, rfl⟩
          | some b =>
            rw [optI_some]
            go_wp2
            go_ret2
            exact ⟨rfl, n, rfl⟩

theorem cut_len (l : List UInt8) (sep : List UInt8) : (Lib.cut l sep).2.1.length ≤ l.length := by
  unfold Lib.cut
  split
  · simp only [List.length_drop]; omega
  · simp
theorem trimp_len (l p : List UInt8) : (Lib.trimPrefix l p).length ≤ l.length := by
  unfold Lib.trimPrefix
  split
  · simp only [List.length_drop]; omega
  · exact Nat.le_refl _
theorem size_mk (l : List UInt8) : (⟨l.toArray⟩ : ByteArray).size = l.length := by simp [ByteArray.size]
theorem size_list (s : ByteArray) : s.data.toList.length = s.size := by rw [Array.length_toList]; rfl

theorem parseSize_any (s : ByteArray) (w : World) (hsz : s.size ≤ 2147483647) (hR : Rd w) :
    Calls Tryd.prog 95 #[.string s] w fun r w' => r = .returned (optI .u64 ((parseSizeL s.data.toList).map fun n : Nat => (n : Int))) ∧ ∃ n, w' = w.drewN n := by
  have htl : s.toList = s.data.toList := Lib.toList_data s
  have hsl := size_list s
  unfold parseSizeL
  by_cases h1 : s.data.toList = [105, 110, 102]
  · rw [if_pos h1]
    exact (ps_inf s w (by rw [htl, h1]; rfl)).mono fun r w' ⟨a, b⟩ => ⟨a, 0, b⟩
  · rw [if_neg h1]
    have h1' : (s.toList == [105, 110, 102]) = false := by rw [htl, beq_eq_false_iff_ne]; exact h1
    by_cases h2 : s.data.toList = [48, 120, 48, 112, 43, 48]
    · rw [if_pos h2]
      exact (ps_zero s w h1' (by rw [htl, h2]; rfl)).mono fun r w' ⟨a, b⟩ => ⟨a, 0, b⟩
    · rw [if_neg h2]
      have h2' : (s.toList == [48, 120, 48, 112, 43, 48]) = false := by rw [htl, beq_eq_false_iff_ne]; exact h2
      have hc := fun w => Tryd.strings_CutPrefix s ⟨#[48, 120, 49]⟩ w
      have hl1 := trimp_len s.data.toList [48, 120, 49]
      simp only at hc
      generalize Lib.trimPrefix s.data.toList [48, 120, 49] = rest at *
      generalize Lib.hasPrefix s.data.toList [48, 120, 49] = b1 at *
      obtain ⟨m, hm⟩ := hR.most
      have hk := Tryd.strings_Cut ⟨rest.toArray⟩ ⟨#[112]⟩ m w (by rw [size_mk]; omega) hm
      have hl2 := cut_len rest [112]
      simp only at hk
      generalize Lib.cut rest [112] = ct at *
      obtain ⟨front, back, b2⟩ := ct
      simp only at hk hl2 ⊢
      refine ps_core s ⟨rest.toArray⟩ ⟨front.toArray⟩ ⟨back.toArray⟩ b1 b2 ((parseFracL front).map fun n : Nat => (n : Int)) (parsePowL back) _ w h1' h2' hc hk (fun _ _ w => parseFraction_any ⟨front.toArray⟩ w) (fun _ _ w => parsePower_any ⟨back.toArray⟩ w (by rw [size_mk]; omega)) ?_ ?_
      · intro a c hb1 hb2 hF he n
        obtain ⟨F, hF1, rfl⟩ := Option.map_eq_some_iff.1 hF
        have hlt := (frac_forth _ _ hF1).2
        have r := pack_any F c (w.drewN n) hlt (rd_drewN hR n)
        rw [if_neg (by simp [hb1, hb2]), hF1, he]
        exact r
      · intro hh
        rcases hh with hh | hh | hh | hh
        · rw [if_pos (.inl hh)]; rfl
        · rw [if_pos (.inr hh)]; rfl
        · rw [Option.map_eq_none_iff] at hh
          rw [hh]
          split <;> rfl
        · rw [hh]
          split
          · rfl
          · cases parseFracL front <;> rfl

set_option maxHeartbeats 400000 in
theorem psd_core (s rest : ByteArray) (neg : Bool) (o : Option Nat) (w : World) (hc : ∀ w, Calls Tryd.prog 94 #[.string s, .string ⟨#[45]⟩] w fun r w' => r = .returned (.tuple #[.string rest, .bool neg]) ∧ w' = w)
    (hp : Calls Tryd.prog 95 #[.string rest] w fun r w' => r = .returned (optI .u64 (o.map fun n : Nat => (n : Int))) ∧ ∃ n, w' = w.drewN n)
    (ho : ∀ b, o = some b → bits .or .u64 (b : Int) 9223372036854775808 = ((b + 9223372036854775808 : Nat) : Int)) :
    Calls Tryd.prog 53 #[.string s] w fun r w' => r = .returned (optI .u64 ((o.map fun b => if neg then b + 9223372036854775808 else b).map fun n : Nat => (n : Int))) ∧ ∃ n, w' = w.drewN n := by
  have HC : Hid (∀ w, Calls Tryd.prog 94 #[.string s, .string ⟨#[45]⟩] w fun r w' => r = .returned (.tuple #[.string rest, .bool neg]) ∧ w' = w) := hc
  have HP : Hid (Calls Tryd.prog 95 #[.string rest] w fun r w' => r = .returned (optI .u64 (o.map fun n : Nat => (n : Int))) ∧ ∃ n, w' = w.drewN n) := hp
  have HO : Hid (∀ b, o = some b → bits .or .u64 (b : Int) 9223372036854775808 = ((b + 9223372036854775808 : Nat) : Int)) := ho
  clear hc hp ho
  go_enter Tryd.func53, Tryd.ntmps53
  go_wp2_with fail
  refine (HC.out _).mono ?_
  rintro r w' ⟨rfl, rfl⟩
  go_wp2_with fail
  refine HP.out.mono ?_
  rintro r w1 ⟨rfl, n, rfl⟩
  cases o with
  | none =>
    rw [Option.map_none, optI_none]
    go_wp2
    all_goals
      go_ret2
      exact ⟨rfl, n, rfl⟩
  | some b =>
    rw [Option.map_some, optI_some]
    cases neg with
    | false =>
      go_wp2
      go_ret2
      exact ⟨rfl, n, rfl⟩
    | true =>
      obtain ⟨bi, HBi⟩ : ∃ bi : Int, Hid (bi = (b : Int)) := ⟨_, rfl⟩
      have hor : bits .or .u64 (b : Int) 9223372036854775808 = ((b + 9223372036854775808 : Nat) : Int) := HO.out b (by simp)
      have HOr : Hid (bits .or .u64 (b : Int) 9223372036854775808 = ((b + 9223372036854775808 : Nat) : Int)) := hor
      clear hor
      rw [← HBi.out]
      go_wp2
      go_ret2
      refine ⟨?_, n, rfl⟩
      show Ending.returned (.tuple #[.int .u64 (bits .or .u64 bi 9223372036854775808), .bool true]) = _
      rw [HBi.out, HOr.out]
      rfl

theorem parseSigned_any (s : ByteArray) (w : World) (hsz : s.size ≤ 2147483647) (hR : Rd w) :
    Calls Tryd.prog 53 #[.string s] w fun r w' => r = .returned (optI .u64 ((parseSignedL s.data.toList).map fun n : Nat => (n : Int))) ∧ ∃ n, w' = w.drewN n := by
  have hsl := size_list s
  have hl1 := trimp_len s.data.toList [45]
  have hc := fun w => Tryd.strings_CutPrefix s ⟨#[45]⟩ w
  simp only at hc
  have hp := parseSize_any ⟨(Lib.trimPrefix s.data.toList [45]).toArray⟩ w (by rw [size_mk]; omega) hR
  simp only at hp
  unfold parseSignedL
  refine psd_core s _ _ (parseSizeL (Lib.trimPrefix s.data.toList [45])) w hc hp ?_
  intro b hb
  have hle := (size_forth _ _ hb).2
  have e := or64 9223372036854775808 b 63 (by omega) (by decide) (Nat.lt_of_lt_of_eq (m := 9223372036854775808) (by omega) (by decide)) (by omega)
  have e2 := u64_or_nat b 9223372036854775808 (by omega) (by omega)
  have e3 := u64_or_nat 9223372036854775808 b (by omega) (by omega)
  rw [e3] at e
  rw [Nat.or_comm] at e2
  have e4 : bits .or .u64 (b : Int) 9223372036854775808 = ((9223372036854775808 ||| b : Nat) : Int) := e2
  rw [e4, e, Nat.add_comm]

/-- What a reading of 64 bits answers. -/
def ansF (k : FloatKind) (o : Option Nat) : Value := .tuple #[.float k (o.getD 0), .int .i64 (if o.isSome then 0 else 11)]

set_option maxHeartbeats 400000 in
theorem p64_nan (s : ByteArray) (w : World) (h : (s.toList == [110, 97, 110]) = true) :
    Calls Tryd.prog 34 #[.string s] w fun r w' => r = .returned (ansF .f64 (some 9221120237041090560)) ∧ w' = w := by
  go_enter Tryd.func34, Tryd.ntmps34
  go_wp2
  go_ret2
  exact ⟨rfl, rfl⟩
set_option maxHeartbeats 400000 in
theorem p64_core (s : ByteArray) (o : Option Nat) (w : World) (h : (s.toList == [110, 97, 110]) = false)
    (hp : Calls Tryd.prog 53 #[.string s] w fun r w' => r = .returned (optI .u64 (o.map fun n : Nat => (n : Int))) ∧ ∃ n, w' = w.drewN n) :
    Calls Tryd.prog 34 #[.string s] w fun r w' => r = .returned (ansF .f64 o) ∧ ∃ n, w' = w.drewN n := by
  have HP : Hid (Calls Tryd.prog 53 #[.string s] w fun r w' => r = .returned (optI .u64 (o.map fun n : Nat => (n : Int))) ∧ ∃ n, w' = w.drewN n) := hp
  clear hp
  go_enter Tryd.func34, Tryd.ntmps34
  go_wp2_with fail
  refine HP.out.mono ?_
  rintro r w1 ⟨rfl, n, rfl⟩
  cases o with
  | none =>
    rw [Option.map_none, optI_none]
    go_wp2
    go_ret2
    exact ⟨rfl, n, rfl⟩
  | some b =>
    rw [Option.map_some, optI_some]
    go_wp2
    go_ret2
    exact ⟨rfl, n, rfl⟩

/-- Parse64, at every text. -/
theorem parse64_any (s : ByteArray) (w : World) (hsz : s.size ≤ 2147483647) (hR : Rd w) :
    Calls Tryd.prog 34 #[.string s] w fun r w' => r = .returned (ansF .f64 (parseL s.data.toList)) ∧ ∃ n, w' = w.drewN n := by
  have htl : s.toList = s.data.toList := Lib.toList_data s
  unfold parseL
  by_cases h : s.data.toList = [110, 97, 110]
  · rw [if_pos h]
    exact (p64_nan s w (by rw [htl, h]; rfl)).mono fun r w' ⟨a, b⟩ => ⟨a, 0, b⟩
  · rw [if_neg h]
    exact p64_core s _ w (by rw [htl, beq_eq_false_iff_ne]; exact h) (parseSigned_any s w hsz hR)

end Go.Proofs.YtbbikogpfpghbaaDoor
