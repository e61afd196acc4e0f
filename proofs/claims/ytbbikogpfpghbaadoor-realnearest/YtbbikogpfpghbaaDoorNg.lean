/- The document's own way to the nearest narrow number, at every wide one. -/
import Derived.Test.YtbbikogpfpghbaaDoorW6
import Derived.Test.YtbbikogpfpghbaaDoorNar
namespace Go.Proofs.YtbbikogpfpghbaaDoor
open Go.RowKit

/-- A quotient, rounded: one more, or as it is. -/
def upI (M rest P : Int) : Int := if P < rest ∨ (rest = P ∧ M % 2 = 1) then M + 1 else M
theorem upA {M rest P : Int} (h : P < rest) : upI M rest P = M + 1 := by unfold upI; rw [if_pos (Or.inl h)]
theorem upB {M rest P : Int} (h : rest = P) (h2 : (M % 2 == 1) = true) : upI M rest P = M + 1 := by unfold upI; rw [if_pos (Or.inr ⟨h, beq_iff_eq.1 h2⟩)]
theorem upC {M rest P : Int} (h : rest = P) (h2 : (M % 2 == 1) = false) : upI M rest P = M := by
  have := beq_eq_false_iff_ne.1 h2
  unfold upI; rw [if_neg (by omega)]
theorem upD {M rest P : Int} (h : ¬ rest = P) (h2 : rest ≤ P) : upI M rest P = M := by unfold upI; rw [if_neg (by omega)]

/-- What is told of a quotient and its place. -/
def outI (s32 u M : Int) (z : Bool) : Value :=
  if M = 16777216 then (if 255 ≤ u + 1 + 150 then .tuple #[.int .u32 (bits .or .u32 s32 2139095040), .bool false] else .tuple #[.int .u32 (bits .or .u32 (bits .or .u32 s32 ((u + 1 + 150) * 8388608)) 0), .bool z])
  else if M < 8388608 then .tuple #[.int .u32 (bits .or .u32 s32 M), .bool z]
  else if 255 ≤ u + 150 then .tuple #[.int .u32 (bits .or .u32 s32 2139095040), .bool false]
  else .tuple #[.int .u32 (bits .or .u32 (bits .or .u32 s32 ((u + 150) * 8388608)) (M - 8388608)), .bool z]
def NarPost (s32 u M rest P : Int) (e : Ending) : Prop := e = .returned (outI s32 u (upI M rest P) (rest == 0))

theorem o1 {s32 u M rest P M' : Int} (hu : upI M rest P = M') (hm : (M' == 16777216) = true) (h : 255 ≤ u + 1 + 150) : NarPost s32 u M rest P (.returned (.tuple #[.int .u32 (bits .or .u32 s32 2139095040), .bool false])) := by
  unfold NarPost outI; rw [hu, if_pos (beq_iff_eq.1 hm), if_pos h]
theorem o2 {s32 u M rest P M' : Int} (hu : upI M rest P = M') (hm : (M' == 16777216) = true) (h : u + 1 + 150 < 255) : NarPost s32 u M rest P (.returned (.tuple #[.int .u32 (bits .or .u32 (bits .or .u32 s32 ((u + 1 + 150) * 8388608)) 0), .bool (rest == 0)])) := by
  unfold NarPost outI; rw [hu, if_pos (beq_iff_eq.1 hm), if_neg (by omega)]
theorem o3 {s32 u M rest P M' : Int} (hu : upI M rest P = M') (hm : (M' == 16777216) = false) (h1 : 8388608 ≤ M') (h : 255 ≤ u + 150) : NarPost s32 u M rest P (.returned (.tuple #[.int .u32 (bits .or .u32 s32 2139095040), .bool false])) := by
  unfold NarPost outI; rw [hu, if_neg (beq_eq_false_iff_ne.1 hm), if_neg (by omega), if_pos h]
theorem o4 {s32 u M rest P M' : Int} (hu : upI M rest P = M') (hm : (M' == 16777216) = false) (h1 : 8388608 ≤ M') (h : u + 150 < 255) : NarPost s32 u M rest P (.returned (.tuple #[.int .u32 (bits .or .u32 (bits .or .u32 s32 ((u + 150) * 8388608)) (M' - 8388608)), .bool (rest == 0)])) := by
  unfold NarPost outI; rw [hu, if_neg (beq_eq_false_iff_ne.1 hm), if_neg (by omega), if_neg (by omega)]
theorem o5 {s32 u M rest P M' : Int} (hu : upI M rest P = M') (h1 : M' < 8388608) : NarPost s32 u M rest P (.returned (.tuple #[.int .u32 (bits .or .u32 s32 M'), .bool (rest == 0)])) := by
  unfold NarPost outI; rw [hu, if_neg (by omega), if_pos h1]

set_option maxHeartbeats 800000 in
theorem nar_high (b sg s32 q M S rest : Int) (n : Nat) (w : World) (hp : ∀ w, Calls Tryd.prog 88 #[.int .u64 b] w fun e w' => e = .returned (.tuple #[.int .u64 n, .int .i64 q]) ∧ w' = w)
    (hn0 : n ≠ 0) (hH : n.log2 = 52) (hq1 : -178 ≤ q) (hq2 : q ≤ 971)
    (hM0 : 8388608 ≤ M) (hM : M < 16777216) (hshr : (n : Int) / 536870912 = M) (hshl : M * 536870912 = S) (hrest : (n : Int) - S = rest) (hr0 : 0 ≤ rest) (hr1 : rest < 536870912)
    (hsg : b / 9223372036854775808 = sg) (hs32 : sg % 4294967296 * 2147483648 % 4294967296 = s32) (hb : (b == 9221120237041090560) = false) (hb2 : (IntKind.u64.wrap (b * 2) == 18437736874454810624) = false) :
    Calls Tryd.prog 46 #[.int .u64 b] w fun e w' => NarPost s32 (q + 52 - 23) M rest 268435456 e ∧ w' = w := by
  have HP : Hid (∀ w, Calls Tryd.prog 88 #[.int .u64 b] w fun e w' => e = .returned (.tuple #[.int .u64 n, .int .i64 q]) ∧ w' = w) := hp
  clear hp
  have hnz : ((n : Int) == 0) = false := beq_eq_false_iff_ne.2 (by omega)
  have HN0 : Hid (n ≠ 0) := hn0
  have HH : Hid (n.log2 = 52) := hH
  have Hshr : Hid ((n : Int) / 536870912 = M) := hshr
  have Hshl : Hid (M * 536870912 = S) := hshl
  have Hrest : Hid ((n : Int) - S = rest) := hrest
  have HM : Hid (8388608 ≤ M ∧ M < 16777216 ∧ 0 ≤ rest ∧ rest < 536870912) := ⟨hM0, hM, hr0, hr1⟩
  clear hn0 hH hshr hshl hM hM0 hr0 hr1 hrest
  go_enter Tryd.func46, Tryd.ntmps46
  go_wp2_with (go_at_call 88; refine (HP.out _).mono ?_; rintro e w' ⟨rfl, rfl⟩)
  go_loop [7] (fun h => ∃ k : Nat, h = .int .i64 k ∧ k ≤ 52) (fun h => 100 - (intOf h).toNat)
  case atStart => exact ⟨0, rfl, Nat.zero_le _⟩
  case round =>
    obtain ⟨k, rfl, hk⟩ := hrel
    by_cases hlt : k < 52
    · have hg := shr_gt n k (by rw [HH.out]; exact hlt) HN0.out
      clear hsg hs32 hb hb2 hnz
      go_wp2
      go_round
      case rel => exact ⟨k + 1, by go_num, by omega⟩
      case measure => simp [intOf]; omega
    · obtain rfl : k = 52 := by omega
      have hg : (n : Int) / 4503599627370496 ≤ 1 := by
        have := shr_le n
        rw [HH.out] at this
        exact this
      have hshr := Hshr.out
      have hshl := Hshl.out
      have hrest := Hrest.out
      obtain ⟨hM0, hM, hr0, hr1⟩ := HM.out
      have hq9 : q + 52 - 23 - q = 29 := by omega
      clear hsg hs32 hb hb2 hnz hlt hk
      go_wp2
      all_goals go_ret2
      all_goals first
        | (have h0 : 268435456 < rest := (by assumption); have h1 : (M + 1 == 16777216) = true := (by assumption); have h2 : 255 ≤ q + 52 - 23 + 1 + 150 := (by assumption); exact ⟨o1 (upA h0) h1 h2, rfl⟩)
        | (have h0 : 268435456 < rest := (by assumption); have h1 : (M + 1 == 16777216) = true := (by assumption); have h2 : q + 52 - 23 + 1 + 150 < 255 := (by assumption); exact ⟨o2 (upA h0) h1 h2, rfl⟩)
        | (have h0 : 268435456 < rest := (by assumption); have h1 : (M + 1 == 16777216) = false := (by assumption); have h2 : 8388608 ≤ M + 1 := (by assumption); have h3 : 255 ≤ q + 52 - 23 + 150 := (by assumption); exact ⟨o3 (upA h0) h1 h2 h3, rfl⟩)
        | (have h0 : 268435456 < rest := (by assumption); have h1 : (M + 1 == 16777216) = false := (by assumption); have h2 : 8388608 ≤ M + 1 := (by assumption); have h3 : q + 52 - 23 + 150 < 255 := (by assumption); exact ⟨o4 (upA h0) h1 h2 h3, rfl⟩)
        | (have h0 : rest = 268435456 := (by assumption); have h1 : (M % 2 == 1) = true := (by assumption); have h2 : (M + 1 == 16777216) = true := (by assumption); have h3 : 255 ≤ q + 52 - 23 + 1 + 150 := (by assumption); exact ⟨o1 (upB rfl h1) h2 h3, rfl⟩)
        | (have h0 : rest = 268435456 := (by assumption); have h1 : (M % 2 == 1) = true := (by assumption); have h2 : (M + 1 == 16777216) = true := (by assumption); have h3 : q + 52 - 23 + 1 + 150 < 255 := (by assumption); exact ⟨o2 (upB rfl h1) h2 h3, rfl⟩)
        | (have h0 : rest = 268435456 := (by assumption); have h1 : (M % 2 == 1) = true := (by assumption); have h2 : (M + 1 == 16777216) = false := (by assumption); have h3 : 8388608 ≤ M + 1 := (by assumption); have h4 : 255 ≤ q + 52 - 23 + 150 := (by assumption); exact ⟨o3 (upB rfl h1) h2 h3 h4, rfl⟩)
        | (have h0 : rest = 268435456 := (by assumption); have h1 : (M % 2 == 1) = true := (by assumption); have h2 : (M + 1 == 16777216) = false := (by assumption); have h3 : 8388608 ≤ M + 1 := (by assumption); have h4 : q + 52 - 23 + 150 < 255 := (by assumption); exact ⟨o4 (upB rfl h1) h2 h3 h4, rfl⟩)
        | (have h0 : rest = 268435456 := (by assumption); have h1 : (M % 2 == 1) = false := (by assumption); have h2 : (M == 16777216) = false := (by assumption); have h3 : 8388608 ≤ M := (by assumption); have h4 : 255 ≤ q + 52 - 23 + 150 := (by assumption); exact ⟨o3 (upC rfl h1) h2 h3 h4, rfl⟩)
        | (have h0 : rest = 268435456 := (by assumption); have h1 : (M % 2 == 1) = false := (by assumption); have h2 : (M == 16777216) = false := (by assumption); have h3 : 8388608 ≤ M := (by assumption); have h4 : q + 52 - 23 + 150 < 255 := (by assumption); exact ⟨o4 (upC rfl h1) h2 h3 h4, rfl⟩)
        | (have h0 : ¬ rest = 268435456 := (by assumption); have h1 : rest ≤ 268435456 := (by assumption); have h2 : (M == 16777216) = false := (by assumption); have h3 : 8388608 ≤ M := (by assumption); have h4 : 255 ≤ q + 52 - 23 + 150 := (by assumption); exact ⟨o3 (upD h0 h1) h2 h3 h4, rfl⟩)
        | (have h0 : ¬ rest = 268435456 := (by assumption); have h1 : rest ≤ 268435456 := (by assumption); have h2 : (M == 16777216) = false := (by assumption); have h3 : 8388608 ≤ M := (by assumption); have h4 : q + 52 - 23 + 150 < 255 := (by assumption); exact ⟨o4 (upD h0 h1) h2 h3 h4, rfl⟩)

set_option maxHeartbeats 800000 in
theorem nar_low (b sg s32 q P M S rest : Int) (n H : Nat) (w : World) (hp : ∀ w, Calls Tryd.prog 88 #[.int .u64 b] w fun e w' => e = .returned (.tuple #[.int .u64 n, .int .i64 q]) ∧ w' = w)
    (hn0 : n ≠ 0) (hH : n.log2 = H) (hH2 : H ≤ 52) (_hq1 : -1074 ≤ q) (hqH : q + H < -126) (hq2 : -149 - q ≤ 60)
    (hM0 : 0 ≤ M) (hM : M < 8388608) (hshr : Op.shift .shr .u64 (n : Int) .i64 (-149 - q) = pure (.int .u64 M)) (hshl : Op.shift .shl .u64 M .i64 (-149 - q) = pure (.int .u64 S)) (hone : Op.shift .shl .u64 1 .i64 (-149 - q) = pure (.int .u64 (2 * P))) (hP : 0 < P) (hP2 : P < 4000000000000000000)
    (hrest : (n : Int) - S = rest) (hr0 : 0 ≤ rest) (hr1 : rest < 4000000000000000000)
    (hsg : b / 9223372036854775808 = sg) (hs32 : sg % 4294967296 * 2147483648 % 4294967296 = s32) (hb : (b == 9221120237041090560) = false) (hb2 : (IntKind.u64.wrap (b * 2) == 18437736874454810624) = false) :
    Calls Tryd.prog 46 #[.int .u64 b] w fun e w' => NarPost s32 (-149) M rest P e ∧ w' = w := by
  have HP : Hid (∀ w, Calls Tryd.prog 88 #[.int .u64 b] w fun e w' => e = .returned (.tuple #[.int .u64 n, .int .i64 q]) ∧ w' = w) := hp
  clear hp
  have hnz : ((n : Int) == 0) = false := beq_eq_false_iff_ne.2 (by omega)
  have HN0 : Hid (n ≠ 0) := hn0
  have HH : Hid (n.log2 = H) := hH
  have Hshr : Hid (Op.shift .shr .u64 (n : Int) .i64 (-149 - q) = pure (.int .u64 M)) := hshr
  have Hshl : Hid (Op.shift .shl .u64 M .i64 (-149 - q) = pure (.int .u64 S)) := hshl
  have Hone : Hid (Op.shift .shl .u64 1 .i64 (-149 - q) = pure (.int .u64 (2 * P))) := hone
  have HP1 : Hid (0 < P ∧ P < 4000000000000000000) := ⟨hP, hP2⟩
  have Hrest : Hid ((n : Int) - S = rest) := hrest
  have HM : Hid (0 ≤ M ∧ M < 8388608 ∧ 0 ≤ rest ∧ rest < 4000000000000000000) := ⟨hM0, hM, hr0, hr1⟩
  clear hn0 hH hshr hshl hone hP hP2 hM hM0 hr0 hr1 hrest
  go_enter Tryd.func46, Tryd.ntmps46
  go_wp2_with (go_at_call 88; refine (HP.out _).mono ?_; rintro e w' ⟨rfl, rfl⟩)
  go_loop [7] (fun h => ∃ k : Nat, h = .int .i64 k ∧ k ≤ H) (fun h => 100 - (intOf h).toNat)
  case atStart => exact ⟨0, rfl, Nat.zero_le _⟩
  case round =>
    obtain ⟨k, rfl, hk⟩ := hrel
    by_cases hlt : k < H
    · have hg := shr_gt n k (by rw [HH.out]; exact hlt) HN0.out
      clear hsg hs32 hb hb2 hnz
      go_wp2
      go_round
      case rel => exact ⟨k + 1, by go_num, by omega⟩
      case measure => simp [intOf]; omega
    · obtain rfl : k = H := by omega
      have hg := shr_le n
      rw [HH.out] at hg
      have hshr := Hshr.out
      have hshl := Hshl.out
      have hone := Hone.out
      have hrest := Hrest.out
      obtain ⟨hP, hP2⟩ := HP1.out
      obtain ⟨hM0, hM, hr0, hr1⟩ := HM.out
      clear hsg hs32 hb hb2 hnz hlt hk
      go_wp2
      all_goals go_ret2
      all_goals first
        | (have h0 : P < rest := (by assumption); have h1 : (M + 1 == 16777216) = false := (by assumption); have h2 : M + 1 < 8388608 := (by assumption); exact ⟨o5 (upA h0) h2, rfl⟩)
        | (have h0 : P < rest := (by assumption); have h1 : (M + 1 == 16777216) = false := (by assumption); have h2 : 8388608 ≤ M + 1 := (by assumption); exact ⟨o4 (upA h0) h1 h2 (by decide), rfl⟩)
        | (have h0 : rest = P := (by assumption); have h1 : (M % 2 == 1) = true := (by assumption); have h2 : (M + 1 == 16777216) = false := (by assumption); have h3 : M + 1 < 8388608 := (by assumption); exact ⟨o5 (upB rfl h1) h3, rfl⟩)
        | (have h0 : rest = P := (by assumption); have h1 : (M % 2 == 1) = true := (by assumption); have h2 : (M + 1 == 16777216) = false := (by assumption); have h3 : 8388608 ≤ M + 1 := (by assumption); exact ⟨o4 (upB rfl h1) h2 h3 (by decide), rfl⟩)
        | (have h0 : rest = P := (by assumption); have h1 : (M % 2 == 1) = false := (by assumption); have h2 : (M == 16777216) = false := (by assumption); have h3 : M < 8388608 := (by assumption); exact ⟨o5 (upC rfl h1) h3, rfl⟩)
        | (have h0 : ¬ rest = P := (by assumption); have h1 : rest ≤ P := (by assumption); have h2 : (M == 16777216) = false := (by assumption); have h3 : M < 8388608 := (by assumption); exact ⟨o5 (upD h0 h1) h3, rfl⟩)
set_option maxHeartbeats 800000 in
theorem nar_tiny (b sg s32 q : Int) (n H : Nat) (w : World) (hp : ∀ w, Calls Tryd.prog 88 #[.int .u64 b] w fun e w' => e = .returned (.tuple #[.int .u64 n, .int .i64 q]) ∧ w' = w)
    (hn0 : n ≠ 0) (hH : n.log2 = H) (hH2 : H ≤ 52) (_hq1 : -1074 ≤ q) (hqH : q + H < -126) (hq2 : 60 < -149 - q)
    (hsg : b / 9223372036854775808 = sg) (hs32 : sg % 4294967296 * 2147483648 % 4294967296 = s32) (hb : (b == 9221120237041090560) = false) (hb2 : (IntKind.u64.wrap (b * 2) == 18437736874454810624) = false) :
    Calls Tryd.prog 46 #[.int .u64 b] w fun e w' => e = .returned (.tuple #[.int .u32 s32, .bool false]) ∧ w' = w := by
  have HP : Hid (∀ w, Calls Tryd.prog 88 #[.int .u64 b] w fun e w' => e = .returned (.tuple #[.int .u64 n, .int .i64 q]) ∧ w' = w) := hp
  clear hp
  have hnz : ((n : Int) == 0) = false := beq_eq_false_iff_ne.2 (by omega)
  have HN0 : Hid (n ≠ 0) := hn0
  have HH : Hid (n.log2 = H) := hH
  clear hn0 hH
  go_enter Tryd.func46, Tryd.ntmps46
  go_wp2_with (go_at_call 88; refine (HP.out _).mono ?_; rintro e w' ⟨rfl, rfl⟩)
  go_loop [7] (fun h => ∃ k : Nat, h = .int .i64 k ∧ k ≤ H) (fun h => 100 - (intOf h).toNat)
  case atStart => exact ⟨0, rfl, Nat.zero_le _⟩
  case round =>
    obtain ⟨k, rfl, hk⟩ := hrel
    by_cases hlt : k < H
    · have hg := shr_gt n k (by rw [HH.out]; exact hlt) HN0.out
      clear hsg hs32 hb hb2 hnz
      go_wp2
      go_round
      case rel => exact ⟨k + 1, by go_num, by omega⟩
      case measure => simp [intOf]; omega
    · obtain rfl : k = H := by omega
      have hg := shr_le n
      rw [HH.out] at hg
      clear hsg hs32 hb hb2 hnz hlt hk
      go_wp2
      go_ret2
      exact ⟨rfl, rfl⟩

theorem up_half (m d : Nat) (hd : 0 < d) : upI ((m / 2 ^ d : Nat) : Int) ((m % 2 ^ d : Nat) : Int) ((2 ^ (d - 1) : Nat) : Int) = (Fl.half m d : Int) := by
  have e : 2 ^ d = 2 * 2 ^ (d - 1) := by rw [← Nat.pow_succ']; congr 1; omega
  unfold upI Fl.half
  generalize m % 2 ^ d = r at *
  generalize m / 2 ^ d = M at *
  generalize 2 ^ (d - 1) = P at *
  generalize 2 ^ d = Q at *
  by_cases h : P < r ∨ (r = P ∧ M % 2 = 1)
  · rw [if_pos (by omega), if_pos (by omega)]; omega
  · rw [if_neg (by omega), if_neg (by omega)]; omega

theorem or32b (neg : Bool) (A B : Nat) (hA : A < 256) (hB : B < 8388608) : bits .or .u32 (bits .or .u32 (sgn32 neg) ((A * 8388608 : Nat) : Int)) (B : Int) = ((Ieee.single.word neg (A * 8388608 + B) : Nat) : Int) := by
  have hAB : A * 8388608 < 2147483648 := by omega
  rw [or32 neg _ hAB]
  have hw : Ieee.single.word neg (A * 8388608) < 4294967296 ∧ Ieee.single.word neg (A * 8388608) % 2 ^ 23 = 0 ∧ Ieee.single.word neg (A * 8388608) + B = Ieee.single.word neg (A * 8388608 + B) := by
    rw [show (2 : Nat) ^ 23 = 8388608 from by decide]
    cases neg
    · rw [Fl.word_false, Fl.word_false]; omega
    · rw [Fl.word_true, Fl.word_true, Fl.sw32]; omega
  rw [u32_or_nat _ _ hw.1 (by omega), nat_join 23 _ _ hw.2.1 (by rw [show (2 : Nat) ^ 23 = 8388608 from by decide]; omega), hw.2.2]

theorem tup_eq {a b : Int} {c d : Bool} (h : a = b) (h2 : c = d) : (Value.tuple #[.int .u32 a, .bool c]) = .tuple #[.int .u32 b, .bool d] := by rw [h, h2]

theorem out_word (neg : Bool) (u : Int) (K : Nat) (z : Bool) (hu : -149 ≤ u) (hK : K ≤ 16777216) (hlow : K < 8388608 → u = -149) :
    outI (sgn32 neg) u (K : Int) z = .tuple #[.int .u32 (Ieee.single.word neg (min ((u + 149).toNat * 8388608 + K) 2139095040) : Nat), .bool (z && decide ((u + 149).toNat * 8388608 + K < 2139095040))] := by
  unfold outI
  by_cases h1 : K = 16777216
  · rw [if_pos (by omega)]
    by_cases h2 : 255 ≤ u + 1 + 150
    · rw [if_pos h2]
      refine tup_eq ?_ ?_
      · rw [Nat.min_eq_right (by omega)]
        exact or32 neg 2139095040 (by omega)
      · rw [decide_eq_false (by omega), Bool.and_false]
    · rw [if_neg h2]
      refine tup_eq ?_ ?_
      · rw [Nat.min_eq_left (by omega)]
        have e : (u + 1 + 150) * 8388608 = (((u + 151).toNat * 8388608 : Nat) : Int) := by omega
        have e2 : (u + 149).toNat * 8388608 + K = (u + 151).toNat * 8388608 + 0 := by omega
        rw [e, e2]
        exact or32b neg _ 0 (by omega) (by omega)
      · rw [decide_eq_true (by omega), Bool.and_true]
  · rw [if_neg (by omega)]
    by_cases h3 : K < 8388608
    · have hu2 := hlow h3
      subst hu2
      rw [if_pos (by omega)]
      refine tup_eq ?_ ?_
      · rw [Nat.min_eq_left (by omega)]
        have e2 : (-149 + 149 : Int).toNat * 8388608 + K = K := by omega
        rw [e2]
        exact or32 neg K (by omega)
      · rw [decide_eq_true (by omega), Bool.and_true]
    · rw [if_neg (by omega)]
      by_cases h2 : 255 ≤ u + 150
      · rw [if_pos h2]
        refine tup_eq ?_ ?_
        · rw [Nat.min_eq_right (by omega)]
          exact or32 neg 2139095040 (by omega)
        · rw [decide_eq_false (by omega), Bool.and_false]
      · rw [if_neg h2]
        refine tup_eq ?_ ?_
        · rw [Nat.min_eq_left (by omega)]
          have e : (u + 150) * 8388608 = (((u + 150).toNat * 8388608 : Nat) : Int) := by omega
          have e2 : (u + 149).toNat * 8388608 + K = (u + 150).toNat * 8388608 + (K - 8388608) := by omega
          have e3 : (K : Int) - 8388608 = ((K - 8388608 : Nat) : Int) := by omega
          rw [e, e2, e3]
          exact or32b neg _ _ (by omega) (by omega)
        · rw [decide_eq_true (by omega), Bool.and_true]

end Go.Proofs.YtbbikogpfpghbaaDoor
