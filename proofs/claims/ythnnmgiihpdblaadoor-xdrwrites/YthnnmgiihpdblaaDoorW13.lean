/- The package's texts of numbers: what Print64 and Print32 tell. -/
import Derived.Test.YthnnmgiihpdblaaDoorW12
namespace Go.Proofs.YthnnmgiihpdblaaDoor
open Go.RowKit

/-- The text of some bytes. -/
def B (l : List UInt8) : Value := .string ⟨l.toArray⟩
theorem bapp (a b : List UInt8) : (⟨a.toArray⟩ : ByteArray) ++ ⟨b.toArray⟩ = ⟨(a ++ b).toArray⟩ := by
  apply ByteArray.ext
  simp
theorem ret_str {a b : ByteArray} (h : a = b) : Ending.returned (.string a) = .returned (.string b) := by rw [h]

/-- What the calls lean on: two tables of the library's, and a variable that holds some number. -/
structure Rd (w : World) : Prop where
  tz : Go.Proofs.TabAt 2 Lib.deBruijn64tab w
  ten : Lib.TabIs Tryd.prog w "internal/strconv.uint64pow10" IntKind.u64 Lib.pow10Tab
  most : ∃ m, w.cell? ⟨4, 0, none⟩ = some (.int .i64 m)
  size : 5 ≤ w.heap.size

theorem glob10 : Tryd.prog.globalNamed "internal/strconv.uint64pow10" = some 3 := by kernel_rfl

theorem Rd.below {w w' : World} (h : Rd w) (hb : Below w.heap.size w w') : Rd w' := by
  have hs := h.size
  refine ⟨?_, ?_, ?_, Nat.le_trans hs hb.size⟩
  · intro j hj
    rw [hb.cell (p := ⟨2, j, none⟩) (show 2 < w.heap.size by omega)]
    exact h.tz j hj
  · exact var?_below hb glob10 (by omega) h.ten
  · obtain ⟨m, hm⟩ := h.most
    exact ⟨m, by rw [hb.cell (p := ⟨4, 0, none⟩) (show 4 < w.heap.size by omega)]; exact hm⟩

theorem below_grow (w : World) (k : Nat) (os : Array Obj) : Below w.heap.size w (Go.Sort.grow (w.drewN k) os) :=
  ⟨rfl, rfl, rfl, by simp [Go.Sort.grow], fun j hj => by
    show (w.heap ++ os)[j]? = w.heap[j]?
    rw [Array.getElem?_append_left hj]⟩

theorem dec_len (n : Nat) (h : n < 3000) : (Lib.decDigits n).length ≤ 4 := by
  have h2 : ∀ a : Fin 60, ∀ b : Fin 50, (Lib.decDigits (50 * a.val + b.val)).length ≤ 4 := by decide +kernel
  have h3 := h2 ⟨n / 50, by omega⟩ ⟨n % 50, by omega⟩
  have e : 50 * (n / 50) + n % 50 = n := by omega
  simp only [e] at h3
  exact h3
theorem itoa_len (e : Int) (h1 : -2000 ≤ e) (h2 : e ≤ 2000) : (Lib.itoa e).length ≤ 5 := by
  unfold Lib.itoa
  split
  · have := dec_len e.natAbs (by omega)
    simp; omega
  · have := dec_len e.toNat (by omega)
    omega

/-- The exponent's text. -/
def powL (e : Int) : List UInt8 := if e < 0 then Lib.itoa e else 43 :: Lib.itoa e

set_option maxHeartbeats 400000 in
theorem printPower_any (e : Int) (w : World) (h1 : -2000 ≤ e) (h2 : e ≤ 2000) (hR : Rd w) :
    Calls Tryd.prog 92 #[.int .i64 e] w fun r w' => r = .returned (B (powL e)) ∧ Below w.heap.size w w' := by
  have HT : Hid (Rd w) := hR
  clear hR
  have hlen := itoa_len e h1 h2
  unfold powL B
  by_cases h : e < 0
  · rw [if_pos h]
    go_enter Tryd.func92, Tryd.ntmps92
    go_wp2_with fail
    refine (Tryd.strconv_Itoa e (by omega) (by omega) _ HT.out.ten).mono ?_
    rintro r w' ⟨rfl, k, os, rfl⟩
    go_wp2
    go_ret
    exact ⟨rfl, below_grow w k os⟩
  · rw [if_neg h]
    go_enter Tryd.func92, Tryd.ntmps92
    go_wp2_with fail
    refine (Tryd.strconv_Itoa e (by omega) (by omega) _ HT.out.ten).mono ?_
    rintro r w' ⟨rfl, k, os, rfl⟩
    go_wp2
    go_ret
    exact ⟨ret_str (bapp [43] (Lib.itoa e)), below_grow w k os⟩

/-- The digits behind the point. -/
def fracL (F : Nat) : List UInt8 := if Lib.trimRightB ((hex14 (4503599627370496 + F)).drop 1) 48 = [] then [] else 46 :: Lib.trimRightB ((hex14 (4503599627370496 + F)).drop 1) 48

theorem hex14_len (u : Nat) : (hex14 u).length = 14 := by simp [hex14]

theorem or_top (F : Nat) (hF : F < 4503599627370496) : bits .or .u64 4503599627370496 (F : Int) = ((4503599627370496 + F : Nat) : Int) := by
  have e := or64 4503599627370496 F 52 (by omega) (by decide) (by rw [show (2 : Nat) ^ 52 = 4503599627370496 from by decide]; exact hF) (by omega)
  exact e

theorem trim_len (l : List UInt8) (c : UInt8) : (Lib.trimRightB l c).length ≤ l.length := by
  unfold Lib.trimRightB
  rw [List.length_reverse]
  have := (List.dropWhile_sublist (p := (· == c)) (l := l.reverse)).length_le
  simpa using this

theorem cut1 (l : List UInt8) (h : l.length = 14) : (⟨l.toArray⟩ : ByteArray).extract 1 14 = ⟨(l.drop 1).toArray⟩ := by
  apply ByteArray.ext
  rw [ByteArray.data_extract]
  simp only [List.extract_toArray, ← h, List.extract_eq_take_drop]
  rw [List.take_of_length_le (by simp)]

set_option maxHeartbeats 400000 in
theorem printFraction_any (F : Nat) (hF : F < 4503599627370496) (w : World) (hR : Rd w) :
    Calls Tryd.prog 91 #[.int .u64 F] w fun r w' => r = .returned (B (fracL F)) ∧ Below w.heap.size w w' := by
  have hor := or_top F hF
  have HC : Hid (Calls Tryd.prog 115 #[.int .u64 (4503599627370496 + F : Nat), .int .i64 16] w fun e w' => e = .returned (.string ⟨(hex14 (4503599627370496 + F)).toArray⟩) ∧ Below w.heap.size w w') := formatUint16 _ (by omega) (by omega) w hR.tz (by have := hR.size; omega)
  clear hR hF
  generalize hu : 4503599627370496 + F = u at *
  have HU : Hid (4503599627370496 + F = u) := hu
  clear hu
  have hl := hex14_len u
  go_enter Tryd.func91, Tryd.ntmps91
  go_wp2_with fail
  refine HC.out.mono ?_
  rintro r w' ⟨rfl, hB⟩
  have HB : Hid (Below w.heap.size w w') := hB
  clear hB
  go_wp2_with fail
  rw [cut1 _ hl]
  refine (Tryd.strings_TrimRight_one ⟨((hex14 u).drop 1).toArray⟩ 48 (by decide) _ (by simp [ByteArray.size]; omega)).mono ?_
  rintro r w2 ⟨rfl, rfl⟩
  have htl := trim_len ((hex14 u).drop 1) 48
  rw [List.length_drop, hl] at htl
  have hfin : fracL F = if Lib.trimRightB ((hex14 u).drop 1) 48 = [] then [] else 46 :: Lib.trimRightB ((hex14 u).drop 1) 48 := by unfold fracL; rw [HU.out]
  have HFin : Hid (fracL F = if Lib.trimRightB ((hex14 u).drop 1) 48 = [] then [] else 46 :: Lib.trimRightB ((hex14 u).drop 1) 48) := hfin
  clear hfin hl
  generalize Lib.trimRightB ((hex14 u).drop 1) 48 = ds at *
  by_cases hd : ds = []
  · subst hd
    go_wp2
    go_ret
    exact ⟨by rw [HFin.out]; rfl, HB.out⟩
  · have hde : ds.isEmpty = false := by cases ds <;> simp_all
    go_wp2
    go_ret
    exact ⟨by rw [HFin.out, if_neg hd]; exact ret_str (bapp [46] ds), HB.out⟩

set_option maxHeartbeats 400000 in
theorem unpack_full (b : Int) (E F : Int) (w : World) (hb : b / 4503599627370496 = E) (h1 : 1 ≤ E) (h2 : E ≤ 2047) (hF : bits .and .u64 b 4503599627370495 = F) (h0 : (E != 0) = true) :
    Calls Tryd.prog 90 #[.int .u64 b] w fun r w' => r = .returned (.tuple #[.int .u64 F, .int .i64 (E - 1023)]) ∧ w' = w := by
  go_enter Tryd.func90, Tryd.ntmps90
  go_wp2
  go_ret2
  exact ⟨rfl, rfl⟩

set_option maxHeartbeats 400000 in
theorem unpack_low (b F : Int) (n : Nat) (w : World) (hb : b / 4503599627370496 = 0) (hF : bits .and .u64 b 4503599627370495 = F) (hn0 : 1 ≤ n) (hn : n ≤ 52)
    (hlen : ∀ w, Calls Tryd.prog 114 #[.int .u64 F] w fun e w' => e = .returned (.int .i64 n) ∧ w' = w) :
    Calls Tryd.prog 90 #[.int .u64 b] w fun r w' => r = .returned (.tuple #[.int .u64 (bits .and .u64 (IntKind.u64.wrap (F * 2 ^ (53 - (n : Int)).toNat)) 4503599627370495), .int .i64 (-1022 - (53 - (n : Int)))]) ∧ w' = w := by
  have HL : Hid (∀ w, Calls Tryd.prog 114 #[.int .u64 F] w fun e w' => e = .returned (.int .i64 n) ∧ w' = w) := hlen
  clear hlen
  go_enter Tryd.func90, Tryd.ntmps90
  go_wp2_with fail
  refine (HL.out _).mono ?_
  rintro r w' ⟨rfl, rfl⟩
  obtain ⟨sh, Hsh⟩ : ∃ sh : Int, Hid (53 - (n : Int) = sh) := ⟨_, rfl⟩
  have hsh := Hsh.out
  go_wp2
  go_ret2
  exact ⟨by rw [Hsh.out]; rfl, rfl⟩

/-- The fraction and the power that are told. -/
def frc (E F : Nat) : Nat := if E = 0 then F * 2 ^ (53 - Lib.bitLen F) % 4503599627370496 else F
def pwr (E F : Nat) : Int := if E = 0 then -1022 - (53 - (Lib.bitLen F : Int)) else (E : Int) - 1023

theorem bitLen_log (x : Nat) (h0 : x ≠ 0) (h : x < 18446744073709551616) : Lib.bitLen x = x.log2 + 1 := by
  have h1 := Lib.bitLen_shift x.log2 x (Nat.log2_self_le h0) h
  have h2 : x / 2 ^ x.log2 = 1 := by
    have a := Nat.log2_self_le h0
    have b := @Nat.lt_log2_self x
    rw [Nat.pow_succ] at b
    exact Nat.div_eq_of_lt_le (by omega) (by omega)
  rw [h2] at h1
  rw [h1]
  rfl

theorem and52 (x : Nat) (h : x < 18446744073709551616) : bits .and .u64 (x : Int) 4503599627370495 = ((x % 4503599627370496 : Nat) : Int) := by
  have e := u64_and_nat x 4503599627370495 h (by omega)
  have e2 : x &&& 4503599627370495 = x % 4503599627370496 := Nat.and_two_pow_sub_one_eq_mod _ 52
  rw [e2] at e
  exact e

theorem unpack_any (E F : Nat) (w : World) (hE : E ≤ 2046) (hF : F < 4503599627370496) (h0 : R E F ≠ 0) :
    Calls Tryd.prog 90 #[.int .u64 (R E F : Nat)] w fun r w' => r = .returned (.tuple #[.int .u64 (frc E F : Nat), .int .i64 (pwr E F)]) ∧ w' = w := by
  have hlt := R_lt E F hE hF
  have hand := and52 (R E F) (by omega)
  rw [R_mod E F hF] at hand
  have hdiv : ((R E F : Nat) : Int) / 4503599627370496 = (E : Int) := by
    have := R_div E F hF
    omega
  unfold frc pwr
  by_cases hz : E = 0
  · subst hz
    have hF0 : F ≠ 0 := by intro e; apply h0; subst e; rfl
    have hbl := bitLen_log F hF0 (by omega)
    have hlog := log51 F hF
    have r := unpack_low (R 0 F : Nat) F (Lib.bitLen F) w hdiv hand (by omega) (by omega) (fun w => by
      have := Tryd.bits_Len64 (F : Int) w (by omega) (by omega)
      exact this)
    rw [if_pos rfl, if_pos rfl]
    have hsh : (53 - ((Lib.bitLen F : Nat) : Int)).toNat = 53 - Lib.bitLen F := by omega
    rw [hsh] at r
    have hK : F * 2 ^ (53 - Lib.bitLen F) < 18446744073709551616 := by
      have h1 := Fl.log2_mul_pow F (53 - Lib.bitLen F) hF0
      have h2 := @Nat.lt_log2_self (F * 2 ^ (53 - Lib.bitLen F))
      rw [h1] at h2
      have h3 : F.log2 + (53 - Lib.bitLen F) + 1 ≤ 64 := by omega
      exact Nat.lt_of_lt_of_le h2 (Nat.le_trans (Nat.pow_le_pow_right (by omega) h3) (by decide))
    have hc : (F : Int) * 2 ^ (53 - Lib.bitLen F) = ((F * 2 ^ (53 - Lib.bitLen F) : Nat) : Int) := by
      rw [Int.natCast_mul, Int.natCast_pow]; rfl
    have hw : IntKind.u64.wrap ((F * 2 ^ (53 - Lib.bitLen F) : Nat) : Int) = ((F * 2 ^ (53 - Lib.bitLen F) : Nat) : Int) := by
      rw [IntKind.wrap_u64, Int.emod_eq_of_lt (by omega) (by omega)]
    rw [hc, hw, and52 _ hK] at r
    exact r
  · rw [if_neg hz, if_neg hz]
    exact unpack_full (R E F : Nat) E F w hdiv (by omega) (by omega) hand (by rw [bne_iff_ne]; omega)

theorem frc_lt (E F : Nat) (hF : F < 4503599627370496) : frc E F < 4503599627370496 := by
  unfold frc
  split
  · exact Nat.mod_lt _ (by omega)
  · exact hF
theorem pwr_bd (E F : Nat) (hE : E ≤ 2046) (hF : F < 4503599627370496) (h0 : R E F ≠ 0) : -1074 ≤ pwr E F ∧ pwr E F ≤ 1023 := by
  unfold pwr
  split
  · rename_i hz
    subst hz
    have hF0 : F ≠ 0 := by intro e; apply h0; subst e; rfl
    have hbl := bitLen_log F hF0 (by omega)
    have hlog := log51 F hF
    omega
  · omega

/-- The text of a number above 0. -/
def sizeL (E F : Nat) : List UInt8 := [48, 120, 49] ++ fracL (frc E F) ++ [112] ++ powL (pwr E F)

theorem fracL_len (F : Nat) : (fracL F).length ≤ 14 := by
  unfold fracL
  have h := trim_len ((hex14 (4503599627370496 + F)).drop 1) 48
  rw [List.length_drop, hex14_len] at h
  split
  · exact Nat.zero_le _
  · rw [List.length_cons]; omega
theorem powL_len (e : Int) (h1 : -2000 ≤ e) (h2 : e ≤ 2000) : (powL e).length ≤ 6 := by
  have := itoa_len e h1 h2
  unfold powL; split
  · omega
  · simp; omega

set_option maxHeartbeats 400000 in
theorem printSize_core (b F : Int) (e : Int) (fr pw : List UInt8) (w : World) (hb1 : (b == 9218868437227405312) = false) (hb2 : (b == 0) = false)
    (hun : ∀ w, Calls Tryd.prog 90 #[.int .u64 b] w fun r w' => r = .returned (.tuple #[.int .u64 F, .int .i64 e]) ∧ w' = w)
    (hfr : ∀ w, Rd w → Calls Tryd.prog 91 #[.int .u64 F] w fun r w' => r = .returned (B fr) ∧ Below w.heap.size w w')
    (hpw : ∀ w, Rd w → Calls Tryd.prog 92 #[.int .i64 e] w fun r w' => r = .returned (B pw) ∧ Below w.heap.size w w') (hl1 : fr.length ≤ 14) (hl2 : pw.length ≤ 6) (hR : Rd w) :
    Calls Tryd.prog 50 #[.int .u64 b] w fun r w' => r = .returned (B ([48, 120, 49] ++ fr ++ [112] ++ pw)) ∧ Below w.heap.size w w' := by
  have HU : Hid (∀ w, Calls Tryd.prog 90 #[.int .u64 b] w fun r w' => r = .returned (.tuple #[.int .u64 F, .int .i64 e]) ∧ w' = w) := hun
  have HF : Hid (∀ w, Rd w → Calls Tryd.prog 91 #[.int .u64 F] w fun r w' => r = .returned (B fr) ∧ Below w.heap.size w w') := hfr
  have HP : Hid (∀ w, Rd w → Calls Tryd.prog 92 #[.int .i64 e] w fun r w' => r = .returned (B pw) ∧ Below w.heap.size w w') := hpw
  have HR : Hid (Rd w) := hR
  clear hun hfr hpw hR
  unfold B at *
  go_enter Tryd.func50, Tryd.ntmps50
  go_wp2_with fail
  refine (HU.out _).mono ?_
  rintro r w' ⟨rfl, rfl⟩
  go_wp2_with fail
  refine (HF.out _ HR.out).mono ?_
  rintro r w1 ⟨rfl, hB1⟩
  have HB1 : Hid (Below w'.heap.size w' w1) := hB1
  clear hB1
  go_wp2_with fail
  refine (HP.out _ (HR.out.below HB1.out)).mono ?_
  rintro r w2 ⟨rfl, hB2⟩
  have HB2 : Hid (Below w1.heap.size w1 w2) := hB2
  clear hB2
  go_wp2
  go_ret
  refine ⟨ret_str ?_, HB1.out.trans (HB2.out.mono HB1.out.size)⟩
  rw [show (⟨#[48, 120, 49]⟩ : ByteArray) = ⟨[48, 120, 49].toArray⟩ from rfl, bapp, show (⟨#[112]⟩ : ByteArray) = ⟨[112].toArray⟩ from rfl, bapp, bapp]
  rfl

set_option maxHeartbeats 400000 in
theorem printSize_inf (w : World) : Calls Tryd.prog 50 #[.int .u64 9218868437227405312] w fun r w' => r = .returned (B [105, 110, 102]) ∧ w' = w := by
  go_enter Tryd.func50, Tryd.ntmps50
  go_wp2
  go_ret
  exact ⟨rfl, rfl⟩
set_option maxHeartbeats 400000 in
theorem printSize_zero (w : World) : Calls Tryd.prog 50 #[.int .u64 0] w fun r w' => r = .returned (B [48, 120, 48, 112, 43, 48]) ∧ w' = w := by
  go_enter Tryd.func50, Tryd.ntmps50
  go_wp2
  go_ret
  exact ⟨rfl, rfl⟩

/-- The text of a number that is not below 0. -/
def sizeT (r : Nat) : List UInt8 := if r = 9218868437227405312 then [105, 110, 102] else if r = 0 then [48, 120, 48, 112, 43, 48] else sizeL (r / 4503599627370496) (r % 4503599627370496)

theorem sizeL_len (E F : Nat) (hE : E ≤ 2046) (hF : F < 4503599627370496) (h0 : R E F ≠ 0) : (sizeL E F).length ≤ 24 := by
  have h1 := fracL_len (frc E F)
  have hp := pwr_bd E F hE hF h0
  have h2 := powL_len (pwr E F) (by omega) (by omega)
  unfold sizeL
  simp only [List.length_append, List.length_cons, List.length_nil]
  omega

theorem R_split (r : Nat) : r = R (r / 4503599627370496) (r % 4503599627370496) := by unfold R; omega

theorem sizeT_len (r : Nat) (h : r ≤ 9218868437227405312) : (sizeT r).length ≤ 24 := by
  unfold sizeT
  split
  · decide
  · split
    · decide
    · rename_i h1 h2
      exact sizeL_len _ _ (by omega) (by omega) (by rw [← R_split]; exact h2)

theorem printSize_any (r : Nat) (w : World) (h : r ≤ 9218868437227405312) (hR : Rd w) :
    Calls Tryd.prog 50 #[.int .u64 r] w fun e w' => e = .returned (B (sizeT r)) ∧ Below w.heap.size w w' := by
  unfold sizeT
  by_cases h1 : r = 9218868437227405312
  · subst h1
    exact (printSize_inf w).mono fun e w' ⟨a, b⟩ => ⟨a, b ▸ Below.refl _ _⟩
  · rw [if_neg h1]
    by_cases h2 : r = 0
    · subst h2
      exact (printSize_zero w).mono fun e w' ⟨a, b⟩ => ⟨a, b ▸ Below.refl _ _⟩
    · rw [if_neg h2]
      have hE : r / 4503599627370496 ≤ 2046 := by omega
      have hF : r % 4503599627370496 < 4503599627370496 := by omega
      have hr := R_split r
      generalize r / 4503599627370496 = E at *
      generalize r % 4503599627370496 = F at *
      subst hr
      have hp := pwr_bd E F hE hF h2
      exact printSize_core _ _ _ _ _ w (by rw [beq_eq_false_iff_ne]; intro e; exact h1 (Int.natCast_inj.1 e)) (by rw [beq_eq_false_iff_ne]; intro e; exact h2 (Int.natCast_inj.1 e)) (fun w => unpack_any E F w hE hF h2) (fun w hR => printFraction_any _ (frc_lt E F hF) w hR) (fun w hR => printPower_any _ w (by omega) (by omega) hR) (fracL_len _) (powL_len _ (by omega) (by omega)) hR

/-- The text of a number of 64 bits. -/
def textL (x : Nat) : List UInt8 := if nan64 x then [110, 97, 110] else (if 9223372036854775808 ≤ x then [45] else []) ++ sizeT (x % 9223372036854775808)

set_option maxHeartbeats 400000 in
theorem print64_nan (x : Nat) (w : World) (hc : ∀ w, Calls Tryd.prog 18 #[.float .f64 x] w fun e w' => e = .returned (.int .u64 9221120237041090560) ∧ w' = w) :
    Calls Tryd.prog 30 #[.float .f64 x] w fun e w' => e = .returned (B [110, 97, 110]) ∧ w' = w := by
  have HC : Hid (∀ w, Calls Tryd.prog 18 #[.float .f64 x] w fun e w' => e = .returned (.int .u64 9221120237041090560) ∧ w' = w) := hc
  clear hc
  go_enter Tryd.func30, Tryd.ntmps30
  go_wp2_with (go_at_call 18; refine (HC.out _).mono ?_; rintro e w' ⟨rfl, rfl⟩)
  go_ret
  exact ⟨rfl, rfl⟩

set_option maxHeartbeats 400000 in
theorem print64_core (x : Nat) (b : Int) (neg : Bool) (r : Int) (t : List UInt8) (w : World) (hc : ∀ w, Calls Tryd.prog 18 #[.float .f64 x] w fun e w' => e = .returned (.int .u64 b) ∧ w' = w)
    (hb : (b == 9221120237041090560) = false) (hs : (bits .and .u64 b 9223372036854775808 != 0) = neg) (hr : (if neg then bits .andNot .u64 b 9223372036854775808 else b) = r)
    (hp : Calls Tryd.prog 50 #[.int .u64 r] w fun e w' => e = .returned (B t) ∧ Below w.heap.size w w') (hl : t.length ≤ 24) :
    Calls Tryd.prog 30 #[.float .f64 x] w fun e w' => e = .returned (B ((if neg then [45] else []) ++ t)) ∧ Below w.heap.size w w' := by
  have HC : Hid (∀ w, Calls Tryd.prog 18 #[.float .f64 x] w fun e w' => e = .returned (.int .u64 b) ∧ w' = w) := hc
  have HP : Hid (Calls Tryd.prog 50 #[.int .u64 r] w fun e w' => e = .returned (B t) ∧ Below w.heap.size w w') := hp
  have HR : Hid ((if neg then bits .andNot .u64 b 9223372036854775808 else b) = r) := hr
  clear hc hp hr
  unfold B at *
  cases neg
  · go_enter Tryd.func30, Tryd.ntmps30
    go_wp2_with (go_at_call 18; refine (HC.out _).mono ?_; rintro e w' ⟨rfl, rfl⟩)
    have e := HR.out
    simp only [Bool.false_eq_true, if_false] at e
    rw [e]
    refine HP.out.mono ?_
    rintro e w2 ⟨rfl, hB⟩
    have HB : Hid (Below w'.heap.size w' w2) := hB
    clear hB
    go_wp2
    go_ret
    exact ⟨rfl, HB.out⟩
  · go_enter Tryd.func30, Tryd.ntmps30
    go_wp2_with (go_at_call 18; refine (HC.out _).mono ?_; rintro e w' ⟨rfl, rfl⟩)
    have e := HR.out
    simp only [if_true] at e
    rw [e]
    refine HP.out.mono ?_
    rintro e w2 ⟨rfl, hB⟩
    have HB : Hid (Below w'.heap.size w' w2) := hB
    clear hB
    go_wp2
    go_ret
    exact ⟨ret_str (bapp [45] t), HB.out⟩

theorem andTop (x : Nat) (h : x < 18446744073709551616) : (bits .and .u64 (x : Int) 9223372036854775808 != 0) = decide (9223372036854775808 ≤ x) := by
  have e := u64_and_nat x 9223372036854775808 h (by omega)
  have e2 : x &&& 9223372036854775808 = x / 2 ^ 63 % 2 * 2 ^ 63 := nat_bit 63 x
  rw [e2] at e
  have e3 : (2 : Nat) ^ 63 = 9223372036854775808 := by decide
  rw [e3] at e
  have e4 : bits .and .u64 (x : Int) 9223372036854775808 = ((x / 9223372036854775808 % 2 * 9223372036854775808 : Nat) : Int) := e
  rw [e4, Bool.eq_iff_iff, bne_iff_ne, decide_eq_true_eq]
  omega

/-- Print64, at every number. -/
theorem print64_any (x : Nat) (w : World) (h : x < 18446744073709551616) (hR : Rd w) :
    Calls Tryd.prog 30 #[.float .f64 x] w fun e w' => e = .returned (B (textL x)) ∧ Below w.heap.size w w' := by
  unfold textL
  cases hx : nan64 x with
  | true =>
    simp only [if_true]
    exact (print64_nan x w (fun w => by have := rbits64 x w h; rw [c64_nan x hx] at this; exact this)).mono fun e w' ⟨a, b⟩ => ⟨a, b ▸ Below.refl _ _⟩
  | false =>
    simp only [Bool.false_eq_true, if_false]
    have hle : x % 9223372036854775808 ≤ 9218868437227405312 := by
      unfold nan64 at hx; rw [decide_eq_false_iff_not] at hx; omega
    have hne : x ≠ 9221120237041090560 := by intro e; subst e; exact absurd hx (by decide)
    have hc : ∀ w, Calls Tryd.prog 18 #[.float .f64 x] w fun e w' => e = .returned (.int .u64 x) ∧ w' = w := fun w => by
      have := rbits64 x w h; rw [c64_num x hx] at this; exact this
    have hr : (if decide (9223372036854775808 ≤ x) = true then bits .andNot .u64 (x : Int) 9223372036854775808 else (x : Int)) = ((x % 9223372036854775808 : Nat) : Int) := by
      by_cases hb : 9223372036854775808 ≤ x
      · rw [if_pos (by simpa using hb), andNot64 x h]
      · rw [if_neg (by simpa using hb)]; omega
    have r := print64_core x x (decide (9223372036854775808 ≤ x)) _ _ w hc (by rw [beq_eq_false_iff_ne]; intro e; exact hne (Int.natCast_inj.1 e)) (andTop x h) hr (printSize_any _ w hle hR) (sizeT_len _ hle)
    by_cases hb : 9223372036854775808 ≤ x
    · rw [if_pos hb]; rw [if_pos (by simpa using hb)] at r; exact r
    · rw [if_neg hb]; rw [if_neg (by simpa using hb)] at r; exact r

/-- The wide number's bits of a narrow one's. -/
def wid (x : Nat) : Nat := if nan32 x then 9221120237041090560 else (floatToFloatBits .f32 x .f64).getD 0

theorem wid_num (neg : Bool) (r : Nat) (h : r ≤ 2139095040) : ∃ r', floatToFloatBits .f32 (Ieee.single.word neg r) .f64 = some (Ieee.double.word neg r') ∧ r' ≤ 9218868437227405312 := by
  by_cases hi : r = 2139095040
  · subst hi; exact ⟨_, widen_inf neg, Nat.le_refl _⟩
  · have hlt : r < 2139095040 := by omega
    have hw := widen_ok neg r hlt
    have hp := place32 r hlt
    have hm : Fl.magOf Ieee.single r < 16777216 := Nat.lt_of_lt_of_eq (Fl.magOf_lt Ieee.single r) (by decide)
    by_cases h0 : Fl.magOf Ieee.single r = 0
    · rw [h0, Fl.nearest_zero] at hw
      exact ⟨0, hw, by omega⟩
    · obtain ⟨E, F, e, _, h2, h3, _, _⟩ := widen_form neg _ _ h0 hm hp.1 hp.2
      rw [e] at hw
      exact ⟨R E F, hw, Nat.le_of_lt (R_lt E F h2 h3)⟩

theorem wid_conv (x : Nat) (h : x < 4294967296) (hx : nan32 x = false) : floatToFloatBits .f32 x .f64 = some (wid x) ∧ wid x < 18446744073709551616 ∧ nan64 (wid x) = false := by
  obtain ⟨neg, r, hr, rfl, h2⟩ := split32 x h
  have h3 := h2
  rw [hx] at h3
  have hle : r ≤ 2139095040 := by simpa using h3.symm
  obtain ⟨r', hw, hr'⟩ := wid_num neg r hle
  have e : wid (Ieee.single.word neg r) = Ieee.double.word neg r' := by unfold wid; rw [hx, hw]; rfl
  rw [e, hw]
  exact ⟨rfl, word64_lt neg r' hr'⟩

set_option maxHeartbeats 400000 in
theorem print32_core (x y : Nat) (t : List UInt8) (w w1 : World) (hB : Below w.heap.size w w1) (hc : (convert 25 23 (.float .f32 x)).run Tryd.prog w = .ok (.float .f64 y) w1)
    (hp : Calls Tryd.prog 30 #[.float .f64 y] w1 fun e w' => e = .returned (B t) ∧ Below w1.heap.size w1 w') :
    Calls Tryd.prog 31 #[.float .f32 x] w fun e w' => e = .returned (B t) ∧ Below w.heap.size w w' := by
  have HP : Hid (Calls Tryd.prog 30 #[.float .f64 y] w1 fun e w' => e = .returned (B t) ∧ Below w1.heap.size w1 w') := hp
  have HB : Hid (Below w.heap.size w w1) := hB
  clear hp hB
  go_enter Tryd.func31, Tryd.ntmps31
  go_wp2_with fail
  refine HP.out.mono ?_
  rintro e w' ⟨rfl, hB2⟩
  have HB2 : Hid (Below w1.heap.size w1 w') := hB2
  clear hB2
  go_wp2
  go_ret
  exact ⟨rfl, HB.out.trans (HB2.out.mono HB.out.size)⟩

theorem textL_nan (y : Nat) (h : nan64 y = true) : textL y = [110, 97, 110] := by unfold textL; rw [h]; rfl

/-- Print32, at every number. -/
theorem print32_any (x : Nat) (w : World) (h : x < 4294967296) (hR : Rd w) :
    Calls Tryd.prog 31 #[.float .f32 x] w fun e w' => e = .returned (B (textL (wid x))) ∧ Below w.heap.size w w' := by
  have hus : (Tryd.prog.underlying 25).isSome = true := by kernel_rfl
  cases hx : nan32 x with
  | true =>
    obtain ⟨neg, fr, hd⟩ := read_nan32 x h hx
    have hc := run_conv_nan Tryd.prog w 25 23 .f32 .f64 x hus Tryd.underlying23 (by decide) neg fr hd
    have hb : Below w.heap.size w w.drew := (Below.refl _ _).drew
    have hv := nanConv64 x w
    have e : textL (wid x) = textL (nanConvOf .f64 x w) := by
      rw [textL_nan _ hv.1, textL_nan]
      unfold wid; rw [hx, if_pos rfl]; decide
    rw [e]
    exact print32_core x _ _ w _ hb hc (print64_any _ _ hv.2 (hR.below hb))
  | false =>
    obtain ⟨h1, h2, h3⟩ := wid_conv x h hx
    exact print32_core x _ _ w _ (Below.refl _ _) (run_convert_float_float w 25 23 .f32 .f64 _ _ hus Tryd.underlying23 h1) (print64_any _ w h2 hR)

end Go.Proofs.YthnnmgiihpdblaaDoor
