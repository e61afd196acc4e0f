/- The program's readings of a text: 64 bits, padding, a text. The program's readings of a text: a text. -/
import Derived.Test.YtihcdahmfdijoaaGreatDoorHr1
namespace Go.Proofs.YtihcdahmfdijoaaGreatDoor
open Go.RowKit
theorem Bs_extract (l : List UInt8) (i j : Nat) : (⟨l.toArray⟩ : ByteArray).extract i j = ⟨((l.drop i).take (j - i)).toArray⟩ := by
  apply ByteArray.ext; simp
theorem Bs_from (l : List UInt8) (i : Nat) : (⟨l.toArray⟩ : ByteArray).extract i l.length = ⟨(l.drop i).toArray⟩ := by
  rw [Bs_extract, List.take_of_length_le (by simp)]

theorem frontHyper_short (l : List UInt8) (w : World) (h : l.length < 8) : Calls Tryz.prog 70 #[Bs l] w fun e w' => e = .returned (.tuple #[.int .u64 0, trW 20]) ∧ w' = w := by
  have h' : (l.length : Int) < 8 := by omega
  unfold Bs
  go_enter Tryz.func70, Tryz.ntmps70
  go_wp2
  go_ret2
  exact ⟨rfl, rfl⟩

theorem take_eight (l : List UInt8) (h : 8 ≤ l.length) : beN (l.take 8) = beN (l.take 4) * 4294967296 + beN ((l.drop 4).take 4) := by
  match l, h with
  | a :: b :: c :: d :: e :: f :: g :: h :: r, _ => simp [beN]; omega

theorem hyper_bits (a b : Nat) (ha : a < 4294967296) (hb : b < 4294967296) : bits .or .u64 ((a : Int) * 4294967296) (b : Int) = ((a * 4294967296 + b : Nat) : Int) := by
  have p32 : (2 : Nat) ^ 32 = 4294967296 := by decide
  rw [show (a : Int) * 4294967296 = ((a * 4294967296 : Nat) : Int) by omega, u64_or_nat _ _ (by omega) (by omega), nat_join 32 _ _ (by rw [p32]; omega) (by rw [p32]; omega)]

set_option maxRecDepth 4000 in
theorem frontHyper_ok (l : List UInt8) (w : World) (h : 8 ≤ l.length) : Calls Tryz.prog 70 #[Bs l] w fun e w' => e = .returned (.tuple #[.int .u64 (beN (l.take 8)), .nilIface]) ∧ Below w.heap.size w w' := by
  have h' : ¬ (l.length : Int) < 8 := by omega
  have i4 : (4 : Int) ≤ l.length := by omega
  have H1 : Hid (∀ w, Calls Tryz.prog 61 #[.string ⟨l.toArray⟩] w fun e w' => e = .returned (.tuple #[.int .u32 (beN (l.take 4)), .nilIface]) ∧ Below w.heap.size w w') := fun w => frontWord_ok l w (by omega)
  have H2 : Hid (∀ w, Calls Tryz.prog 61 #[.string ((⟨l.toArray⟩ : ByteArray).extract 4 l.length)] w fun e w' => e = .returned (.tuple #[.int .u32 (beN ((l.drop 4).take 4)), .nilIface]) ∧ Below w.heap.size w w') := fun w => by
    rw [Bs_from]; exact frontWord_ok (l.drop 4) w (by rw [List.length_drop]; omega)
  have ha : beN (l.take 4) < 4294967296 := by simpa using beN_lt 4 (l.take 4) (by rw [List.length_take]; omega)
  have hb : beN ((l.drop 4).take 4) < 4294967296 := by simpa using beN_lt 4 ((l.drop 4).take 4) (by rw [List.length_take, List.length_drop]; omega)
  rw [take_eight l h]
  have hbits := hyper_bits _ _ ha hb
  generalize beN (l.take 4) = x at *
  generalize beN ((l.drop 4).take 4) = y at *
  have hx0 : 0 ≤ (x : Int) := by omega
  have hx1 : (x : Int) < 4294967296 := by omega
  have hy0 : 0 ≤ (y : Int) := by omega
  have hy1 : (y : Int) < 4294967296 := by omega
  have HBT : Hid (bits .or .u64 ((x : Int) * 4294967296) (y : Int) = ((x * 4294967296 + y : Nat) : Int)) := hbits
  clear hbits
  unfold Bs
  go_enter Tryz.func70, Tryz.ntmps70
  go_wp2_with fail
  refine (H1.out _).mono ?_
  rintro e w1 ⟨rfl, hB⟩
  have HB : Hid (Below w.heap.size w w1) := hB
  clear hB
  go_wp2_with fail
  refine (H2.out _).mono ?_
  rintro e w2 ⟨rfl, hB⟩
  have HB2 : Hid (Below w.heap.size w w2) := HB.out.trans (hB.mono HB.out.size)
  clear hB
  go_wp2
  go_ret2
  exact ⟨by rw [← HBT.out]; rfl, HB2.out⟩

theorem frontHyper_any (l : List UInt8) (w : World) : Calls Tryz.prog 70 #[Bs l] w fun e w' => e = .returned (.tuple #[.int .u64 (rdHyper l).val, trW (rdHyper l).wrong]) ∧ Below w.heap.size w w' := by
  unfold rdHyper
  by_cases h : l.length < 8
  · rw [if_pos h]
    refine (frontHyper_short l w h).mono ?_
    rintro e w' ⟨rfl, rfl⟩
    exact ⟨rfl, Below.refl _ _⟩
  · rw [if_neg h]
    exact frontHyper_ok l w (by omega)

theorem i64_mask_rd (n : Int) (k : Nat) (hk : k < 63) : bits .and .i64 n ((2 ^ k - 1 : Nat) : Int) = n % ((2 ^ k : Nat) : Int) := by
  have hp : 2 ^ k ≤ 2 ^ 62 := Nat.pow_le_pow_right (by omega) (by omega)
  have e62 : (2 : Nat) ^ 62 = 4611686018427387904 := by decide
  have hpos := Nat.two_pow_pos k
  have hm0 := Int.emod_nonneg n (show ((2 ^ k : Nat) : Int) ≠ 0 by omega)
  have hm1 := Int.emod_lt_of_pos n (show (0 : Int) < ((2 ^ k : Nat) : Int) by omega)
  unfold bits
  have e : (BitVec.ofInt IntKind.i64.bits n &&& BitVec.ofInt IntKind.i64.bits ((2 ^ k - 1 : Nat) : Int)).toNat = (n % ((2 ^ k : Nat) : Int)).toNat := by
    rw [BitVec.toNat_and]
    show (BitVec.ofInt 64 n).toNat &&& (BitVec.ofInt 64 ((2 ^ k - 1 : Nat) : Int)).toNat = _
    rw [BitVec.toNat_ofInt, BitVec.toNat_ofInt]
    have h1 : (((2 ^ k - 1 : Nat) : Int) % ((2 ^ 64 : Nat) : Int)).toNat = 2 ^ k - 1 := by
      rw [Int.emod_eq_of_lt (by omega) (by rw [show (2 : Nat) ^ 64 = 18446744073709551616 from by decide]; omega)]; omega
    rw [h1, Nat.and_two_pow_sub_one_eq_mod]
    have h2 : ((n % ((2 ^ 64 : Nat) : Int)).toNat : Int) = n % ((2 ^ 64 : Nat) : Int) := Int.toNat_of_nonneg (Int.emod_nonneg _ (by decide))
    have h3 : (2 ^ k : Nat) ∣ 2 ^ 64 := Nat.pow_dvd_pow 2 (by omega)
    have h4 : n % ((2 ^ 64 : Nat) : Int) % ((2 ^ k : Nat) : Int) = n % ((2 ^ k : Nat) : Int) := Int.emod_emod_of_dvd n (Int.natCast_dvd_natCast.2 h3)
    have h5 : (((n % ((2 ^ 64 : Nat) : Int)).toNat % 2 ^ k : Nat) : Int) = n % ((2 ^ k : Nat) : Int) := by
      rw [Int.natCast_emod, h2, h4]
    omega
  show IntKind.i64.wrap (((BitVec.ofInt IntKind.i64.bits n &&& BitVec.ofInt IntKind.i64.bits ((2 ^ k - 1 : Nat) : Int)).toNat : Nat) : Int) = _
  rw [e, Int.toNat_of_nonneg hm0, IntKind.wrap_i64]
  rw [e62] at hp
  have hlt : n % ((2 ^ k : Nat) : Int) < 4611686018427387904 := by omega
  generalize n % ((2 ^ k : Nat) : Int) = z at *
  omega


theorem i64_and3_rd (n : Int) : bits .and .i64 n 3 = n % 4 := i64_mask_rd n 2 (by omega)
theorem noughts3_rd (k : Nat) (h : k ≤ 3) : (⟨#[0, 0, 0]⟩ : ByteArray).extract 0 k = ⟨(List.replicate k (0 : UInt8)).toArray⟩ := by
  have : ∀ k : Fin 4, (⟨#[0, 0, 0]⟩ : ByteArray).extract 0 k.val = ⟨(List.replicate k.val (0 : UInt8)).toArray⟩ := by decide
  exact this ⟨k, by omega⟩
theorem padding_rd_core (n z : Int) (w : World) (h0 : -9223372036854775807 ≤ n) (h1 : n ≤ 9223372036854775807) (hz : bits .and .i64 (-n) 3 = z) (hz0 : 0 ≤ z) (hz1 : z ≤ 3) :
    Calls Tryz.prog 65 #[.int .i64 n] w fun e w' => e = .returned (.string ((⟨#[0, 0, 0]⟩ : ByteArray).extract 0 z.toNat)) ∧ w' = w := by
  go_enter Tryz.func65, Tryz.ntmps65
  go_wp2
  go_ret
  exact ⟨rfl, rfl⟩
theorem padding_rd (n : Nat) (w : World) (h : (n : Int) ≤ 9223372036854775807) : Calls Tryz.prog 65 #[.int .i64 n] w fun e w' => e = .returned (Bs (padB n)) ∧ w' = w := by
  have hz : bits .and .i64 (-(n : Int)) 3 = ((pads n : Nat) : Int) := by
    rw [i64_and3_rd]; unfold pads; omega
  have hp : pads n ≤ 3 := by unfold pads; omega
  have r := padding_rd_core (n : Int) _ w (by omega) h hz (by omega) (by omega)
  rw [Int.toNat_natCast, noughts3_rd _ hp] at r
  exact r

end Go.Proofs.YtihcdahmfdijoaaGreatDoor
namespace Go.Proofs.YtihcdahmfdijoaaGreatDoor
open Go.RowKit
theorem frontText_range (n : Int) (l : List UInt8) (w : World) (h : n < 0 ∨ 4294967295 < n) : Calls Tryz.prog 64 #[Bs l, .int .i64 n] w fun e w' => e = .returned (.tuple #[Bs [], trW 22]) ∧ Below w.heap.size w w' := by
  have H1 : Hid (∀ w, Calls Tryz.prog 75 #[.int .i64 n] w fun e w' => e = .returned (.bool false) ∧ w' = w) := fun w => by
    have := isWord_rd n w
    rwa [show (decide (0 ≤ n) && decide (n ≤ 4294967295)) = false by rcases h with h | h <;> simp <;> omega] at this
  clear h
  unfold Bs
  go_enter Tryz.func64, Tryz.ntmps64
  go_wp2_with fail
  refine (H1.out _).mono ?_
  rintro e w1 ⟨rfl, hw⟩
  have hw1 := hw.symm
  clear hw
  subst hw1
  go_wp2
  go_ret2
  exact ⟨rfl, Below.refl _ _⟩

set_option maxRecDepth 4000 in
theorem frontText_short (n : Nat) (l : List UInt8) (w : World) (h : (n : Int) ≤ 4294967295) (hl : l.length < n + pads n) : Calls Tryz.prog 64 #[Bs l, .int .i64 n] w fun e w' => e = .returned (.tuple #[Bs [], trW 20]) ∧ Below w.heap.size w w' := by
  have H1 : Hid (∀ w, Calls Tryz.prog 75 #[.int .i64 n] w fun e w' => e = .returned (.bool true) ∧ w' = w) := fun w => by
    have := isWord_rd n w
    rwa [decide_eq_true (by omega), decide_eq_true h] at this
  have H2 : Hid (∀ w, Calls Tryz.prog 65 #[.int .i64 n] w fun e w' => e = .returned (.string ⟨(padB n).toArray⟩) ∧ w' = w) := fun w => padding_rd n w (by omega)
  have hp := padB_len n
  have hp3 : pads n ≤ 3 := by unfold pads; omega
  generalize padB n = P at *
  generalize pads n = z at *
  have hl' : (l.length : Int) < (n : Int) + (P.length : Int) := by omega
  have hP : (P.length : Int) ≤ 3 := by omega
  clear hl hp hp3
  unfold Bs
  go_enter Tryz.func64, Tryz.ntmps64
  go_wp2_with fail
  refine (H1.out _).mono ?_
  rintro e w1 ⟨rfl, hw⟩
  have hw1 := hw.symm
  clear hw
  subst hw1
  go_wp2_with fail
  refine (H2.out _).mono ?_
  rintro e w1 ⟨rfl, hw⟩
  have hw1 := hw.symm
  clear hw
  subst hw1
  go_wp2
  go_ret2
  exact ⟨rfl, Below.refl _ _⟩

theorem slice_rd (w : World) (s : ByteArray) (l h : Int) (h0 : 0 ≤ l) (h1 : l ≤ h) (h2 : h ≤ (s.size : Int)) :
    (Instr.slice 9 (.string s) (some (.int .i64 l)) (some (.int .i64 h)) none).run Tryz.prog w = .ok (.string (s.extract l.toNat h.toNat)) w := by
  have hu := Tryz.underlying9
  simp [go_sem, h0, h1, h2]

set_option maxRecDepth 4000 in
theorem frontText_full (n : Nat) (l : List UInt8) (w : World) (h : (n : Int) ≤ 4294967295) (hl : n + pads n ≤ l.length) (hpad : (l.drop n).take (pads n) = padB n) : Calls Tryz.prog 64 #[Bs l, .int .i64 n] w fun e w' => e = .returned (.tuple #[Bs (l.take n), trW 0]) ∧ Below w.heap.size w w' := by
  have H1 : Hid (∀ w, Calls Tryz.prog 75 #[.int .i64 n] w fun e w' => e = .returned (.bool true) ∧ w' = w) := fun w => by
    have := isWord_rd n w
    rwa [decide_eq_true (by omega), decide_eq_true h] at this
  have H2 : Hid (∀ w, Calls Tryz.prog 65 #[.int .i64 n] w fun e w' => e = .returned (.string ⟨(padB n).toArray⟩) ∧ w' = w) := fun w => padding_rd n w (by omega)
  have hp := padB_len n
  have hp3 : pads n ≤ 3 := by unfold pads; omega
  have hsl : ∀ w, (Instr.slice 9 (.string ⟨l.toArray⟩) (some (.int .i64 (n : Int))) (some (.int .i64 ((n : Int) + ((padB n).length : Int)))) none).run Tryz.prog w = .ok (.string ⟨(padB n).toArray⟩) w := fun w => by
    have e := slice_rd w (⟨l.toArray⟩ : ByteArray) (n : Int) ((n : Int) + ((padB n).length : Int)) (by omega) (by omega) (by rw [hp]; show (n : Int) + (pads n : Int) ≤ ((l.length : Nat) : Int); omega)
    rw [Bs_extract, show ((n : Int) + ((padB n).length : Int)).toNat = n + pads n by rw [hp]; omega, Int.toNat_natCast, show n + pads n - n = pads n by omega, hpad] at e
    exact e
  have HT : Hid ((⟨l.toArray⟩ : ByteArray).extract 0 n = ⟨(l.take n).toArray⟩) := by
    show (_ : ByteArray) = _
    rw [Bs_extract]; simp
  clear hpad
  rw [← hp] at hl
  generalize padB n = P at *
  generalize pads n = z at *
  have hl' : (n : Int) + (P.length : Int) ≤ (l.length : Int) := by omega
  have hl2 : decide ((l.length : Int) < (n : Int) + (P.length : Int)) = false := decide_eq_false (by omega)
  have hn' : (n : Int) ≤ (l.length : Int) := by omega
  have hP : (P.length : Int) ≤ 3 := by omega
  clear hl hp hp3
  unfold Bs
  go_enter Tryz.func64, Tryz.ntmps64
  go_wp2_with fail
  refine (H1.out _).mono ?_
  rintro e w1 ⟨rfl, hw⟩
  have hw1 := hw.symm
  clear hw
  subst hw1
  go_wp2_with fail
  refine (H2.out _).mono ?_
  rintro e w1 ⟨rfl, hw⟩
  have hw1 := hw.symm
  clear hw
  subst hw1
  go_wp2
  go_quiet ((go_at_call 65; exact Calls.quiet_of_same (H2.out _)))
  go_wp2
  go_ret2
  refine ⟨?_, below_drew (Below.refl _ _) _⟩
  rw [← HT.out]
  rfl

set_option maxRecDepth 4000 in
theorem frontText_pad (n : Nat) (l : List UInt8) (w : World) (h : (n : Int) ≤ 4294967295) (hl : n + pads n ≤ l.length) (hpad : (l.drop n).take (pads n) ≠ padB n) : Calls Tryz.prog 64 #[Bs l, .int .i64 n] w fun e w' => e = .returned (.tuple #[Bs [], trW 24]) ∧ Below w.heap.size w w' := by
  have H1 : Hid (∀ w, Calls Tryz.prog 75 #[.int .i64 n] w fun e w' => e = .returned (.bool true) ∧ w' = w) := fun w => by
    have := isWord_rd n w
    rwa [decide_eq_true (by omega), decide_eq_true h] at this
  have H2 : Hid (∀ w, Calls Tryz.prog 65 #[.int .i64 n] w fun e w' => e = .returned (.string ⟨(padB n).toArray⟩) ∧ w' = w) := fun w => padding_rd n w (by omega)
  have hp := padB_len n
  have hp3 : pads n ≤ 3 := by unfold pads; omega
  have hsl : ∀ w, (Instr.slice 9 (.string ⟨l.toArray⟩) (some (.int .i64 (n : Int))) (some (.int .i64 ((n : Int) + ((padB n).length : Int)))) none).run Tryz.prog w = .ok (.string ⟨((l.drop n).take (pads n)).toArray⟩) w := fun w => by
    have e := slice_rd w (⟨l.toArray⟩ : ByteArray) (n : Int) ((n : Int) + ((padB n).length : Int)) (by omega) (by omega) (by rw [hp]; show (n : Int) + (pads n : Int) ≤ ((l.length : Nat) : Int); omega)
    rw [Bs_extract, show ((n : Int) + ((padB n).length : Int)).toNat = n + pads n by rw [hp]; omega, Int.toNat_natCast, show n + pads n - n = pads n by omega] at e
    exact e
  rw [← hp] at hl
  generalize (l.drop n).take (pads n) = Q at *
  generalize padB n = P at *
  generalize pads n = z at *
  obtain ⟨X, hX⟩ : ∃ X, (⟨Q.toArray⟩ : ByteArray) = X := ⟨_, rfl⟩
  have hne2 : (X.toList == P) = false := by
    rw [← hX, ByteArray.toList_eq]
    exact beq_eq_false_iff_ne.2 (by simpa using hpad)
  rw [hX] at hsl
  clear hX hpad
  have hl' : (n : Int) + (P.length : Int) ≤ (l.length : Int) := by omega
  have hl2 : decide ((l.length : Int) < (n : Int) + (P.length : Int)) = false := decide_eq_false (by omega)
  have hn' : (n : Int) ≤ (l.length : Int) := by omega
  have hP : (P.length : Int) ≤ 3 := by omega
  clear hl hp hp3
  unfold Bs
  go_enter Tryz.func64, Tryz.ntmps64
  go_wp2_with fail
  refine (H1.out _).mono ?_
  rintro e w1 ⟨rfl, hw⟩
  have hw1 := hw.symm
  clear hw
  subst hw1
  go_wp2_with fail
  refine (H2.out _).mono ?_
  rintro e w1 ⟨rfl, hw⟩
  have hw1 := hw.symm
  clear hw
  subst hw1
  go_wp2
  go_quiet ((go_at_call 65; exact Calls.quiet_of_same (H2.out _)))
  go_wp2
  go_ret2
  exact ⟨rfl, below_drew (Below.refl _ _) _⟩

theorem frontText_any (n : Int) (l : List UInt8) (w : World) : Calls Tryz.prog 64 #[Bs l, .int .i64 n] w fun e w' => e = .returned (.tuple #[Bs (rdFixed n l).val, trW (rdFixed n l).wrong]) ∧ Below w.heap.size w w' := by
  unfold rdFixed
  by_cases hn : n < 0 ∨ 4294967295 < n
  · rw [if_pos hn]; exact frontText_range n l w hn
  · rw [if_neg hn]
    obtain ⟨m, rfl⟩ : ∃ m : Nat, n = m := ⟨n.toNat, by omega⟩
    rw [Int.toNat_natCast]
    unfold rdText
    by_cases hl : l.length < m + pads m
    · rw [if_pos hl]; exact frontText_short m l w (by omega) hl
    · rw [if_neg hl]
      by_cases hp : (l.drop m).take (pads m) ≠ padB m
      · rw [if_pos hp]; exact frontText_pad m l w (by omega) (by omega) hp
      · rw [if_neg hp]; exact frontText_full m l w (by omega) (by omega) (Decidable.not_not.1 hp)

end Go.Proofs.YtihcdahmfdijoaaGreatDoor
