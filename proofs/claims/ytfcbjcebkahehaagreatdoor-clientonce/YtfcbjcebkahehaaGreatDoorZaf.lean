/- The program's readings of a text: 64 bits, padding, a text. The program's readings of a text: a text. The program's Reader in memory: note, any, take. The program's Reader: its calls. -/
import Derived.Test.YtfcbjcebkahehaaGreatDoorZae
namespace Go.Proofs.YtfcbjcebkahehaaGreatDoor
open Go.RowKit
theorem Bs_extract (l : List UInt8) (i j : Nat) : (⟨l.toArray⟩ : ByteArray).extract i j = ⟨((l.drop i).take (j - i)).toArray⟩ := by
  apply ByteArray.ext; simp
theorem Bs_from (l : List UInt8) (i : Nat) : (⟨l.toArray⟩ : ByteArray).extract i l.length = ⟨(l.drop i).toArray⟩ := by
  rw [Bs_extract, List.take_of_length_le (by simp)]

theorem frontHyper_short (l : List UInt8) (w : World) (h : l.length < 8) : Calls Tryz.prog 197 #[Bs l] w fun e w' => e = .returned (.tuple #[.int .u64 0, trW 20]) ∧ w' = w := by
  have h' : (l.length : Int) < 8 := by omega
  unfold Bs
  go_enter Tryz.func197, Tryz.ntmps197
  go_wp2
  go_ret2
  exact ⟨rfl, rfl⟩

theorem take_eight (l : List UInt8) (h : 8 ≤ l.length) : beN (l.take 8) = beN (l.take 4) * 4294967296 + beN ((l.drop 4).take 4) := by
  match l, h with
  | a :: b :: c :: d :: e :: f :: g :: h :: r, _ => simp [beN]; omega

theorem hyper_bits (a b : Nat) (ha : a < 4294967296) (hb : b < 4294967296) : bits .or .u64 ((a : Int) * 4294967296) (b : Int) = ((a * 4294967296 + b : Nat) : Int) := by
  have p32 : (2 : Nat) ^ 32 = 4294967296 := by decide
  rw [show (a : Int) * 4294967296 = ((a * 4294967296 : Nat) : Int) by omega, u64_or_nat _ _ (by omega) (by omega), nat_join 32 _ _ (by rw [p32]; omega) (by rw [p32]; omega)]

set_option maxRecDepth 4000 in
theorem frontHyper_ok (l : List UInt8) (w : World) (h : 8 ≤ l.length) : Calls Tryz.prog 197 #[Bs l] w fun e w' => e = .returned (.tuple #[.int .u64 (beN (l.take 8)), .nilIface]) ∧ Below w.heap.size w w' := by
  have h' : ¬ (l.length : Int) < 8 := by omega
  have i4 : (4 : Int) ≤ l.length := by omega
  have H1 : Hid (∀ w, Calls Tryz.prog 158 #[.string ⟨l.toArray⟩] w fun e w' => e = .returned (.tuple #[.int .u32 (beN (l.take 4)), .nilIface]) ∧ Below w.heap.size w w') := fun w => frontWord_ok l w (by omega)
  have H2 : Hid (∀ w, Calls Tryz.prog 158 #[.string ((⟨l.toArray⟩ : ByteArray).extract 4 l.length)] w fun e w' => e = .returned (.tuple #[.int .u32 (beN ((l.drop 4).take 4)), .nilIface]) ∧ Below w.heap.size w w') := fun w => by
    rw [Bs_from]; exact frontWord_ok (l.drop 4) w (by rw [List.length_drop]; omega)
  have ha : beN (l.take 4) < 4294967296 := by simpa using beN_lt 4 (l.take 4) (by rw [List.length_take]; omega)
  have hb : beN ((l.drop 4).take 4) < 4294967296 := by simpa using beN_lt 4 ((l.drop 4).take 4) (by rw [List.length_take, List.length_drop]; omega)
  rw [take_eight l h]
  have hbits := hyper_bits _ _ ha hb
  generalize beN (l.take 4) = x at *
  generalize beN ((l.drop 4).take 4) = y at *
  have hx0 : 0 ≤ (x : Int) := by omega
  have hx1 : (x : Int) < 4294967296 := by omega
  have hy0 : 0 ≤ (y : Int) := by omega
  have hy1 : (y : Int) < 4294967296 := by omega
  have HBT : Hid (bits .or .u64 ((x : Int) * 4294967296) (y : Int) = ((x * 4294967296 + y : Nat) : Int)) := hbits
  clear hbits
  unfold Bs
  go_enter Tryz.func197, Tryz.ntmps197
  go_wp2_with fail
  refine (H1.out _).mono ?_
  rintro e w1 ⟨rfl, hB⟩
  have HB : Hid (Below w.heap.size w w1) := hB
  clear hB
  go_wp2_with fail
  refine (H2.out _).mono ?_
  rintro e w2 ⟨rfl, hB⟩
  have HB2 : Hid (Below w.heap.size w w2) := HB.out.trans (hB.mono HB.out.size)
  clear hB
  go_wp2
  go_ret2
  exact ⟨by rw [← HBT.out]; rfl, HB2.out⟩

theorem frontHyper_any (l : List UInt8) (w : World) : Calls Tryz.prog 197 #[Bs l] w fun e w' => e = .returned (.tuple #[.int .u64 (rdHyper l).val, trW (rdHyper l).wrong]) ∧ Below w.heap.size w w' := by
  unfold rdHyper
  by_cases h : l.length < 8
  · rw [if_pos h]
    refine (frontHyper_short l w h).mono ?_
    rintro e w' ⟨rfl, rfl⟩
    exact ⟨rfl, Below.refl _ _⟩
  · rw [if_neg h]
    exact frontHyper_ok l w (by omega)

theorem i64_mask_rd (n : Int) (k : Nat) (hk : k < 63) : bits .and .i64 n ((2 ^ k - 1 : Nat) : Int) = n % ((2 ^ k : Nat) : Int) := by
  have hp : 2 ^ k ≤ 2 ^ 62 := Nat.pow_le_pow_right (by omega) (by omega)
  have e62 : (2 : Nat) ^ 62 = 4611686018427387904 := by decide
  have hpos := Nat.two_pow_pos k
  have hm0 := Int.emod_nonneg n (show ((2 ^ k : Nat) : Int) ≠ 0 by omega)
  have hm1 := Int.emod_lt_of_pos n (show (0 : Int) < ((2 ^ k : Nat) : Int) by omega)
  unfold bits
  have e : (BitVec.ofInt IntKind.i64.bits n &&& BitVec.ofInt IntKind.i64.bits ((2 ^ k - 1 : Nat) : Int)).toNat = (n % ((2 ^ k : Nat) : Int)).toNat := by
    rw [BitVec.toNat_and]
    show (BitVec.ofInt 64 n).toNat &&& (BitVec.ofInt 64 ((2 ^ k - 1 : Nat) : Int)).toNat = _
    rw [BitVec.toNat_ofInt, BitVec.toNat_ofInt]
    have h1 : (((2 ^ k - 1 : Nat) : Int) % ((2 ^ 64 : Nat) : Int)).toNat = 2 ^ k - 1 := by
      rw [Int.emod_eq_of_lt (by omega) (by rw [show (2 : Nat) ^ 64 = 18446744073709551616 from by decide]; omega)]; omega
    rw [h1, Nat.and_two_pow_sub_one_eq_mod]
    have h2 : ((n % ((2 ^ 64 : Nat) : Int)).toNat : Int) = n % ((2 ^ 64 : Nat) : Int) := Int.toNat_of_nonneg (Int.emod_nonneg _ (by decide))
    have h3 : (2 ^ k : Nat) ∣ 2 ^ 64 := Nat.pow_dvd_pow 2 (by omega)
    have h4 : n % ((2 ^ 64 : Nat) : Int) % ((2 ^ k : Nat) : Int) = n % ((2 ^ k : Nat) : Int) := Int.emod_emod_of_dvd n (Int.natCast_dvd_natCast.2 h3)
    have h5 : (((n % ((2 ^ 64 : Nat) : Int)).toNat % 2 ^ k : Nat) : Int) = n % ((2 ^ k : Nat) : Int) := by
      rw [Int.natCast_emod, h2, h4]
    omega
  show IntKind.i64.wrap (((BitVec.ofInt IntKind.i64.bits n &&& BitVec.ofInt IntKind.i64.bits ((2 ^ k - 1 : Nat) : Int)).toNat : Nat) : Int) = _
  rw [e, Int.toNat_of_nonneg hm0, IntKind.wrap_i64]
  rw [e62] at hp
  have hlt : n % ((2 ^ k : Nat) : Int) < 4611686018427387904 := by omega
  generalize n % ((2 ^ k : Nat) : Int) = z at *
  omega


theorem i64_and3_rd (n : Int) : bits .and .i64 n 3 = n % 4 := i64_mask_rd n 2 (by omega)
theorem noughts3_rd (k : Nat) (h : k ≤ 3) : (⟨#[0, 0, 0]⟩ : ByteArray).extract 0 k = ⟨(List.replicate k (0 : UInt8)).toArray⟩ := by
  have : ∀ k : Fin 4, (⟨#[0, 0, 0]⟩ : ByteArray).extract 0 k.val = ⟨(List.replicate k.val (0 : UInt8)).toArray⟩ := by decide
  exact this ⟨k, by omega⟩
theorem padding_rd_core (n z : Int) (w : World) (h0 : -9223372036854775807 ≤ n) (h1 : n ≤ 9223372036854775807) (hz : bits .and .i64 (-n) 3 = z) (hz0 : 0 ≤ z) (hz1 : z ≤ 3) :
    Calls Tryz.prog 161 #[.int .i64 n] w fun e w' => e = .returned (.string ((⟨#[0, 0, 0]⟩ : ByteArray).extract 0 z.toNat)) ∧ w' = w := by
  go_enter Tryz.func161, Tryz.ntmps161
  go_wp2
  go_ret
  exact ⟨rfl, rfl⟩
theorem padding_rd (n : Nat) (w : World) (h : (n : Int) ≤ 9223372036854775807) : Calls Tryz.prog 161 #[.int .i64 n] w fun e w' => e = .returned (Bs (padB n)) ∧ w' = w := by
  have hz : bits .and .i64 (-(n : Int)) 3 = ((pads n : Nat) : Int) := by
    rw [i64_and3_rd]; unfold pads; omega
  have hp : pads n ≤ 3 := by unfold pads; omega
  have r := padding_rd_core (n : Int) _ w (by omega) h hz (by omega) (by omega)
  rw [Int.toNat_natCast, noughts3_rd _ hp] at r
  exact r

end Go.Proofs.YtfcbjcebkahehaaGreatDoor
namespace Go.Proofs.YtfcbjcebkahehaaGreatDoor
open Go.RowKit
theorem frontText_range (n : Int) (l : List UInt8) (w : World) (h : n < 0 ∨ 4294967295 < n) : Calls Tryz.prog 162 #[Bs l, .int .i64 n] w fun e w' => e = .returned (.tuple #[Bs [], trW 22]) ∧ Below w.heap.size w w' := by
  have H1 : Hid (∀ w, Calls Tryz.prog 155 #[.int .i64 n] w fun e w' => e = .returned (.bool false) ∧ w' = w) := fun w => by
    have := isWord_rd n w
    rwa [show (decide (0 ≤ n) && decide (n ≤ 4294967295)) = false by rcases h with h | h <;> simp <;> omega] at this
  clear h
  unfold Bs
  go_enter Tryz.func162, Tryz.ntmps162
  go_wp2_with fail
  refine (H1.out _).mono ?_
  rintro e w1 ⟨rfl, hw⟩
  have hw1 := hw.symm
  clear hw
  subst hw1
  go_wp2
  go_ret2
  exact ⟨rfl, Below.refl _ _⟩

set_option maxRecDepth 4000 in
theorem frontText_short (n : Nat) (l : List UInt8) (w : World) (h : (n : Int) ≤ 4294967295) (hl : l.length < n + pads n) : Calls Tryz.prog 162 #[Bs l, .int .i64 n] w fun e w' => e = .returned (.tuple #[Bs [], trW 20]) ∧ Below w.heap.size w w' := by
  have H1 : Hid (∀ w, Calls Tryz.prog 155 #[.int .i64 n] w fun e w' => e = .returned (.bool true) ∧ w' = w) := fun w => by
    have := isWord_rd n w
    rwa [decide_eq_true (by omega), decide_eq_true h] at this
  have H2 : Hid (∀ w, Calls Tryz.prog 161 #[.int .i64 n] w fun e w' => e = .returned (.string ⟨(padB n).toArray⟩) ∧ w' = w) := fun w => padding_rd n w (by omega)
  have hp := padB_len n
  have hp3 : pads n ≤ 3 := by unfold pads; omega
  generalize padB n = P at *
  generalize pads n = z at *
  have hl' : (l.length : Int) < (n : Int) + (P.length : Int) := by omega
  have hP : (P.length : Int) ≤ 3 := by omega
  clear hl hp hp3
  unfold Bs
  go_enter Tryz.func162, Tryz.ntmps162
  go_wp2_with fail
  refine (H1.out _).mono ?_
  rintro e w1 ⟨rfl, hw⟩
  have hw1 := hw.symm
  clear hw
  subst hw1
  go_wp2_with fail
  refine (H2.out _).mono ?_
  rintro e w1 ⟨rfl, hw⟩
  have hw1 := hw.symm
  clear hw
  subst hw1
  go_wp2
  go_ret2
  exact ⟨rfl, Below.refl _ _⟩

theorem slice_rd (w : World) (s : ByteArray) (l h : Int) (h0 : 0 ≤ l) (h1 : l ≤ h) (h2 : h ≤ (s.size : Int)) :
    (Instr.slice 9 (.string s) (some (.int .i64 l)) (some (.int .i64 h)) none).run Tryz.prog w = .ok (.string (s.extract l.toNat h.toNat)) w := by
  have hu := Tryz.underlying9
  simp [go_sem, h0, h1, h2]

set_option maxRecDepth 4000 in
theorem frontText_full (n : Nat) (l : List UInt8) (w : World) (h : (n : Int) ≤ 4294967295) (hl : n + pads n ≤ l.length) (hpad : (l.drop n).take (pads n) = padB n) : Calls Tryz.prog 162 #[Bs l, .int .i64 n] w fun e w' => e = .returned (.tuple #[Bs (l.take n), trW 0]) ∧ Below w.heap.size w w' := by
  have H1 : Hid (∀ w, Calls Tryz.prog 155 #[.int .i64 n] w fun e w' => e = .returned (.bool true) ∧ w' = w) := fun w => by
    have := isWord_rd n w
    rwa [decide_eq_true (by omega), decide_eq_true h] at this
  have H2 : Hid (∀ w, Calls Tryz.prog 161 #[.int .i64 n] w fun e w' => e = .returned (.string ⟨(padB n).toArray⟩) ∧ w' = w) := fun w => padding_rd n w (by omega)
  have hp := padB_len n
  have hp3 : pads n ≤ 3 := by unfold pads; omega
  have hsl : ∀ w, (Instr.slice 9 (.string ⟨l.toArray⟩) (some (.int .i64 (n : Int))) (some (.int .i64 ((n : Int) + ((padB n).length : Int)))) none).run Tryz.prog w = .ok (.string ⟨(padB n).toArray⟩) w := fun w => by
    have e := slice_rd w (⟨l.toArray⟩ : ByteArray) (n : Int) ((n : Int) + ((padB n).length : Int)) (by omega) (by omega) (by rw [hp]; show (n : Int) + (pads n : Int) ≤ ((l.length : Nat) : Int); omega)
    rw [Bs_extract, show ((n : Int) + ((padB n).length : Int)).toNat = n + pads n by rw [hp]; omega, Int.toNat_natCast, show n + pads n - n = pads n by omega, hpad] at e
    exact e
  have HT : Hid ((⟨l.toArray⟩ : ByteArray).extract 0 n = ⟨(l.take n).toArray⟩) := by
    show (_ : ByteArray) = _
    rw [Bs_extract]; simp
  clear hpad
  rw [← hp] at hl
  generalize padB n = P at *
  generalize pads n = z at *
  have hl' : (n : Int) + (P.length : Int) ≤ (l.length : Int) := by omega
  have hl2 : decide ((l.length : Int) < (n : Int) + (P.length : Int)) = false := decide_eq_false (by omega)
  have hn' : (n : Int) ≤ (l.length : Int) := by omega
  have hP : (P.length : Int) ≤ 3 := by omega
  clear hl hp hp3
  unfold Bs
  go_enter Tryz.func162, Tryz.ntmps162
  go_wp2_with fail
  refine (H1.out _).mono ?_
  rintro e w1 ⟨rfl, hw⟩
  have hw1 := hw.symm
  clear hw
  subst hw1
  go_wp2_with fail
  refine (H2.out _).mono ?_
  rintro e w1 ⟨rfl, hw⟩
  have hw1 := hw.symm
  clear hw
  subst hw1
  go_wp2
  go_quiet ((go_at_call 161; exact Calls.quiet_of_same (H2.out _)))
  go_wp2
  go_ret2
  refine ⟨?_, below_drew (Below.refl _ _) _⟩
  rw [← HT.out]
  rfl

set_option maxRecDepth 4000 in
theorem frontText_pad (n : Nat) (l : List UInt8) (w : World) (h : (n : Int) ≤ 4294967295) (hl : n + pads n ≤ l.length) (hpad : (l.drop n).take (pads n) ≠ padB n) : Calls Tryz.prog 162 #[Bs l, .int .i64 n] w fun e w' => e = .returned (.tuple #[Bs [], trW 24]) ∧ Below w.heap.size w w' := by
  have H1 : Hid (∀ w, Calls Tryz.prog 155 #[.int .i64 n] w fun e w' => e = .returned (.bool true) ∧ w' = w) := fun w => by
    have := isWord_rd n w
    rwa [decide_eq_true (by omega), decide_eq_true h] at this
  have H2 : Hid (∀ w, Calls Tryz.prog 161 #[.int .i64 n] w fun e w' => e = .returned (.string ⟨(padB n).toArray⟩) ∧ w' = w) := fun w => padding_rd n w (by omega)
  have hp := padB_len n
  have hp3 : pads n ≤ 3 := by unfold pads; omega
  have hsl : ∀ w, (Instr.slice 9 (.string ⟨l.toArray⟩) (some (.int .i64 (n : Int))) (some (.int .i64 ((n : Int) + ((padB n).length : Int)))) none).run Tryz.prog w = .ok (.string ⟨((l.drop n).take (pads n)).toArray⟩) w := fun w => by
    have e := slice_rd w (⟨l.toArray⟩ : ByteArray) (n : Int) ((n : Int) + ((padB n).length : Int)) (by omega) (by omega) (by rw [hp]; show (n : Int) + (pads n : Int) ≤ ((l.length : Nat) : Int); omega)
    rw [Bs_extract, show ((n : Int) + ((padB n).length : Int)).toNat = n + pads n by rw [hp]; omega, Int.toNat_natCast, show n + pads n - n = pads n by omega] at e
    exact e
  rw [← hp] at hl
  generalize (l.drop n).take (pads n) = Q at *
  generalize padB n = P at *
  generalize pads n = z at *
  obtain ⟨X, hX⟩ : ∃ X, (⟨Q.toArray⟩ : ByteArray) = X := ⟨_, rfl⟩
  have hne2 : (X.toList == P) = false := by
    rw [← hX, ByteArray.toList_eq]
    exact beq_eq_false_iff_ne.2 (by simpa using hpad)
  rw [hX] at hsl
  clear hX hpad
  have hl' : (n : Int) + (P.length : Int) ≤ (l.length : Int) := by omega
  have hl2 : decide ((l.length : Int) < (n : Int) + (P.length : Int)) = false := decide_eq_false (by omega)
  have hn' : (n : Int) ≤ (l.length : Int) := by omega
  have hP : (P.length : Int) ≤ 3 := by omega
  clear hl hp hp3
  unfold Bs
  go_enter Tryz.func162, Tryz.ntmps162
  go_wp2_with fail
  refine (H1.out _).mono ?_
  rintro e w1 ⟨rfl, hw⟩
  have hw1 := hw.symm
  clear hw
  subst hw1
  go_wp2_with fail
  refine (H2.out _).mono ?_
  rintro e w1 ⟨rfl, hw⟩
  have hw1 := hw.symm
  clear hw
  subst hw1
  go_wp2
  go_quiet ((go_at_call 161; exact Calls.quiet_of_same (H2.out _)))
  go_wp2
  go_ret2
  exact ⟨rfl, below_drew (Below.refl _ _) _⟩

theorem frontText_any (n : Int) (l : List UInt8) (w : World) : Calls Tryz.prog 162 #[Bs l, .int .i64 n] w fun e w' => e = .returned (.tuple #[Bs (rdFixed n l).val, trW (rdFixed n l).wrong]) ∧ Below w.heap.size w w' := by
  unfold rdFixed
  by_cases hn : n < 0 ∨ 4294967295 < n
  · rw [if_pos hn]; exact frontText_range n l w hn
  · rw [if_neg hn]
    obtain ⟨m, rfl⟩ : ∃ m : Nat, n = m := ⟨n.toNat, by omega⟩
    rw [Int.toNat_natCast]
    unfold rdText
    by_cases hl : l.length < m + pads m
    · rw [if_pos hl]; exact frontText_short m l w (by omega) hl
    · rw [if_neg hl]
      by_cases hp : (l.drop m).take (pads m) ≠ padB m
      · rw [if_pos hp]; exact frontText_pad m l w (by omega) (by omega) hp
      · rw [if_neg hp]; exact frontText_full m l w (by omega) (by omega) (Decidable.not_not.1 hp)

end Go.Proofs.YtfcbjcebkahehaaGreatDoor
namespace Go.Proofs.YtfcbjcebkahehaaGreatDoor
open Go.RowKit
theorem eql_iface_rd (v : Value) (w : World) : (binOp .eql 177 (.iface 244 v) .nilIface).run Tryz.prog w = .ok (.bool false) w := by kernel_rfl
theorem neq_iface_rd (v : Value) (w : World) : (binOp .neq 177 (.iface 244 v) .nilIface).run Tryz.prog w = .ok (.bool true) w := by kernel_rfl

theorem faultOf_zero_rd (w : World) : Calls Tryz.prog 154 #[.int .i64 0] w fun e w' => e = .returned (trW 0) ∧ w' = w := by
  go_enter Tryz.func154, Tryz.ntmps154
  go_wp2
  go_ret
  exact ⟨rfl, rfl⟩
theorem faultOf_other_rd (e : Int) (w : World) (h : e ≠ 0) : Calls Tryz.prog 154 #[.int .i64 e] w fun r w' => r = .returned (trW e) ∧ w' = w := by
  have hb : (e == 0) = false := beq_eq_false_iff_ne.2 h
  have hT : Hid (trW e = .iface 244 (.agg #[.int .i64 e])) := by show trW e = _; unfold trW; rw [if_neg h]
  clear h
  rw [hT.out]
  go_enter Tryz.func154, Tryz.ntmps154
  go_wp2
  go_ret
  exact ⟨rfl, rfl⟩
theorem faultOf_any_rd (e : Int) (w : World) : Calls Tryz.prog 154 #[.int .i64 e] w fun r w' => r = .returned (trW e) ∧ w' = w := by
  by_cases h : e = 0
  · subst h; exact faultOf_zero_rd w
  · exact faultOf_other_rd e w h

theorem note_nil_rd (tp : Addr) (w : World) (hc : w.cell? tp = some .nilIface) (hf : w.frozen? tp = false) :
    Calls Tryz.prog 153 #[.pointer (some tp), .nilIface] w fun r w' => r = .returned (.tuple #[]) ∧ w' = w.setCell tp .nilIface := by
  go_enter Tryz.func153, Tryz.ntmps153
  go_wp2
  first | go_end0 | refine bodyPost_ret (results_none rfl _ _ _) rfl ?_
  exact ⟨rfl, rfl⟩
theorem note_fault_rd (tp : Addr) (x : Int) (w : World) (hc : w.cell? tp = some .nilIface) (hf : w.frozen? tp = false) :
    Calls Tryz.prog 153 #[.pointer (some tp), .iface 244 (.agg #[.int .i64 x])] w fun r w' => r = .returned (.tuple #[]) ∧ w' = w.setCell tp (.iface 244 (.agg #[.int .i64 x])) := by
  go_enter Tryz.func153, Tryz.ntmps153
  go_wp2
  first | go_end0 | refine bodyPost_ret (results_none rfl _ _ _) rfl ?_
  exact ⟨rfl, rfl⟩
theorem note_first_rd (tp : Addr) (e : Int) (w : World) (hc : w.cell? tp = some (trW 0)) (hf : w.frozen? tp = false) :
    Calls Tryz.prog 153 #[.pointer (some tp), trW e] w fun r w' => r = .returned (.tuple #[]) ∧ w' = w.setCell tp (trW e) := by
  have hc2 : w.cell? tp = some .nilIface := hc
  unfold trW
  by_cases h : e = 0
  · rw [if_pos h]; exact note_nil_rd tp w hc2 hf
  · rw [if_neg h]; exact note_fault_rd tp e w hc2 hf
theorem note_later_rd (tp : Addr) (v x : Value) (w : World) (hc : w.cell? tp = some (.iface 244 x)) :
    Calls Tryz.prog 153 #[.pointer (some tp), v] w fun r w' => r = .returned (.tuple #[]) ∧ w' = w := by
  have q := eql_iface_rd x
  go_enter Tryz.func153, Tryz.ntmps153
  go_wp2
  first | go_end0 | refine bodyPost_ret (results_none rfl _ _ _) rfl ?_
  exact ⟨rfl, rfl⟩
theorem any_no_rd (tp : Addr) (w : World) (hc : w.cell? tp = some .nilIface) : Calls Tryz.prog 134 #[.pointer (some tp)] w fun r w' => r = .returned (.bool false) ∧ w' = w := by
  go_enter Tryz.func134, Tryz.ntmps134
  go_wp2
  go_ret
  exact ⟨rfl, rfl⟩
theorem any_yes_rd (tp : Addr) (x : Value) (w : World) (hc : w.cell? tp = some (.iface 244 x)) : Calls Tryz.prog 134 #[.pointer (some tp)] w fun r w' => r = .returned (.bool true) ∧ w' = w := by
  have q := neq_iface_rd x
  go_enter Tryz.func134, Tryz.ntmps134
  go_wp2
  go_ret
  exact ⟨rfl, rfl⟩
theorem any_any_rd (tp : Addr) (e : Int) (w : World) (hc : w.cell? tp = some (trW e)) : Calls Tryz.prog 134 #[.pointer (some tp)] w fun r w' => r = .returned (.bool (e != 0)) ∧ w' = w := by
  unfold trW at hc
  by_cases h : e = 0
  · rw [if_pos h] at hc; subst h; exact any_no_rd tp w hc
  · rw [if_neg h] at hc
    have : (e != 0) = true := by rw [bne_iff_ne]; exact h
    rw [this]; exact any_yes_rd tp _ w hc

set_option maxHeartbeats 1000000 in

structure Sole (p : Nat) (w w' : World) : Prop where
  os : w'.os = w.os
  tape : w'.tape = w.tape
  output : w'.output = w.output
  size : w.heap.size ≤ w'.heap.size
  block : ∀ b, b < w.heap.size → b ≠ p → w'.heap[b]? = w.heap[b]?

theorem Sole.refl (p : Nat) (w : World) : Sole p w w := ⟨rfl, rfl, rfl, Nat.le_refl _, fun _ _ _ => rfl⟩
theorem Sole.trans {p : Nat} {a b c : World} (h : Sole p a b) (k : Sole p b c) : Sole p a c :=
  ⟨k.os.trans h.os, k.tape.trans h.tape, k.output.trans h.output, Nat.le_trans h.size k.size, fun i hi hp => (k.block i (Nat.lt_of_lt_of_le hi h.size) hp).trans (h.block i hi hp)⟩
theorem Sole.of_below {p : Nat} {a b : World} (h : Below a.heap.size a b) : Sole p a b := ⟨h.os, h.tape, h.output, h.size, fun i hi _ => h.block i hi⟩
theorem Sole.drewN (p : Nat) (w : World) (k : Nat) : Sole p w (w.drewN k) := Sole.of_below (below_drew (Below.refl _ _) k)
theorem Sole.setCell {p : Nat} (w : World) (o : Nat) (v : Value) : Sole p w (w.setCell ⟨p, o, none⟩ v) :=
  ⟨rfl, rfl, rfl, by simp [World.setCell], fun b _ hb => Below.heap_setCell _ _ _ _ hb⟩

/-- A Reader of the program's: what is left, what was wrong first. -/
structure RR (w : World) (p : Nat) (l : List UInt8) (E : Int) : Prop where
  l : w.cell? ⟨p, 0, none⟩ = some (Bs l)
  e : w.cell? ⟨p, 1, none⟩ = some (trW E)
  f0 : w.frozen? ⟨p, 0, none⟩ = false
  f1 : w.frozen? ⟨p, 1, none⟩ = false

theorem RR.setE {w : World} {p : Nat} {l : List UInt8} {E : Int} (h : RR w p l E) (F : Int) : RR (w.setCell ⟨p, 1, none⟩ (trW F)) p l F :=
  ⟨by rw [World.cell?_setCell_other _ _ _ _ (by simp)]; exact h.l, World.cell?_setCell_same _ _ _ h.e, by rw [World.frozen?_setCell]; exact h.f0, by rw [World.frozen?_setCell]; exact h.f1⟩
theorem RR.setL {w : World} {p : Nat} {l : List UInt8} {E : Int} (h : RR w p l E) (m : List UInt8) : RR (w.setCell ⟨p, 0, none⟩ (Bs m)) p m E :=
  ⟨World.cell?_setCell_same _ _ _ h.l, by rw [World.cell?_setCell_other _ _ _ _ (by simp)]; exact h.e, by rw [World.frozen?_setCell]; exact h.f0, by rw [World.frozen?_setCell]; exact h.f1⟩

theorem trW_ne {e : Int} (h : e ≠ 0) : trW e = .iface 244 (.agg #[.int .i64 e]) := by unfold trW; rw [if_neg h]

/-- something was wrong already -/
theorem take_was (p : Nat) (n E : Int) (l : List UInt8) (v : Value) (w : World) (h : RR w p l E) (hE : E ≠ 0) :
    Calls Tryz.prog 159 #[.pointer (some ⟨p, 0, none⟩), .int .i64 n, v] w fun e w' => e = .returned (.bool false) ∧ w' = w := by
  have he := h.e
  rw [trW_ne hE] at he
  have H1 : Hid (Calls Tryz.prog 153 #[.pointer (some ⟨p, 1, none⟩), v] w fun r w' => r = .returned (.tuple #[]) ∧ w' = w) := note_later_rd ⟨p, 1, none⟩ v _ w he
  have H2 : Hid (Calls Tryz.prog 134 #[.pointer (some ⟨p, 1, none⟩)] w fun r w' => r = .returned (.bool true) ∧ w' = w) := any_yes_rd ⟨p, 1, none⟩ _ w he
  clear h he hE
  go_enter Tryz.func159, Tryz.ntmps159
  go_wp2_with fail
  refine H1.out.mono ?_
  rintro e w1 ⟨rfl, hw⟩
  have hw1 := hw.symm
  clear hw
  subst hw1
  go_wp2_with fail
  refine H2.out.mono ?_
  rintro e w1 ⟨rfl, hw⟩
  have hw1 := hw.symm
  clear hw
  subst hw1
  go_wp2
  go_ret
  exact ⟨rfl, rfl⟩

/-- it goes wrong -/
theorem take_wrong (p : Nat) (n F : Int) (l : List UInt8) (w : World) (h : RR w p l 0) (hF : F ≠ 0) :
    Calls Tryz.prog 159 #[.pointer (some ⟨p, 0, none⟩), .int .i64 n, trW F] w fun e w' => e = .returned (.bool false) ∧ w' = w.setCell ⟨p, 1, none⟩ (trW F) := by
  have H1 : Hid (Calls Tryz.prog 153 #[.pointer (some ⟨p, 1, none⟩), trW F] w fun r w' => r = .returned (.tuple #[]) ∧ w' = w.setCell ⟨p, 1, none⟩ (trW F)) := note_first_rd ⟨p, 1, none⟩ F w h.e h.f1
  have H2 : Hid (Calls Tryz.prog 134 #[.pointer (some ⟨p, 1, none⟩)] (w.setCell ⟨p, 1, none⟩ (trW F)) fun r w' => r = .returned (.bool true) ∧ w' = w.setCell ⟨p, 1, none⟩ (trW F)) := by
    have he := (h.setE F).e
    have := any_any_rd ⟨p, 1, none⟩ F _ he
    rwa [show (F != 0) = true from bne_iff_ne.2 hF] at this
  obtain ⟨V, hV⟩ : ∃ V, trW F = V := ⟨_, rfl⟩
  rw [hV] at H1 H2 ⊢
  clear h hF hV
  go_enter Tryz.func159, Tryz.ntmps159
  go_wp2_with fail
  refine H1.out.mono ?_
  rintro e w1 ⟨rfl, hw⟩
  subst hw
  go_wp2_with fail
  refine H2.out.mono ?_
  rintro e w1 ⟨rfl, hw⟩
  subst hw
  go_wp2
  go_ret
  exact ⟨rfl, rfl⟩

/-- nothing is wrong -/
theorem take_ok (p n : Nat) (l : List UInt8) (w : World) (h : RR w p l 0) (hn : n ≤ l.length) :
    Calls Tryz.prog 159 #[.pointer (some ⟨p, 0, none⟩), .int .i64 n, .nilIface] w fun e w' => e = .returned (.bool true) ∧ RR w' p (l.drop n) 0 ∧ Sole p w w' := by
  have h1 : w.cell? ⟨p, 1, none⟩ = some .nilIface := h.e
  have H1 : Hid (Calls Tryz.prog 153 #[.pointer (some ⟨p, 1, none⟩), .nilIface] w fun r w' => r = .returned (.tuple #[]) ∧ w' = w.setCell ⟨p, 1, none⟩ .nilIface) := note_nil_rd ⟨p, 1, none⟩ w h1 h.f1
  have H2 : Hid (Calls Tryz.prog 134 #[.pointer (some ⟨p, 1, none⟩)] (w.setCell ⟨p, 1, none⟩ .nilIface) fun r w' => r = .returned (.bool false) ∧ w' = w.setCell ⟨p, 1, none⟩ .nilIface) := any_no_rd ⟨p, 1, none⟩ _ (World.cell?_setCell_same _ _ _ h1)
  have HS : RR (w.setCell ⟨p, 1, none⟩ .nilIface) p l 0 := h.setE 0
  have HP : Hid (RR ((w.setCell ⟨p, 1, none⟩ .nilIface).setCell ⟨p, 0, none⟩ (.string ((⟨l.toArray⟩ : ByteArray).extract n l.length))) p (l.drop n) 0) := by
    show RR _ _ _ _
    rw [Bs_from]; exact HS.setL _
  have h0 : w.cell? ⟨p, 0, none⟩ = some (.string ⟨l.toArray⟩) := h.l
  have h2 := h.f0
  have hn' : (n : Int) ≤ l.length := by omega
  clear h HS
  go_enter Tryz.func159, Tryz.ntmps159
  go_wp2_with fail
  refine H1.out.mono ?_
  rintro e w1 ⟨rfl, hw⟩
  subst hw
  go_wp2_with fail
  refine H2.out.mono ?_
  rintro e w1 ⟨rfl, hw⟩
  subst hw
  go_wp2
  go_ret
  exact ⟨rfl, HP.out, (Sole.setCell w 1 _).trans (Sole.setCell _ 0 _)⟩

end Go.Proofs.YtfcbjcebkahehaaGreatDoor
namespace Go.Proofs.YtfcbjcebkahehaaGreatDoor
open Go.RowKit
theorem RR.lt {w : World} {p : Nat} {l : List UInt8} {E : Int} (h : RR w p l E) : p < w.heap.size := by
  rcases Nat.lt_or_ge p w.heap.size with h1 | h1
  · exact h1
  · have := h.l
    simp [World.cell?, Array.getElem?_eq_none h1] at this

theorem cells_same {w w' : World} {b : Nat} (h : w'.heap[b]? = w.heap[b]?) (o : Nat) : w'.cell? ⟨b, o, none⟩ = w.cell? ⟨b, o, none⟩ ∧ w'.frozen? ⟨b, o, none⟩ = w.frozen? ⟨b, o, none⟩ := by
  constructor
  · simp only [World.cell?, h]
  · simp only [World.frozen?, h]

theorem RR.below {w w' : World} {p : Nat} {l : List UInt8} {E : Int} (h : RR w p l E) (hB : Below w.heap.size w w') : RR w' p l E := by
  have hb := hB.block p h.lt
  exact ⟨(cells_same hb 0).1.trans h.l, (cells_same hb 1).1.trans h.e, (cells_same hb 0).2.trans h.f0, (cells_same hb 1).2.trans h.f1⟩

/-- the end of every reading -/
theorem take_any (p : Nat) (n E F : Int) (l : List UInt8) (w : World) (b : Bool) (h : RR w p l E) (hb : decide (E = 0 ∧ F = 0) = b) (hn : b = true → 0 ≤ n ∧ n ≤ l.length) :
    Calls Tryz.prog 159 #[.pointer (some ⟨p, 0, none⟩), .int .i64 n, trW F] w fun e w' => e = .returned (.bool b) ∧ RR w' p (if b then l.drop n.toNat else l) (if E = 0 then F else E) ∧ Sole p w w' := by
  cases b with
  | true =>
    obtain ⟨rfl, rfl⟩ := of_decide_eq_true hb
    obtain ⟨h0, h1⟩ := hn rfl
    obtain ⟨m, rfl⟩ : ∃ m : Nat, n = m := ⟨n.toNat, by omega⟩
    rw [Int.toNat_natCast]
    exact take_ok p m l w h (by omega)
  | false =>
    have hb2 := of_decide_eq_false hb
    by_cases hE : E = 0
    · subst hE
      have hF : F ≠ 0 := fun e => hb2 ⟨rfl, e⟩
      refine (take_wrong p n F l w h hF).mono ?_
      rintro e w' ⟨rfl, rfl⟩
      exact ⟨rfl, h.setE F, Sole.setCell w 1 _⟩
    · rw [if_neg hE]
      refine (take_was p n E l _ w h hE).mono ?_
      rintro e w' ⟨rfl, rfl⟩
      exact ⟨rfl, h, Sole.refl _ _⟩

/-- what a call answers, and what stands behind it -/
def RPost {α : Type} (p : Nat) (l : List UInt8) (E : Int) (d : α) (f : List UInt8 → Rd α) (v : α → Value) (w : World) (e : Ending) (w' : World) : Prop :=
  e = .returned (v ((⟨l, E⟩ : Rs).go d f).1) ∧ RR w' p ((⟨l, E⟩ : Rs).go d f).2.l ((⟨l, E⟩ : Rs).go d f).2.e ∧ Sole p w w'

theorem go_case {α : Type} (l : List UInt8) (E : Int) (d : α) (f : List UInt8 → Rd α) : (⟨l, E⟩ : Rs).go d f = if decide (E = 0 ∧ (f l).wrong = 0) = true then ((f l).val, ⟨l.drop (f l).size, if E = 0 then (f l).wrong else E⟩) else (d, ⟨l, if E = 0 then (f l).wrong else E⟩) := by
  unfold Rs.go
  by_cases hE : E = 0
  · subst hE
    by_cases hF : (f l).wrong = 0
    · simp [hF]
    · simp [hF]
  · simp [hE]

theorem rdWord_size (l : List UInt8) : (rdWord l).size = 4 ∧ ((rdWord l).wrong = 0 → 4 ≤ l.length) ∧ (rdWord l).val < 4294967296 := by
  refine ⟨by unfold rdWord; split <;> rfl, fun h => ?_, ?_⟩
  · have := (one_word l h).1
    rwa [show (rdWord l).size = 4 by unfold rdWord; split <;> rfl] at this
  · by_cases h : (rdWord l).wrong = 0
    · exact (one_word l h).2.2
    · unfold rdWord at h ⊢
      split at h
      · rename_i h2; rw [if_pos h2]; decide
      · exact absurd rfl h

set_option maxRecDepth 4000 in
theorem ruint_any (p : Nat) (l : List UInt8) (E : Int) (w : World) (h : RR w p l E) : Calls Tryz.prog 117 #[.pointer (some ⟨p, 0, none⟩)] w (RPost p l E 0 rdWord (fun n => .int .i64 (n : Int)) w) := by
  unfold RPost
  rw [go_case]
  obtain ⟨hs, hle, hlt⟩ := rdWord_size l
  obtain ⟨b, hb⟩ : ∃ b, decide (E = 0 ∧ (rdWord l).wrong = 0) = b := ⟨_, rfl⟩
  have H1 : Hid (Calls Tryz.prog 158 #[.string ⟨l.toArray⟩] w fun e w' => e = .returned (.tuple #[.int .u32 (rdWord l).val, trW (rdWord l).wrong]) ∧ Below w.heap.size w w') := frontWord_any l w
  have H2 : Hid (∀ w1, Below w.heap.size w w1 → Calls Tryz.prog 159 #[.pointer (some ⟨p, 0, none⟩), .int .i64 4, trW (rdWord l).wrong] w1 fun e w' => e = .returned (.bool b) ∧ RR w' p (if b then l.drop 4 else l) (if E = 0 then (rdWord l).wrong else E) ∧ Sole p w w') := fun w1 hB =>
    (take_any p 4 E _ l w1 b (h.below hB) hb (fun e => by
      subst e
      have := hle (of_decide_eq_true hb).2
      omega)).mono fun e w' hp => ⟨hp.1, hp.2.1, (Sole.of_below hB).trans hp.2.2⟩
  rw [hb, hs]
  have h0 : w.cell? ⟨p, 0, none⟩ = some (.string ⟨l.toArray⟩) := h.l
  obtain ⟨V, hV⟩ : ∃ V, trW (rdWord l).wrong = V := ⟨_, rfl⟩
  rw [hV] at H1 H2
  generalize (if E = 0 then (rdWord l).wrong else E) = E2 at *
  generalize (rdWord l).val = n at *
  have hn0 : 0 ≤ (n : Int) := by omega
  have hn1 : (n : Int) < 4294967296 := by omega
  clear h hs hle hlt hb hV
  cases b
  · obtain ⟨L, hL⟩ : ∃ L, l = L := ⟨_, rfl⟩
    have H3 : Hid (∀ w1, Below w.heap.size w w1 → Calls Tryz.prog 159 #[.pointer (some ⟨p, 0, none⟩), .int .i64 4, V] w1 fun e w' => e = .returned (.bool false) ∧ RR w' p L E2 ∧ Sole p w w') := by rw [← hL]; exact H2.out
    show Calls Tryz.prog 117 _ w fun e w' => e = .returned (.int .i64 0) ∧ RR w' p l E2 ∧ Sole p w w'
    have HL : Hid (l = L) := hL
    suffices hh : Calls Tryz.prog 117 #[.pointer (some ⟨p, 0, none⟩)] w fun e w' => e = .returned (.int .i64 0) ∧ RR w' p L E2 ∧ Sole p w w' by rw [← HL.out] at hh; exact hh
    clear H2 hL HL
    go_enter Tryz.func117, Tryz.ntmps117
    go_wp2_with fail
    refine H1.out.mono ?_
    rintro e w1 ⟨rfl, hB⟩
    have HB : Hid (Below w.heap.size w w1) := hB
    clear hB
    go_wp2_with fail
    refine (H3.out _ HB.out).mono ?_
    rintro e w2 ⟨rfl, hR, hS⟩
    have HR : Hid (RR w2 p L E2 ∧ Sole p w w2) := ⟨hR, hS⟩
    clear hR hS
    go_wp2
    go_ret
    exact ⟨rfl, HR.out.1, HR.out.2⟩
  · obtain ⟨L, hL⟩ : ∃ L, l.drop 4 = L := ⟨_, rfl⟩
    have H3 : Hid (∀ w1, Below w.heap.size w w1 → Calls Tryz.prog 159 #[.pointer (some ⟨p, 0, none⟩), .int .i64 4, V] w1 fun e w' => e = .returned (.bool true) ∧ RR w' p L E2 ∧ Sole p w w') := by rw [← hL]; exact H2.out
    show Calls Tryz.prog 117 _ w fun e w' => e = .returned (.int .i64 (n : Int)) ∧ RR w' p (l.drop 4) E2 ∧ Sole p w w'
    rw [hL]
    clear H2 hL
    go_enter Tryz.func117, Tryz.ntmps117
    go_wp2_with fail
    refine H1.out.mono ?_
    rintro e w1 ⟨rfl, hB⟩
    have HB : Hid (Below w.heap.size w w1) := hB
    clear hB
    go_wp2_with fail
    refine (H3.out _ HB.out).mono ?_
    rintro e w2 ⟨rfl, hR, hS⟩
    have HR : Hid (RR w2 p L E2 ∧ Sole p w w2) := ⟨hR, hS⟩
    clear hR hS
    go_wp2
    go_ret
    exact ⟨rfl, HR.out.1, HR.out.2⟩

end Go.Proofs.YtfcbjcebkahehaaGreatDoor
