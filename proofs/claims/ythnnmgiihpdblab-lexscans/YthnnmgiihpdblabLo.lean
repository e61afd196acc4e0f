/- LexParts' own functions: pick, digits, gaps. -/
import Derived.Test.YthnnmgiihpdblabLn
namespace Go.Proofs.Ythnnmgiihpdblab
open Go.RowKit

theorem pick_any (c n : Int) (w : World) (hn : 0 < n) (hn2 : n ≤ 4294967296) (h1 : -9223372036854775808 ≤ c) (h2 : c ≤ 9223372036854775807) : Calls Try.prog 26 #[.int .i64 c, .int .i64 n] w fun e w' => e = .returned (.int .i64 (pickP c n)) ∧ w' = w := by
  have hz : (n == 0) = false := beq_eq_false_iff_ne.2 (by omega)
  obtain ⟨R, hR⟩ : ∃ R, pickP c n = R := ⟨_, rfl⟩
  rw [hR]
  unfold pickP at hR
  by_cases h : c < 0
  · rw [if_pos h] at hR
    have HR : Hid ((-(c + 1)) % n = R) := hR
    clear hR
    go_enter Try.func26, Try.ntmps26
    go_wp2
    go_ret
    exact ⟨ret_int (by rw [← Int.neg_tmod, Int.tmod_eq_emod_of_nonneg (by omega)]; exact HR.out), rfl⟩
  · rw [if_neg h] at hR
    have HR : Hid (c % n = R) := hR
    have h0 : 0 ≤ c := by omega
    clear hR h
    go_enter Try.func26, Try.ntmps26
    go_wp2
    go_ret
    exact ⟨ret_int HR.out, rfl⟩

theorem slice_dig (w : World) (d : Nat) (h : d < 16) :
    (Instr.slice 9 (.string ⟨#[48, 49, 50, 51, 52, 53, 54, 55, 56, 57, 97, 98, 99, 100, 101, 102]⟩) (some (.int .i64 d)) (some (.int .i64 ((d : Int) + 1))) none).run Try.prog w = .ok (S [dc d]) w := by
  have e := slice_str w (⟨#[48, 49, 50, 51, 52, 53, 54, 55, 56, 57, 97, 98, 99, 100, 101, 102]⟩ : ByteArray) (d : Int) ((d : Int) + 1) (by omega) (by omega) (by show (d : Int) + 1 ≤ ((16 : Nat) : Int); omega)
  rw [e, show ((d : Int) + 1).toNat = d + 1 by omega, Int.toNat_natCast]
  have hb : (⟨#[48, 49, 50, 51, 52, 53, 54, 55, 56, 57, 97, 98, 99, 100, 101, 102]⟩ : ByteArray) = ⟨([48, 49, 50, 51, 52, 53, 54, 55, 56, 57, 97, 98, 99, 100, 101, 102] : List UInt8).toArray⟩ := rfl
  have hd : ∀ d : Fin 16, (([48, 49, 50, 51, 52, 53, 54, 55, 56, 57, 97, 98, 99, 100, 101, 102] : List UInt8).drop d.val).take (d.val + 1 - d.val) = [dc d.val] := by decide
  rw [hb, S_extract, hd ⟨d, h⟩]

theorem S_app (a b : List UInt8) : (⟨a.toArray⟩ : ByteArray) ++ ⟨b.toArray⟩ = ⟨(a ++ b).toArray⟩ := by
  apply ByteArray.ext; simp

set_option maxHeartbeats 2000000 in
theorem ldigits_8 (N : Nat) (hN : N ≤ 4294967296) (w : World) : Calls Try.prog 28 #[.int .i64 N, .int .i64 8] w fun e w' => e = .returned (S (digitsL 8 N)) ∧ ∃ n, w' = w.drewN n := by
  have hm : N % 8 < 16 := by omega
  have hsl := fun w => slice_dig w (N % 8) hm
  have hc : ((N % 8 : Nat) : Int) = (N : Int) % 8 := by omega
  rw [hc] at hsl
  obtain ⟨R, hR⟩ : ∃ R, digitsL 8 N = R := ⟨_, rfl⟩
  have H0 : Hid ((N / 8 = 0 ∧ [dc (N % 8)] = R) ∨ (0 < N / 8 ∧ R = digitsL 8 (N / 8) ++ [dc (N % 8)])) := by
    show _ ∨ _
    by_cases h : N < 8
    · exact .inl ⟨by omega, by rw [← hR, digitsL_small h, Nat.mod_eq_of_lt h]⟩
    · exact .inr ⟨by omega, by rw [← hR, digitsL_great (by omega) h]⟩
  rw [hR]
  clear hR hc
  generalize hT : [dc (N % 8)] = T at *
  have HT : Hid (T.length = 1) := by show _ = _; rw [← hT]; rfl
  clear hT
  have hN1 : (N : Int) ≤ 4294967296 := by omega
  go_enter Try.func28, Try.ntmps28
  go_wp2_with fail
  go_quiet (fail)
  go_wp2_with fail
  clear hsl
  go_loopw [0, 5] (fun n s wr => ∃ (m q : Nat) (t : List UInt8), n = .int .i64 m ∧ s = S t ∧ m ≤ N ∧ t.length + m ≤ N + 1 ∧ wr = w.drewN q ∧ Hid ((m = 0 ∧ t = R) ∨ (0 < m ∧ R = digitsL 8 m ++ t))) (fun n _ _ => (intOf n).toNat)
  case atStart => exact ⟨N / 8, _, T, by go_num, rfl, by omega, by rw [HT.out]; omega, rfl, H0.out⟩
  case round =>
    obtain ⟨m, q, t, rfl, rfl, hmN, htm, rfl, HK⟩ := hrel
    by_cases h0 : 0 < m
    · have h0' : (0 : Int) < m := by omega
      have hm16 : m % 8 < 16 := by omega
      have hsl := fun w => slice_dig w (m % 8) hm16
      have hc : ((m % 8 : Nat) : Int) = (m : Int) % 8 := by omega
      rw [hc] at hsl
      clear hc
      have HK2 : Hid ((m / 8 = 0 ∧ [dc (m % 8)] ++ t = R) ∨ (0 < m / 8 ∧ R = digitsL 8 (m / 8) ++ ([dc (m % 8)] ++ t))) := by
        show _ ∨ _
        have hr : R = digitsL 8 m ++ t := by
          rcases HK.out with ⟨h1, _⟩ | ⟨_, h1⟩
          · omega
          · exact h1
        by_cases h : m < 8
        · exact .inl ⟨by omega, by rw [hr, digitsL_small h, Nat.mod_eq_of_lt h]⟩
        · exact .inr ⟨by omega, by rw [hr, digitsL_great (by omega) h, List.append_assoc]⟩
      generalize hT : [dc (m % 8)] = U at *
      have HU : Hid (U.length = 1) := by show _ = _; rw [← hT]; rfl
      have hcat : (9223372036854775807 < U.length + t.length) = False := by rw [HU.out]; simp; omega
      clear hT HK
      go_wp2_with fail
      go_quiet (fail)
      go_wp2
      go_roundw
      case rel => exact ⟨m / 8, _, U ++ t, by go_num, by rw [S_app], by omega, by rw [List.length_append, HU.out]; omega, rfl, HK2.out⟩
      case measure => simp [intOf]; omega
    · obtain rfl : m = 0 := by omega
      have HF : Hid (t = R) := by
        rcases HK.out with ⟨_, h⟩ | ⟨h, _⟩
        · exact h
        · omega
      go_wp2
      go_ret
      exact ⟨by rw [← HF.out]; rfl, _, rfl⟩

set_option maxHeartbeats 2000000 in
theorem ldigits_10 (N : Nat) (hN : N ≤ 4294967296) (w : World) : Calls Try.prog 28 #[.int .i64 N, .int .i64 10] w fun e w' => e = .returned (S (digitsL 10 N)) ∧ ∃ n, w' = w.drewN n := by
  have hm : N % 10 < 16 := by omega
  have hsl := fun w => slice_dig w (N % 10) hm
  have hc : ((N % 10 : Nat) : Int) = (N : Int) % 10 := by omega
  rw [hc] at hsl
  obtain ⟨R, hR⟩ : ∃ R, digitsL 10 N = R := ⟨_, rfl⟩
  have H0 : Hid ((N / 10 = 0 ∧ [dc (N % 10)] = R) ∨ (0 < N / 10 ∧ R = digitsL 10 (N / 10) ++ [dc (N % 10)])) := by
    show _ ∨ _
    by_cases h : N < 10
    · exact .inl ⟨by omega, by rw [← hR, digitsL_small h, Nat.mod_eq_of_lt h]⟩
    · exact .inr ⟨by omega, by rw [← hR, digitsL_great (by omega) h]⟩
  rw [hR]
  clear hR hc
  generalize hT : [dc (N % 10)] = T at *
  have HT : Hid (T.length = 1) := by show _ = _; rw [← hT]; rfl
  clear hT
  have hN1 : (N : Int) ≤ 4294967296 := by omega
  go_enter Try.func28, Try.ntmps28
  go_wp2_with fail
  go_quiet (fail)
  go_wp2_with fail
  clear hsl
  go_loopw [0, 5] (fun n s wr => ∃ (m q : Nat) (t : List UInt8), n = .int .i64 m ∧ s = S t ∧ m ≤ N ∧ t.length + m ≤ N + 1 ∧ wr = w.drewN q ∧ Hid ((m = 0 ∧ t = R) ∨ (0 < m ∧ R = digitsL 10 m ++ t))) (fun n _ _ => (intOf n).toNat)
  case atStart => exact ⟨N / 10, _, T, by go_num, rfl, by omega, by rw [HT.out]; omega, rfl, H0.out⟩
  case round =>
    obtain ⟨m, q, t, rfl, rfl, hmN, htm, rfl, HK⟩ := hrel
    by_cases h0 : 0 < m
    · have h0' : (0 : Int) < m := by omega
      have hm16 : m % 10 < 16 := by omega
      have hsl := fun w => slice_dig w (m % 10) hm16
      have hc : ((m % 10 : Nat) : Int) = (m : Int) % 10 := by omega
      rw [hc] at hsl
      clear hc
      have HK2 : Hid ((m / 10 = 0 ∧ [dc (m % 10)] ++ t = R) ∨ (0 < m / 10 ∧ R = digitsL 10 (m / 10) ++ ([dc (m % 10)] ++ t))) := by
        show _ ∨ _
        have hr : R = digitsL 10 m ++ t := by
          rcases HK.out with ⟨h1, _⟩ | ⟨_, h1⟩
          · omega
          · exact h1
        by_cases h : m < 10
        · exact .inl ⟨by omega, by rw [hr, digitsL_small h, Nat.mod_eq_of_lt h]⟩
        · exact .inr ⟨by omega, by rw [hr, digitsL_great (by omega) h, List.append_assoc]⟩
      generalize hT : [dc (m % 10)] = U at *
      have HU : Hid (U.length = 1) := by show _ = _; rw [← hT]; rfl
      have hcat : (9223372036854775807 < U.length + t.length) = False := by rw [HU.out]; simp; omega
      clear hT HK
      go_wp2_with fail
      go_quiet (fail)
      go_wp2
      go_roundw
      case rel => exact ⟨m / 10, _, U ++ t, by go_num, by rw [S_app], by omega, by rw [List.length_append, HU.out]; omega, rfl, HK2.out⟩
      case measure => simp [intOf]; omega
    · obtain rfl : m = 0 := by omega
      have HF : Hid (t = R) := by
        rcases HK.out with ⟨_, h⟩ | ⟨h, _⟩
        · exact h
        · omega
      go_wp2
      go_ret
      exact ⟨by rw [← HF.out]; rfl, _, rfl⟩

set_option maxHeartbeats 2000000 in
theorem ldigits_16 (N : Nat) (hN : N ≤ 4294967296) (w : World) : Calls Try.prog 28 #[.int .i64 N, .int .i64 16] w fun e w' => e = .returned (S (digitsL 16 N)) ∧ ∃ n, w' = w.drewN n := by
  have hm : N % 16 < 16 := by omega
  have hsl := fun w => slice_dig w (N % 16) hm
  have hc : ((N % 16 : Nat) : Int) = (N : Int) % 16 := by omega
  rw [hc] at hsl
  obtain ⟨R, hR⟩ : ∃ R, digitsL 16 N = R := ⟨_, rfl⟩
  have H0 : Hid ((N / 16 = 0 ∧ [dc (N % 16)] = R) ∨ (0 < N / 16 ∧ R = digitsL 16 (N / 16) ++ [dc (N % 16)])) := by
    show _ ∨ _
    by_cases h : N < 16
    · exact .inl ⟨by omega, by rw [← hR, digitsL_small h, Nat.mod_eq_of_lt h]⟩
    · exact .inr ⟨by omega, by rw [← hR, digitsL_great (by omega) h]⟩
  rw [hR]
  clear hR hc
  generalize hT : [dc (N % 16)] = T at *
  have HT : Hid (T.length = 1) := by show _ = _; rw [← hT]; rfl
  clear hT
  have hN1 : (N : Int) ≤ 4294967296 := by omega
  go_enter Try.func28, Try.ntmps28
  go_wp2_with fail
  go_quiet (fail)
  go_wp2_with fail
  clear hsl
  go_loopw [0, 5] (fun n s wr => ∃ (m q : Nat) (t : List UInt8), n = .int .i64 m ∧ s = S t ∧ m ≤ N ∧ t.length + m ≤ N + 1 ∧ wr = w.drewN q ∧ Hid ((m = 0 ∧ t = R) ∨ (0 < m ∧ R = digitsL 16 m ++ t))) (fun n _ _ => (intOf n).toNat)
  case atStart => exact ⟨N / 16, _, T, by go_num, rfl, by omega, by rw [HT.out]; omega, rfl, H0.out⟩
  case round =>
    obtain ⟨m, q, t, rfl, rfl, hmN, htm, rfl, HK⟩ := hrel
    by_cases h0 : 0 < m
    · have h0' : (0 : Int) < m := by omega
      have hm16 : m % 16 < 16 := by omega
      have hsl := fun w => slice_dig w (m % 16) hm16
      have hc : ((m % 16 : Nat) : Int) = (m : Int) % 16 := by omega
      rw [hc] at hsl
      clear hc
      have HK2 : Hid ((m / 16 = 0 ∧ [dc (m % 16)] ++ t = R) ∨ (0 < m / 16 ∧ R = digitsL 16 (m / 16) ++ ([dc (m % 16)] ++ t))) := by
        show _ ∨ _
        have hr : R = digitsL 16 m ++ t := by
          rcases HK.out with ⟨h1, _⟩ | ⟨_, h1⟩
          · omega
          · exact h1
        by_cases h : m < 16
        · exact .inl ⟨by omega, by rw [hr, digitsL_small h, Nat.mod_eq_of_lt h]⟩
        · exact .inr ⟨by omega, by rw [hr, digitsL_great (by omega) h, List.append_assoc]⟩
      generalize hT : [dc (m % 16)] = U at *
      have HU : Hid (U.length = 1) := by show _ = _; rw [← hT]; rfl
      have hcat : (9223372036854775807 < U.length + t.length) = False := by rw [HU.out]; simp; omega
      clear hT HK
      go_wp2_with fail
      go_quiet (fail)
      go_wp2
      go_roundw
      case rel => exact ⟨m / 16, _, U ++ t, by go_num, by rw [S_app], by omega, by rw [List.length_append, HU.out]; omega, rfl, HK2.out⟩
      case measure => simp [intOf]; omega
    · obtain rfl : m = 0 := by omega
      have HF : Hid (t = R) := by
        rcases HK.out with ⟨_, h⟩ | ⟨h, _⟩
        · exact h
        · omega
      go_wp2
      go_ret
      exact ⟨by rw [← HF.out]; rfl, _, rfl⟩

end Go.Proofs.Ythnnmgiihpdblab
