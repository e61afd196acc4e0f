/- The document's own signs and comments. -/
import Derived.Test.YthnnmgiihpdblabMc
namespace Go.Proofs.Ythnnmgiihpdblab
open Go.RowKit

theorem index_sign (w : World) (d : Nat) (h : d < 13) :
    (Instr.index 9 (.string ⟨#[123, 125, 40, 41, 91, 93, 60, 62, 61, 59, 58, 44, 42]⟩) (.int .i64 d)).run Try.prog w = .ok (.int .u8 ((signL.getD d 0).toNat : Int)) w := by
  rw [run_index_string w 9 _ .i64 (d : Int) Try.underlying9]
  have hs : (⟨#[123, 125, 40, 41, 91, 93, 60, 62, 61, 59, 58, 44, 42]⟩ : ByteArray).size = 13 := rfl
  rw [dif_pos ⟨by omega, by rw [hs]; omega⟩]
  have e : ∀ d : Fin 13, ((⟨#[123, 125, 40, 41, 91, 93, 60, 62, 61, 59, 58, 44, 42]⟩ : ByteArray)[d.val]'(show d.val < 13 from d.isLt)) = signL.getD d.val 0 := by decide
  have := e ⟨d, h⟩
  simp only [Int.toNat_natCast]
  rw [this]

set_option maxHeartbeats 1000000 in
theorem rsign_any (c : UInt8) (w : World) : Calls Try.prog 31 #[.int .u8 (c.toNat : Int)] w fun e w' => e = .returned (.bool (signB c)) ∧ w' = w := by
  obtain ⟨R, hR⟩ : ∃ R, signB c = R := ⟨_, rfl⟩
  rw [hR]
  have HY : Hid (∀ k, k < 13 → signL.getD k 0 = c → R = true) := fun k hk h => by
    rw [← hR, ← h]; exact sign_13 hk
  have HZ : Hid ((∀ k, k < 13 → signL.getD k 0 ≠ c) → R = false) := fun h => by
    rw [← hR]
    cases hs : signB c
    · rfl
    · have hm : c ∈ signL := List.contains_iff_mem.1 hs
      obtain ⟨j, hj, e⟩ := List.getElem_of_mem hm
      exact absurd (by rw [getD_lt hj]; exact e) (h j hj)
  clear hR
  go_enter Try.func31, Try.ntmps31
  go_wp2_with fail
  go_loop [3] (fun i => ∃ k : Nat, i = .int .i64 k ∧ k ≤ 13 ∧ Hid (∀ j, j < k → signL.getD j 0 ≠ c)) (fun i => 13 - (intOf i).toNat)
  case atStart => exact ⟨0, rfl, by omega, fun j h => by omega⟩
  case round =>
    obtain ⟨k, rfl, hk, HJ⟩ := hrel
    by_cases hlt : k < 13
    · have hk' : (k : Int) < 13 := by omega
      have hix := fun w => index_sign w k hlt
      have hbe := byte_eq (signL.getD k 0) c
      by_cases he : signL.getD k 0 = c
      · have HF : Hid (R = true) := HY.out k hlt he
        rw [he] at hix
        clear hbe he
        generalize (c.toNat : Int) = n at *
        go_wp2
        go_ret
        exact ⟨by rw [HF.out]; rfl, rfl⟩
      · have hb : (((signL.getD k 0).toNat : Int) == (c.toNat : Int)) = false := hbe.trans (by simpa using he)
        have HJ2 : Hid (∀ j, j < k + 1 → signL.getD j 0 ≠ c) := fun j h => by
          rcases Nat.lt_or_ge j k with h3 | h3
          · exact HJ.out j h3
          · obtain rfl : j = k := by omega
            exact he
        clear hbe he
        generalize (c.toNat : Int) = n at *
        generalize ((signL.getD k 0).toNat : Int) = m at *
        go_wp2
        go_round
        case rel => exact ⟨k + 1, by go_num, by omega, HJ2.out⟩
        case measure => simp [intOf]; omega
    · obtain rfl : k = 13 := by omega
      have HF : Hid (R = false) := HZ.out HJ.out
      go_wp2
      go_ret
      exact ⟨by rw [HF.out]; rfl, rfl⟩

def cendV (l : List UInt8) (i : Nat) : Nat := (cend l (i + 2)).getD 0

set_option maxHeartbeats 2000000 in
theorem rcomment_any (l : List UInt8) (i : Nat) (hi : i + 2 ≤ l.length) (hl : (l.length : Int) ≤ 1000000) (w : World) : Calls Try.prog 18 #[S l, .int .i64 i] w fun e w' => e = .returned (.int .i64 (cendV l i : Nat)) ∧ w' = w := by
  obtain ⟨R, hR⟩ : ∃ R, cendV l i = R := ⟨_, rfl⟩
  rw [hR]
  have HR : Hid ((cend l (i + 2)).getD 0 = R) := hR
  clear hR
  have hi' : (i : Int) + 2 ≤ l.length := by omega
  go_enter Try.func18, Try.ntmps18
  go_wp2_with fail
  go_loop [5] (fun j => ∃ k : Nat, j = .int .i64 k ∧ i + 2 ≤ k ∧ k ≤ l.length ∧ Hid ((cend l k).getD 0 = R)) (fun j => l.length - (intOf j).toNat)
  case atStart => exact ⟨i + 2, by go_num, by omega, by omega, HR.out⟩
  case round =>
    obtain ⟨k, rfl, hk1, hk2, HK⟩ := hrel
    by_cases hlt : k + 1 < l.length
    · have hk' : (k : Int) + 1 < l.length := by omega
      have hkk : (k : Int) < l.length := by omega
      have hc1 : ({ data := l.toArray } : ByteArray)[k]'(show k < l.length by omega) = l.getD k 0 := (getD_lt _).symm
      have hc2 : ({ data := l.toArray } : ByteArray)[k + 1]'hlt = l.getD (k + 1) 0 := (getD_lt hlt).symm
      have hb1 := byte_eq (l.getD k 0) 42
      have hb2 := byte_eq (l.getD (k + 1) 0) 47
      by_cases h1 : l.getD k 0 = 42
      · by_cases h2 : l.getD (k + 1) 0 = 47
        · have HF : Hid (k + 2 = R) := by
            have := HK.out
            rw [cend_here h1 h2] at this
            exact this
          rw [h1] at hc1
          rw [h2] at hc2
          clear h1 h2 hb1 hb2 HK
          go_wp2
          go_ret
          exact ⟨ret_int (by rw [← HF.out]; omega), rfl⟩
        · have HK2 : Hid ((cend l (k + 1)).getD 0 = R) := by
            have := HK.out
            rw [cend_next (fun h => h2 h.2)] at this
            exact this
          have hq : (((l.getD (k + 1) 0).toNat : Int) == 47) = false := hb2.trans (by simpa using h2)
          rw [h1] at hc1
          clear h1 h2 hb1 hb2 HK
          generalize l.getD (k + 1) 0 = d at *
          go_wp2
          go_round
          case rel => exact ⟨k + 1, by go_num, by omega, by omega, HK2.out⟩
          case measure => simp [intOf]; omega
      · have HK2 : Hid ((cend l (k + 1)).getD 0 = R) := by
          have := HK.out
          rw [cend_next (fun h => h1 h.1)] at this
          exact this
        have hq : (((l.getD k 0).toNat : Int) == 42) = false := hb1.trans (by simpa using h1)
        clear h1 hb1 hb2 HK hc2
        generalize l.getD k 0 = d at *
        go_wp2
        go_round
        case rel => exact ⟨k + 1, by go_num, by omega, by omega, HK2.out⟩
        case measure => simp [intOf]; omega
    · have HF : Hid (0 = R) := by
        have := HK.out
        rw [cend_none_of (by omega)] at this
        exact this
      have hk' : decide ((k : Int) + 1 < l.length) = false := decide_eq_false (by omega)
      have hk3 : decide (k + 1 < l.length) = false := decide_eq_false (by omega)
      clear HK
      go_wp2
      go_ret
      exact ⟨ret_int (by rw [← HF.out]; rfl), rfl⟩

end Go.Proofs.Ythnnmgiihpdblab
