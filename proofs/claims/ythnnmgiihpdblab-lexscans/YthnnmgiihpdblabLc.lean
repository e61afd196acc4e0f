/- The program's small functions of bytes: blanks, signs, digits, what begins and what goes on. -/
import Derived.Test.YthnnmgiihpdblabLb
namespace Go.Proofs.Ythnnmgiihpdblab
open Go.RowKit

theorem ret_int {k : IntKind} {a b : Int} (h : a = b) : Ending.returned (.int k a) = .returned (.int k b) := by rw [h]

def blankP (c : Int) : Bool := c == 32 || c == 9 || c == 10 || c == 13
theorem blank_byte (c : UInt8) : blankP (c.toNat : Int) = blankB c := by
  have := all_bytes (fun c => blankP (c.toNat : Int) == blankB c) (by decide +kernel) c
  simpa using this

theorem isBlank_any (c : Int) (w : World) : Calls Try.prog 41 #[.int .u8 c] w fun e w' => e = .returned (.bool (blankP c)) ∧ w' = w := by
  unfold blankP
  cases h0 : c == 32 <;> cases h1 : c == 9 <;> cases h2 : c == 10 <;> cases h3 : c == 13
  all_goals (
    go_enter Try.func41, Try.ntmps41
    go_wp2
    go_ret
    exact ⟨rfl, rfl⟩)

def signP (c : Int) : Bool := c == 123 || (c == 125 || (c == 40 || (c == 41 || (c == 91 || (c == 93 || (c == 60 || (c == 62 || (c == 61 || (c == 59 || (c == 58 || (c == 44 || c == 42)))))))))))
theorem sign_byte (c : UInt8) : signP (c.toNat : Int) = signB c := by
  have := all_bytes (fun c => signP (c.toNat : Int) == signB c) (by decide +kernel) c
  simpa using this

set_option maxHeartbeats 1000000 in
theorem isSign_any (c : Int) (w : World) : Calls Try.prog 42 #[.int .u8 c] w fun e w' => e = .returned (.bool (signP c)) ∧ w' = w := by
  unfold signP
  cases h0 : c == 123
  case true => go_enter Try.func42, Try.ntmps42; go_wp2; go_ret; exact ⟨rfl, rfl⟩
  cases h1 : c == 125
  case true => go_enter Try.func42, Try.ntmps42; go_wp2; go_ret; exact ⟨rfl, rfl⟩
  cases h2 : c == 40
  case true => go_enter Try.func42, Try.ntmps42; go_wp2; go_ret; exact ⟨rfl, rfl⟩
  cases h3 : c == 41
  case true => go_enter Try.func42, Try.ntmps42; go_wp2; go_ret; exact ⟨rfl, rfl⟩
  cases h4 : c == 91
  case true => go_enter Try.func42, Try.ntmps42; go_wp2; go_ret; exact ⟨rfl, rfl⟩
  cases h5 : c == 93
  case true => go_enter Try.func42, Try.ntmps42; go_wp2; go_ret; exact ⟨rfl, rfl⟩
  cases h6 : c == 60
  case true => go_enter Try.func42, Try.ntmps42; go_wp2; go_ret; exact ⟨rfl, rfl⟩
  cases h7 : c == 62
  case true => go_enter Try.func42, Try.ntmps42; go_wp2; go_ret; exact ⟨rfl, rfl⟩
  cases h8 : c == 61
  case true => go_enter Try.func42, Try.ntmps42; go_wp2; go_ret; exact ⟨rfl, rfl⟩
  cases h9 : c == 59
  case true => go_enter Try.func42, Try.ntmps42; go_wp2; go_ret; exact ⟨rfl, rfl⟩
  cases h10 : c == 58
  case true => go_enter Try.func42, Try.ntmps42; go_wp2; go_ret; exact ⟨rfl, rfl⟩
  cases h11 : c == 44
  case true => go_enter Try.func42, Try.ntmps42; go_wp2; go_ret; exact ⟨rfl, rfl⟩
  cases h12 : c == 42
  case true => go_enter Try.func42, Try.ntmps42; go_wp2; go_ret; exact ⟨rfl, rfl⟩
  go_enter Try.func42, Try.ntmps42; go_wp2; go_ret; exact ⟨rfl, rfl⟩

theorem digit_any (c : UInt8) (w : World) : Calls Try.prog 47 #[.int .u8 (c.toNat : Int)] w fun e w' => e = .returned (.int .i64 (digV c : Nat)) ∧ w' = w := by
  have hc : (c.toNat : Int) < 256 := by have := c.toNat_lt; omega
  have H1 : Hid (∀ w, Calls Try.prog 38 #[.int .u8 (c.toNat : Int)] w fun e w' => e = .returned (.bool (digB c)) ∧ w' = w) := fun w => isDigit_any _ w
  have hd : digB c = (decide (48 ≤ (c.toNat : Int)) && decide ((c.toNat : Int) ≤ 57)) := rfl
  obtain ⟨V, hV⟩ : ∃ V, digV c = V := ⟨_, rfl⟩
  rw [hV]
  unfold digV at hV
  cases hb : digB c
  · rw [hb] at H1 hV hd
    rw [if_neg (by decide)] at hV
    generalize hn : (c.toNat : Int) = n at *
    by_cases h1 : 97 ≤ n ∧ n ≤ 102
    · have HV : Hid (n - 97 + 10 = (V : Int)) := by show _ = _; rw [← hV, if_pos (by omega)]; omega
      clear hV hn hd
      obtain ⟨h1, h2⟩ := h1
      go_enter Try.func47, Try.ntmps47
      go_wp2_with fail
      refine (H1.out _).mono ?_
      rintro e w' ⟨rfl, rfl⟩
      go_wp2
      go_ret
      exact ⟨ret_int HV.out, rfl⟩
    · by_cases h2 : 65 ≤ n ∧ n ≤ 70
      · have HV : Hid (n - 65 + 10 = (V : Int)) := by show _ = _; rw [← hV, if_neg (by omega), if_pos (by omega)]; omega
        clear hV hn hd
        obtain ⟨h2, h3⟩ := h2
        have h4 : decide (97 ≤ n) = false := by simp; omega
        go_enter Try.func47, Try.ntmps47
        go_wp2_with fail
        refine (H1.out _).mono ?_
        rintro e w' ⟨rfl, rfl⟩
        go_wp2
        go_ret
        exact ⟨ret_int HV.out, rfl⟩
      · have HV : Hid (16 = (V : Int)) := by show _ = _; rw [← hV, if_neg (by omega), if_neg (by omega)]; rfl
        clear hV hn hd
        by_cases h97 : 97 ≤ n
        · have h102 : decide (n ≤ 102) = false := by simp; omega
          have h65 : 65 ≤ n := by omega
          have h70 : decide (n ≤ 70) = false := by simp; omega
          go_enter Try.func47, Try.ntmps47
          go_wp2_with fail
          refine (H1.out _).mono ?_
          rintro e w' ⟨rfl, rfl⟩
          go_wp2
          go_ret
          exact ⟨ret_int HV.out, rfl⟩
        · have h97' : decide (97 ≤ n) = false := by simp; omega
          by_cases h65 : 65 ≤ n
          · have h70 : decide (n ≤ 70) = false := by simp; omega
            go_enter Try.func47, Try.ntmps47
            go_wp2_with fail
            refine (H1.out _).mono ?_
            rintro e w' ⟨rfl, rfl⟩
            go_wp2
            go_ret
            exact ⟨ret_int HV.out, rfl⟩
          · have h65' : decide (65 ≤ n) = false := by simp; omega
            go_enter Try.func47, Try.ntmps47
            go_wp2_with fail
            refine (H1.out _).mono ?_
            rintro e w' ⟨rfl, rfl⟩
            go_wp2
            go_ret
            exact ⟨ret_int HV.out, rfl⟩
  · rw [hb] at H1 hV hd
    rw [if_pos rfl] at hV
    generalize hn : (c.toNat : Int) = n at *
    have h48 : 48 ≤ n ∧ n ≤ 57 := by
      have := hd.symm
      simpa using this
    have HV : Hid (n - 48 = (V : Int)) := by show _ = _; rw [← hV]; omega
    clear hV hn hd
    obtain ⟨h1, h2⟩ := h48
    go_enter Try.func47, Try.ntmps47
    go_wp2_with fail
    refine (H1.out _).mono ?_
    rintro e w' ⟨rfl, rfl⟩
    go_wp2
    go_ret
    exact ⟨ret_int HV.out, rfl⟩

theorem begin_any (c : UInt8) (w : World) : Calls Try.prog 33 #[.int .u8 (c.toNat : Int)] w fun e w' => e = .returned (.int .i64 (beginP c : Nat)) ∧ w' = w := by
  have H0 : Hid (∀ w, Calls Try.prog 41 #[.int .u8 (c.toNat : Int)] w fun e w' => e = .returned (.bool (blankB c)) ∧ w' = w) := fun w => by rw [← blank_byte]; exact isBlank_any _ w
  have H1 : Hid (∀ w, Calls Try.prog 23 #[.int .u8 (c.toNat : Int)] w fun e w' => e = .returned (.bool (letB c)) ∧ w' = w) := fun w => isLetter_any _ w
  have H2 : Hid (∀ w, Calls Try.prog 38 #[.int .u8 (c.toNat : Int)] w fun e w' => e = .returned (.bool (digB c)) ∧ w' = w) := fun w => isDigit_any _ w
  have H3 : Hid (∀ w, Calls Try.prog 42 #[.int .u8 (c.toNat : Int)] w fun e w' => e = .returned (.bool (signB c)) ∧ w' = w) := fun w => by rw [← sign_byte]; exact isSign_any _ w
  have h4 : (c == 45) = ((c.toNat : Int) == 45) := by
    have := all_bytes (fun c => (c == 45) == ((c.toNat : Int) == 45)) (by decide +kernel) c
    simpa using this
  have h5 : (c == 47) = ((c.toNat : Int) == 47) := by
    have := all_bytes (fun c => (c == 47) == ((c.toNat : Int) == 47)) (by decide +kernel) c
    simpa using this
  unfold beginP
  rw [h4, h5]
  clear h4 h5
  generalize blankB c = b0 at *
  generalize letB c = b1 at *
  generalize digB c = b2 at *
  generalize signB c = b3 at *
  generalize (c.toNat : Int) = n at *
  cases b0
  case true =>
    go_enter Try.func33, Try.ntmps33
    go_wp2_with (first | (go_at_call 41; refine (H0.out _).mono ?_; rintro e w' ⟨rfl, rfl⟩))
    go_ret
    exact ⟨rfl, rfl⟩
  cases b1
  case true =>
    go_enter Try.func33, Try.ntmps33
    go_wp2_with (first | (go_at_call 41; refine (H0.out _).mono ?_; rintro e w' ⟨rfl, rfl⟩) | (go_at_call 23; refine (H1.out _).mono ?_; rintro e w' ⟨rfl, rfl⟩))
    go_ret
    exact ⟨rfl, rfl⟩
  cases b2
  case true =>
    go_enter Try.func33, Try.ntmps33
    go_wp2_with (first | (go_at_call 41; refine (H0.out _).mono ?_; rintro e w' ⟨rfl, rfl⟩) | (go_at_call 23; refine (H1.out _).mono ?_; rintro e w' ⟨rfl, rfl⟩) | (go_at_call 38; refine (H2.out _).mono ?_; rintro e w' ⟨rfl, rfl⟩))
    go_ret
    exact ⟨rfl, rfl⟩
  cases b3
  case true =>
    go_enter Try.func33, Try.ntmps33
    go_wp2_with (first | (go_at_call 41; refine (H0.out _).mono ?_; rintro e w' ⟨rfl, rfl⟩) | (go_at_call 23; refine (H1.out _).mono ?_; rintro e w' ⟨rfl, rfl⟩) | (go_at_call 38; refine (H2.out _).mono ?_; rintro e w' ⟨rfl, rfl⟩) | (go_at_call 42; refine (H3.out _).mono ?_; rintro e w' ⟨rfl, rfl⟩))
    go_ret
    exact ⟨rfl, rfl⟩
  cases h4 : n == 45 <;> cases h5 : n == 47
  all_goals (
    go_enter Try.func33, Try.ntmps33
    go_wp2_with (first | (go_at_call 41; refine (H0.out _).mono ?_; rintro e w' ⟨rfl, rfl⟩) | (go_at_call 23; refine (H1.out _).mono ?_; rintro e w' ⟨rfl, rfl⟩) | (go_at_call 38; refine (H2.out _).mono ?_; rintro e w' ⟨rfl, rfl⟩) | (go_at_call 42; refine (H3.out _).mono ?_; rintro e w' ⟨rfl, rfl⟩))
    go_ret
    exact ⟨rfl, rfl⟩)

end Go.Proofs.Ythnnmgiihpdblab
