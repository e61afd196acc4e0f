/- Services: small functions. -/
import Derived.Test.YtcpjihaicmlmjaaPSa
namespace Go.Proofs.Ytcpjihaicmlmjaa
open Go.RowKit
def isW (n : Int) : Bool := decide (0 ≤ n) && decide (n ≤ 4294967295)
theorem word_any (n : Int) (w : World) : Calls Try.prog 37 #[.int .i64 n] w fun e w' => e = .returned (.bool (isW n)) ∧ w' = w := by
  unfold isW
  cases h1 : decide (0 ≤ n) <;> cases h2 : decide (n ≤ 4294967295)
  all_goals (
    go_enter Try.func37, Try.ntmps37
    go_wp2
    go_ret
    exact ⟨rfl, rfl⟩)
def pickP (c n : Int) : Int := (if c < 0 then -(c + 1) else c) % n
theorem pick_range (c n : Int) (h : 0 < n) : 0 ≤ pickP c n ∧ pickP c n < n := ⟨Int.emod_nonneg _ (by omega), Int.emod_lt_of_pos _ h⟩
theorem pick_any (c n : Int) (w : World) (h0 : -9223372036854775808 ≤ c) (h1 : c ≤ 9223372036854775807) (hn0 : 1 ≤ n) (hn1 : n ≤ 9223372036854775807) :
    Calls Try.prog 13 #[.int .i64 c, .int .i64 n] w fun e w' => e = .returned (.int .i64 (pickP c n)) ∧ w' = w := by
  unfold pickP
  by_cases hc : c < 0
  · rw [if_pos hc]
    obtain ⟨d, hd⟩ : ∃ d, -(c + 1) = d := ⟨_, rfl⟩
    rw [hd]
    have hd0 : 0 ≤ d := by omega
    have hd1 : d ≤ 9223372036854775807 := by omega
    go_enter Try.func13, Try.ntmps13
    go_wp2
    go_ret
    exact ⟨by rw [← hd]; rfl, rfl⟩
  · rw [if_neg hc]
    go_enter Try.func13, Try.ntmps13
    go_wp2
    go_ret
    exact ⟨rfl, rfl⟩
theorem nan_any (n : Int) (w : World) : Calls Try.prog 40 #[.int .i64 n] w fun e w' => e = .returned (.bool false) ∧ w' = w := by
  have h : (n != n) = false := by simp
  go_enter Try.func40, Try.ntmps40
  go_wp2
  go_ret
  exact ⟨by simp, rfl⟩
theorem nan2_any (n : Int) (w : World) : Calls Try.prog 42 #[.int .i64 n] w fun e w' => e = .returned (.bool false) ∧ w' = w := by
  have h : (n != n) = false := by simp
  go_enter Try.func42, Try.ntmps42
  go_wp2
  go_ret
  exact ⟨by simp, rfl⟩
theorem less_any (a b : Int) (w : World) : Calls Try.prog 39 #[.int .i64 a, .int .i64 b] w fun e w' => e = .returned (.bool (decide (a < b))) ∧ w' = w := by
  have H := hid (fun w => nan2_any a w)
  cases h : decide (a < b)
  all_goals (
    go_enter Try.func39, Try.ntmps39
    go_wp2_with fail
    refine (H.out _).mono ?_
    rintro _ w' ⟨rfl, hw'⟩
    subst hw'
    go_wp2
    go_ret
    exact ⟨rfl, rfl⟩)
def okR (n : Nat) : Bool := decide (n ≤ 1000) && decide (n % 4 = 0)
theorem results_any (s : ByteArray) (w : World) : Calls Try.prog 33 #[.string s] w fun e w' => e = .returned (.bool (okR s.size)) ∧ w' = w := by
  obtain ⟨n, hn⟩ : ∃ n : Int, (s.size : Int) = n := ⟨_, rfl⟩
  have e : okR s.size = (decide (n ≤ 1000) && (n % 4 == 0)) := by
    unfold okR
    rw [← hn, show ((s.size : Int) % 4 == 0) = decide ((s.size : Int) % 4 = 0) from rfl]
    congr 1 <;> rw [decide_eq_decide] <;> omega
  rw [e]
  have hn0 : 0 ≤ n := by omega
  have hm : n.tmod 4 = n % 4 := Int.tmod_eq_emod_of_nonneg hn0
  obtain ⟨m, hm2⟩ : ∃ m, n % 4 = m := ⟨_, rfl⟩
  rw [hm2] at hm ⊢
  clear e hm2
  cases h1 : decide (n ≤ 1000)
  all_goals (
    go_enter Try.func33, Try.ntmps33
    go_wp2
    go_ret
    exact ⟨rfl, rfl⟩)
def nullP (s : List UInt8) : Int := if s = [] then 0 else 4
theorem doNothing_any (s : List UInt8) (w : World) : Calls Try.prog 23 #[.string ⟨s.toArray⟩] w fun e w' => e = .returned (.int .i64 (nullP s)) ∧ w' = w := by
  cases s with
  | nil =>
    go_enter Try.func23, Try.ntmps23
    go_wp2
    go_ret
    exact ⟨rfl, rfl⟩
  | cons a s =>
    go_enter Try.func23, Try.ntmps23
    go_wp2
    go_ret
    exact ⟨rfl, rfl⟩
theorem null_any (s : List UInt8) (w : World) : Calls Try.prog 26 #[.string ⟨s.toArray⟩] w fun e w' => e = .returned (.int .i64 (nullP s)) ∧ w' = w := by
  cases s with
  | nil =>
    go_enter Try.func26, Try.ntmps26
    go_wp2
    go_ret
    exact ⟨rfl, rfl⟩
  | cons a s =>
    go_enter Try.func26, Try.ntmps26
    go_wp2
    go_ret
    exact ⟨rfl, rfl⟩
theorem new_any (w : World) : Calls Try.prog 6 #[] w fun e w' => e = .returned (ptr w.heap.size) ∧ w' = w.alloc (.cells #[.slice none 0 0] 52) := by
  go_enter Try.func6, Try.ntmps6
  go_wp2
  go_ret
  exact ⟨rfl, rfl⟩
end Go.Proofs.Ytcpjihaicmlmjaa
