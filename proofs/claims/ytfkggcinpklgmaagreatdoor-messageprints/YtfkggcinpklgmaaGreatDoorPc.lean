/- The law's own functions: numbers and texts made fit. -/
import Derived.Test.YtfkggcinpklgmaaGreatDoorPb
import Derived.Deep.RegionHeld3
import Derived.Lib.MinMax
namespace Go.Proofs.YtfkggcinpklgmaaGreatDoor
open Go.RowKit
def pickP (c n : Int) : Int := (if c < 0 then -(c + 1) else c) % n
theorem pick_range (c n : Int) (h : 0 < n) : 0 ≤ pickP c n ∧ pickP c n < n := ⟨Int.emod_nonneg _ (by omega), Int.emod_lt_of_pos _ h⟩
theorem pick_word (c : Int) : isW (pickP c 4294967296) := by
  have := pick_range c 4294967296 (by decide)
  exact ⟨this.1, by omega⟩
theorem pick_any (c n : Int) (w : World) (h0 : -9223372036854775808 ≤ c) (h1 : c ≤ 9223372036854775807) (hn0 : 1 ≤ n) (hn1 : n ≤ 9223372036854775807) :
    Calls Tryz.prog 14 #[.int .i64 c, .int .i64 n] w fun e w' => e = .returned (.int .i64 (pickP c n)) ∧ w' = w := by
  unfold pickP
  by_cases hc : c < 0
  · rw [if_pos hc]
    obtain ⟨d, hd⟩ : ∃ d, -(c + 1) = d := ⟨_, rfl⟩
    rw [hd]
    have hd0 : 0 ≤ d := by omega
    have hd1 : d ≤ 9223372036854775807 := by omega
    go_enter Tryz.func14, Tryz.ntmps14
    go_wp2
    go_ret
    exact ⟨by rw [← hd]; rfl, rfl⟩
  · rw [if_neg hc]
    go_enter Tryz.func14, Tryz.ntmps14
    go_wp2
    go_ret
    exact ⟨rfl, rfl⟩
def fourP (s : List UInt8) : List UInt8 := s.take (min s.length 1000 - min s.length 1000 % 4)
theorem four_plain (s : List UInt8) : plainB (fourP s) := by
  unfold plainB fourP
  rw [List.length_take]
  omega
theorem extract_take (s : List UInt8) (k : Nat) : (⟨s.toArray⟩ : ByteArray).extract 0 k = ⟨(s.take k).toArray⟩ := by
  rw [ByteArray.extract_mk]
  simp
theorem four_any (s : List UInt8) (w : World) (hl : s.length ≤ 281474976710656) :
    Calls Tryz.prog 34 #[.string ⟨s.toArray⟩, .int .i64 1000] w fun e w' => e = .returned (.string ⟨(fourP s).toArray⟩) ∧ w' = w := by
  obtain ⟨n, hn⟩ : ∃ n, s.length = n := ⟨_, rfl⟩
  obtain ⟨m, hm⟩ : ∃ m : Nat, min n 1000 = m := ⟨_, rfl⟩
  have hsz : (⟨s.toArray⟩ : ByteArray).size = n := (ba_size s).trans hn
  have hmi : min (n : Int) 1000 = (m : Int) := by omega
  have hm1 : m ≤ n := by omega
  have hm2 : m ≤ 1000 := by omega
  unfold fourP
  rw [← extract_take, hn, hm]
  generalize (⟨s.toArray⟩ : ByteArray) = S at *
  have h4 : ((m : Int) - (m : Int) % 4) = ((m - m % 4 : Nat) : Int) := by omega
  clear hm
  subst hsz
  go_enter Tryz.func34, Tryz.ntmps34
  go_wp2
  go_ret
  exact ⟨rfl, rfl⟩
def autP (a : AuthP) : AuthP := ⟨pickP a.flavor 4294967296, a.body.take (min a.body.length 400)⟩
theorem aut_may (a : AuthP) : (autP a).may := ⟨pick_word _, by unfold autP; rw [List.length_take]; omega⟩
end Go.Proofs.YtfkggcinpklgmaaGreatDoor
