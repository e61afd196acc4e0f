/- scriptWeighs: how many bytes a script's calls may lay down. -/
import Derived.Test.YthnnmgiihpdblaaDoorXw
namespace Go.Proofs.YthnnmgiihpdblaaDoor
open Go.RowKit

/-- so many bytes at the most, of the first calls -/
def wsum (T : Nat → ByteArray) : Nat → Nat
  | 0 => 0
  | k + 1 => wsum T k + (16 + (T k).size)
theorem wsum_mono (T : Nat → ByteArray) (k n : Nat) (h : k ≤ n) : wsum T k ≤ wsum T n := by
  induction n with
  | zero => obtain rfl : k = 0 := by omega
            exact Nat.le_refl _
  | succ n ih =>
    rcases Nat.lt_or_ge k (n + 1) with h1 | h1
    · have := ih (by omega)
      show wsum T k ≤ wsum T n + (16 + (T n).size)
      omega
    · obtain rfl : k = n + 1 := by omega
      exact Nat.le_refl _

def addF (a b : Int) : Int := if 2147483647 < a ∨ 2147483647 < b then 2147483648 else a + b
theorem addsUp_any (a b : Int) (w : World) (ha0 : 0 ≤ a) (hb0 : 0 ≤ b) : Calls Tryd.prog 54 #[.int .i64 a, .int .i64 b] w fun e w' => e = .returned (.int .i64 (addF a b)) ∧ w' = w := by
  unfold addF
  by_cases h : 2147483647 < a ∨ 2147483647 < b
  · rw [if_pos h]; exact addsUp_over a b w h
  · rw [if_neg h]; exact addsUp_fits a b w ha0 hb0 (by omega) (by omega)

set_option maxRecDepth 4000 in
set_option maxHeartbeats 4000000 in
theorem weighs_any (oa : Option Addr) (b off len cap : Nat) (T : Nat → ByteArray) (w : World) (hoa : 0 < len → oa = some ⟨b, off, none⟩) (hc : ∀ i, i < len → w.cell? ⟨b, off + i * 7 + 4, none⟩ = some (.string (T i)))
    (hlen : (len : Int) ≤ 9223372036854775807) :
    Calls Tryd.prog 36 #[.slice oa len cap] w fun e w' => ∃ n : Int, e = .returned (.int .i64 n) ∧ w' = w ∧ (n ≤ 2147483647 → n = (len : Int) + (wsum T len : Int)) := by
  have HC : Hid (∀ i, i < len → w.cell? ⟨b, off + i * 7 + 4, none⟩ = some (.string (T i))) := hc
  have HO : Hid (0 < len → oa = some ⟨b, off, none⟩) := hoa
  have HA : Hid (∀ (a b : Int) (w : World), 0 ≤ a → 0 ≤ b → Calls Tryd.prog 54 #[.int .i64 a, .int .i64 b] w fun e w' => e = .returned (.int .i64 (addF a b)) ∧ w' = w) := addsUp_any
  obtain ⟨n0, hn0⟩ : ∃ n0 : Int, addF 0 (len : Int) = n0 := ⟨_, rfl⟩
  have HN0 : Hid (0 ≤ n0 ∧ (n0 ≤ 2147483647 → n0 = (len : Int))) := by
    subst hn0
    unfold addF
    refine ⟨by split <;> omega, fun h => ?_⟩
    split at h
    · omega
    · rw [if_neg (by assumption)]; omega
  have H0 : Hid (Calls Tryd.prog 54 #[.int .i64 0, .int .i64 (len : Int)] w fun e w' => e = .returned (.int .i64 n0) ∧ w' = w) := by
    have := addsUp_any 0 (len : Int) w (by omega) (by omega)
    rw [hn0] at this
    exact this
  clear hn0 hc hoa
  go_enter Tryd.func36, Tryd.ntmps36
  go_wp2_with fail
  refine H0.out.mono ?_
  rintro e w' ⟨rfl, hw'⟩
  have hw2 := hw'.symm
  clear hw'
  subst hw2
  go_wp2_with fail
  go_loop [3, 4] (fun sz ix => ∃ (k : Nat) (Z : Int), ix = .int .i64 k ∧ sz = .int .i64 Z ∧ k ≤ len ∧ 0 ≤ Z ∧ Hid (Z ≤ 2147483647 → Z = (len : Int) + (wsum T k : Int))) (fun _ ix => len - (intOf ix).toNat)
  case atStart => exact ⟨0, n0, rfl, rfl, by omega, HN0.out.1, (show n0 ≤ 2147483647 → n0 = (len : Int) + ((0 : Nat) : Int) from fun h => by have := HN0.out.2 h; omega)⟩
  case round =>
    obtain ⟨k, Z, rfl, rfl, hk, hZ0, HZ⟩ := hrel
    by_cases hlt : k < len
    · by_cases hZ : Z ≤ 2147483647
      · obtain rfl := HO.out (by omega)
        have hcell := HC.out k hlt
        obtain ⟨t, ht⟩ : ∃ t, T k = t := ⟨_, rfl⟩
        rw [ht] at hcell
        obtain ⟨y, hy⟩ : ∃ y : Int, addF 16 (t.size : Int) = y := ⟨_, rfl⟩
        obtain ⟨z, hz⟩ : ∃ z : Int, addF Z y = z := ⟨_, rfl⟩
        have hy0 : 0 ≤ y := by subst hy; unfold addF; split <;> omega
        have hz0 : 0 ≤ z := by subst hz; unfold addF; split <;> omega
        have HZ2 : Hid (z ≤ 2147483647 → z = (len : Int) + (wsum T (k + 1) : Int)) := by
          show z ≤ 2147483647 → z = (len : Int) + ((wsum T k + (16 + (T k).size) : Nat) : Int)
          intro h1
          rw [ht]
          have h2 := HZ.out hZ
          subst hz
          unfold addF at h1 hy ⊢
          split at h1
          · omega
          · rename_i h3
            rw [if_neg h3]
            split at hy
            · omega
            · omega
        have H1 : Hid (Calls Tryd.prog 54 #[.int .i64 16, .int .i64 (t.size : Int)] w fun e w' => e = .returned (.int .i64 y) ∧ w' = w) := by
          have := addsUp_any 16 (t.size : Int) w (by omega) (by omega)
          rw [hy] at this
          exact this
        have H2 : Hid (Calls Tryd.prog 54 #[.int .i64 Z, .int .i64 y] w fun e w' => e = .returned (.int .i64 z) ∧ w' = w) := by
          have := addsUp_any Z y w hZ0 hy0
          rw [hz] at this
          exact this
        clear hy hz ht
        go_wp2_with fail
        refine H1.out.mono ?_
        rintro e w' ⟨rfl, hw'⟩
        have hw2 := hw'.symm
        clear hw'
        subst hw2
        go_wp2_with fail
        refine H2.out.mono ?_
        rintro e w' ⟨rfl, hw'⟩
        have hw2 := hw'.symm
        clear hw'
        subst hw2
        go_wp2
        go_round
        case rel => exact ⟨k + 1, z, by go_num, rfl, by omega, hz0, HZ2.out⟩
        case measure => simp [intOf]; omega
      · go_wp2
        go_ret
        exact ⟨Z, rfl, rfl, fun h => by omega⟩
    · obtain rfl : k = len := by omega
      go_wp2
      go_ret
      exact ⟨Z, rfl, rfl, HZ.out⟩

end Go.Proofs.YthnnmgiihpdblaaDoor
