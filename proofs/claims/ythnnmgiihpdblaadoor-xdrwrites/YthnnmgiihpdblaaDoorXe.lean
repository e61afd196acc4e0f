/- The document's own bytes of a number, and its padding. -/
import Derived.Test.YthnnmgiihpdblaaDoorXd
namespace Go.Proofs.YthnnmgiihpdblaaDoor
open Go.RowKit

/-- The lowest bits of a whole number. -/
theorem i64_mask (n : Int) (k : Nat) (hk : k < 63) : bits .and .i64 n ((2 ^ k - 1 : Nat) : Int) = n % ((2 ^ k : Nat) : Int) := by
  have hp : 2 ^ k ≤ 2 ^ 62 := Nat.pow_le_pow_right (by omega) (by omega)
  have e62 : (2 : Nat) ^ 62 = 4611686018427387904 := by decide
  have hpos := Nat.two_pow_pos k
  have hm0 := Int.emod_nonneg n (show ((2 ^ k : Nat) : Int) ≠ 0 by omega)
  have hm1 := Int.emod_lt_of_pos n (show (0 : Int) < ((2 ^ k : Nat) : Int) by omega)
  unfold bits
  have e : (BitVec.ofInt IntKind.i64.bits n &&& BitVec.ofInt IntKind.i64.bits ((2 ^ k - 1 : Nat) : Int)).toNat = (n % ((2 ^ k : Nat) : Int)).toNat := by
    rw [BitVec.toNat_and]
    show (BitVec.ofInt 64 n).toNat &&& (BitVec.ofInt 64 ((2 ^ k - 1 : Nat) : Int)).toNat = _
    rw [BitVec.toNat_ofInt, BitVec.toNat_ofInt]
    have h1 : (((2 ^ k - 1 : Nat) : Int) % ((2 ^ 64 : Nat) : Int)).toNat = 2 ^ k - 1 := by
      rw [Int.emod_eq_of_lt (by omega) (by rw [show (2 : Nat) ^ 64 = 18446744073709551616 from by decide]; omega)]; omega
    rw [h1, Nat.and_two_pow_sub_one_eq_mod]
    have h2 : ((n % ((2 ^ 64 : Nat) : Int)).toNat : Int) = n % ((2 ^ 64 : Nat) : Int) := Int.toNat_of_nonneg (Int.emod_nonneg _ (by decide))
    have h3 : (2 ^ k : Nat) ∣ 2 ^ 64 := Nat.pow_dvd_pow 2 (by omega)
    have h4 : n % ((2 ^ 64 : Nat) : Int) % ((2 ^ k : Nat) : Int) = n % ((2 ^ k : Nat) : Int) := Int.emod_emod_of_dvd n (Int.natCast_dvd_natCast.2 h3)
    have h5 : (((n % ((2 ^ 64 : Nat) : Int)).toNat % 2 ^ k : Nat) : Int) = n % ((2 ^ k : Nat) : Int) := by
      rw [Int.natCast_emod, h2, h4]
    omega
  show IntKind.i64.wrap (((BitVec.ofInt IntKind.i64.bits n &&& BitVec.ofInt IntKind.i64.bits ((2 ^ k - 1 : Nat) : Int)).toNat : Nat) : Int) = _
  rw [e, Int.toNat_of_nonneg hm0, IntKind.wrap_i64]
  rw [e62] at hp
  have hlt : n % ((2 ^ k : Nat) : Int) < 4611686018427387904 := by omega
  generalize n % ((2 ^ k : Nat) : Int) = z at *
  omega

theorem i64_and255 (n : Int) : bits .and .i64 n 255 = n % 256 := i64_mask n 8 (by omega)
theorem i64_and3 (n : Int) : bits .and .i64 n 3 = n % 4 := i64_mask n 2 (by omega)

/-- The bytes of a whole number, one below 0 as the number that is so much greater. -/
def byL (S : Nat) (n : Int) : List UInt8 := beL S (n % ((256 ^ S : Nat) : Int)).toNat

theorem by_digit (S t : Nat) (n : Int) (ht : t < S) : (n % ((256 ^ S : Nat) : Int)).toNat / 256 ^ t % 256 = (n / ((256 ^ t : Nat) : Int) % 256).toNat := by
  have hS : (0 : Int) < ((256 ^ S : Nat) : Int) := by have := Nat.pow_pos (n := S) (show 0 < 256 by omega); omega
  have hT : 0 < 256 ^ t := Nat.pow_pos (by omega)
  have h0 := Int.emod_nonneg n (show ((256 ^ S : Nat) : Int) ≠ 0 by omega)
  obtain ⟨j, rfl⟩ : ∃ j, S = t + 1 + j := ⟨S - (t + 1), by omega⟩
  have e : ((256 ^ (t + 1 + j) : Nat) : Int) = ((256 ^ t : Nat) : Int) * (256 * ((256 ^ j : Nat) : Int)) := by
    rw [Nat.add_assoc, Nat.pow_add, Nat.pow_add, Int.natCast_mul, Int.natCast_mul]
    rfl
  have h1 : (n % ((256 ^ (t + 1 + j) : Nat) : Int)) / ((256 ^ t : Nat) : Int) % 256 = n / ((256 ^ t : Nat) : Int) % 256 := by
    rw [e]
    have hT' : (0 : Int) < ((256 ^ t : Nat) : Int) := by omega
    generalize ((256 ^ t : Nat) : Int) = T at *
    generalize ((256 ^ j : Nat) : Int) = J at *
    have e1 : n % (T * (256 * J)) = n + T * (256 * (-(J * (n / (T * (256 * J)))))) := by
      rw [Int.emod_def, Int.mul_neg, Int.mul_neg, ← Int.sub_eq_add_neg, Int.mul_assoc, Int.mul_assoc]
    rw [e1, Int.add_mul_ediv_left _ _ (by omega), Int.add_mul_emod_self_left]
  have h2 : (((n % ((256 ^ (t + 1 + j) : Nat) : Int)).toNat / 256 ^ t % 256 : Nat) : Int) = n / ((256 ^ t : Nat) : Int) % 256 := by
    rw [Int.natCast_emod, Int.natCast_ediv, Int.toNat_of_nonneg h0]
    exact h1
  omega

theorem div_step (n : Int) (k : Nat) : n / ((256 ^ k : Nat) : Int) / 256 = n / ((256 ^ (k + 1) : Nat) : Int) := by
  have hT : 0 < 256 ^ k := Nat.pow_pos (by omega)
  rw [Nat.pow_succ, Int.natCast_mul, Int.ediv_ediv_of_nonneg (by omega)]
  rfl

set_option maxRecDepth 4000 in
set_option maxHeartbeats 2000000 in
theorem By_any (S : Nat) (Z : Array Value) (n : Int) (w : World) (hS0 : 1 ≤ S) (hS : S ≤ 8) (hn0 : -9223372036854775808 ≤ n) (hn1 : n ≤ 9223372036854775807)
    (hmk : ∀ w, (Instr.makeSlice 75 (.int .i64 (S : Int)) (.int .i64 (S : Int))).run Tryd.prog w = .ok (.slice (some ⟨w.heap.size, 0, none⟩) S S) (w.alloc (.cells Z 5)))
    (hst : ∀ w : World, Go.Sort.Holds encB (w.alloc (.cells Z 5)) w.heap.size 0 (Array.replicate S (0 : UInt8))) :
    Calls Tryd.prog 108 #[.int .i64 n, .int .i64 (S : Int)] w fun e w' => e = .returned (B (byL S n)) ∧ Below w.heap.size w w' := by
  have HST : Hid (Go.Sort.Holds encB (w.alloc (.cells Z 5)) w.heap.size 0 (Array.replicate S (0 : UInt8))) := hst w
  have HN : Hid (-9223372036854775808 ≤ n ∧ n ≤ 9223372036854775807) := ⟨hn0, hn1⟩
  clear hst hn0 hn1
  unfold B
  go_enter Tryd.func108, Tryd.ntmps108
  go_wp2
  go_loopw [0, 6] (fun vn vi wr => ∃ (k : Nat) (N i : Int) (d : Array UInt8), vn = .int .i64 N ∧ vi = .int .i64 i ∧ Hid (i = (S : Int) - 1 - k) ∧ i < (S : Int) ∧ -1 ≤ i ∧ k ≤ S ∧ -9223372036854775808 ≤ N ∧ N ≤ 9223372036854775807 ∧ Hid (N = n / ((256 ^ k : Nat) : Int)) ∧ Hid (d.size = S) ∧ Hid (Go.Sort.Holds encB wr w.heap.size 0 d) ∧ Hid (Below w.heap.size w wr) ∧ Hid (∀ t, t < k → d[S - 1 - t]! = UInt8.ofNat (n / ((256 ^ t : Nat) : Int) % 256).toNat)) (fun _ vi _ => (intOf vi + 2).toNat)
  case atStart =>
    exact ⟨0, n, (S : Int) - 1, Array.replicate S 0, rfl, rfl, (show (S : Int) - 1 = (S : Int) - 1 - ((0 : Nat) : Int) from by omega), by omega, by omega, by omega, HN.out.1, HN.out.2, (show n = n / ((256 ^ 0 : Nat) : Int) from by simp), (show (Array.replicate S (0 : UInt8)).size = S from by simp), HST.out, (Below.refl _ _).alloc (Nat.le_refl _) _, fun t ht => by omega⟩
  case round =>
    obtain ⟨k, N, i, d, rfl, rfl, HI, hiS, hi1, hk, hN0, hN1, HNe, HS, HH, HB, HD⟩ := hrel
    have HK : Hid (k ≤ S) := hk
    clear hk
    by_cases hi0 : 0 ≤ i
    · obtain ⟨zn, hzn⟩ : ∃ zn : Nat, i = (zn : Int) := ⟨i.toNat, by omega⟩
      subst hzn
      have hzs : zn < d.size := by rw [HS.out]; omega
      obtain ⟨hcell, hfro⟩ := HH.out zn hzs
      rw [Nat.zero_add] at hcell hfro
      obtain ⟨v, hv⟩ : ∃ v : Int, N % 256 = v := ⟨_, rfl⟩
      have hand : bits .and .i64 N 255 = v := by rw [i64_and255, hv]
      have hv0 : 0 ≤ v := by omega
      have hv1 : v < 256 := by omega
      clear hv hmk
      have hcn : v = ((UInt8.ofNat v.toNat).toNat : Int) := by rw [UInt8.toNat_ofNat_of_lt' (show v.toNat < 256 by omega)]; omega
      have HNx : Hid (Go.Sort.Holds encB (wr.setCell ⟨w.heap.size, zn, none⟩ (.int .u8 v)) w.heap.size 0 (d.setIfInBounds zn (UInt8.ofNat v.toNat))) := by
        show Go.Sort.Holds encB (wr.setCell ⟨w.heap.size, zn, none⟩ (.int .u8 v)) w.heap.size 0 (d.setIfInBounds zn (UInt8.ofNat v.toNat))
        have := holds_store (c := UInt8.ofNat v.toNat) HH.out hzs
        rw [← hcn] at this
        exact this
      have HV : Hid (v = N % 256) := by show v = N % 256; rw [← hand, i64_and255]
      clear hcn
      go_wp2
      go_roundw
      case rel =>
        have hI := HI.out
        have hk := HK.out
        refine ⟨k + 1, N / 256, (zn : Int) - 1, d.setIfInBounds zn (UInt8.ofNat v.toNat), by first | rfl | go_num, by first | rfl | go_num, (show (zn : Int) - 1 = (S : Int) - 1 - ((k + 1 : Nat) : Int) from by omega), by omega, by omega, by omega, by omega, by omega, ?_, ?_, HNx.out, HB.out.setCell (Nat.le_refl _) _, ?_⟩
        · show N / 256 = _
          rw [HNe.out, div_step]
        · show (d.setIfInBounds zn (UInt8.ofNat v.toNat)).size = S
          rw [Array.size_setIfInBounds]; exact HS.out
        · intro t ht
          have hSz := HS.out
          have hI := HI.out
          have hk := HK.out
          by_cases htk : t = k
          · subst htk
            have e : S - 1 - t = zn := by omega
            rw [e, Go.Sort.getElem!_set_same _ _ _ hzs, HV.out, HNe.out]
          · rw [Go.Sort.getElem!_set_other _ _ _ _ (by omega)]
            exact HD.out t (by omega)
      case measure => simp [intOf]; omega
    · have hk2 : k = S := by have := HI.out; have := HK.out; omega
      have hcv : (convert 75 9 (.slice (some ⟨w.heap.size, 0, none⟩) S S)).run Tryd.prog wr = .ok (.string ⟨(byL S n).toArray⟩) wr := by
        have h := run_convert_bytes_back (P := Tryd.prog) wr 75 9 5 ⟨w.heap.size, 0, none⟩ S (byL S n) Tryd.underlying75 Tryd.underlying5 Tryd.underlying9 (fun t ht => by
          have ht2 : t < S := by unfold byL at ht; rw [beL_len] at ht; exact ht
          have hc := (HH.out t (by rw [HS.out]; exact ht2)).1
          have ea : (Addr.add ⟨w.heap.size, 0, none⟩ t) = ⟨w.heap.size, 0 + t, none⟩ := Lib.add_plain _ _ _
          rw [ea, hc]
          have hd := HD.out (S - 1 - t) (by omega)
          rw [show S - 1 - (S - 1 - t) = t from by omega] at hd
          rw [hd]
          show some (Value.int .u8 ((UInt8.ofNat (n / ((256 ^ (S - 1 - t) : Nat) : Int) % 256).toNat).toNat : Int)) = _
          have hgt : (byL S n)[t]'ht = UInt8.ofNat ((n % ((256 ^ S : Nat) : Int)).toNat / 256 ^ (S - 1 - t) % 256) := beL_get S _ t ht2
          rw [hgt, by_digit S (S - 1 - t) n (by omega)])
        unfold byL at h
        rw [beL_len] at h
        exact h
      clear hmk
      go_wp2
      go_ret
      exact ⟨rfl, HB.out⟩

def zeroB (k : Nat) : Array Value := Array.replicate k (.int .u8 0)
theorem holds_zero (k : Nat) (w : World) : Go.Sort.Holds encB (w.alloc (.cells (zeroB k) 5)) w.heap.size 0 (Array.replicate k (0 : UInt8)) := by
  intro j hj
  rw [Array.size_replicate] at hj
  refine ⟨?_, World.frozen?_alloc_new _ _ _ _⟩
  rw [World.cell?_alloc_new, Nat.zero_add]
  simp [encB, zeroB, hj]

theorem By4 (n : Int) (w : World) (h0 : -9223372036854775808 ≤ n) (h1 : n ≤ 9223372036854775807) : Calls Tryd.prog 108 #[.int .i64 n, .int .i64 4] w fun e w' => e = .returned (B (byL 4 n)) ∧ Below w.heap.size w w' :=
  By_any 4 (zeroB 4) n w (by omega) (by omega) h0 h1 (fun w => by kernel_rfl) (holds_zero 4)
theorem By8 (n : Int) (w : World) (h0 : -9223372036854775808 ≤ n) (h1 : n ≤ 9223372036854775807) : Calls Tryd.prog 108 #[.int .i64 n, .int .i64 8] w fun e w' => e = .returned (B (byL 8 n)) ∧ Below w.heap.size w w' :=
  By_any 8 (zeroB 8) n w (by omega) (by omega) h0 h1 (fun w => by kernel_rfl) (holds_zero 8)

/-- The noughts behind so many bytes. -/
def padL (n : Nat) : List UInt8 := List.replicate (padN n) 0

theorem padding_any (n : Nat) (w : World) (h : (n : Int) ≤ 9223372036854775807) : Calls Tryd.prog 100 #[.int .i64 n] w fun e w' => e = .returned (B (padL n)) ∧ w' = w := by
  have hz : bits .and .i64 (-(n : Int)) 3 = ((padN n : Nat) : Int) := by
    rw [i64_and3]; unfold padN; omega
  have hp : padN n ≤ 3 := by unfold padN; omega
  have r := padding_core (n : Int) _ w (by omega) h hz (by omega) (by omega)
  rw [Int.toNat_natCast, noughts3 _ hp] at r
  exact r

theorem mk_small (k : Nat) (h : k ≤ 3) (w : World) : (Instr.makeSlice 75 (.int .i64 (k : Int)) (.int .i64 (k : Int))).run Tryd.prog w = .ok (.slice (some ⟨w.heap.size, 0, none⟩) k k) (w.alloc (.cells (zeroB k) 5)) := by
  rcases (by omega : k = 0 ∨ k = 1 ∨ k = 2 ∨ k = 3) with rfl | rfl | rfl | rfl <;> kernel_rfl

theorem back_small (k : Nat) (w : World) : (convert 75 9 (.slice (some ⟨w.heap.size, 0, none⟩) k k)).run Tryd.prog (w.alloc (.cells (zeroB k) 5)) = .ok (.string ⟨(List.replicate k (0 : UInt8)).toArray⟩) (w.alloc (.cells (zeroB k) 5)) := by
  have h := run_convert_bytes_back (P := Tryd.prog) (w.alloc (.cells (zeroB k) 5)) 75 9 5 ⟨w.heap.size, 0, none⟩ k (List.replicate k (0 : UInt8)) Tryd.underlying75 Tryd.underlying5 Tryd.underlying9 (fun t ht => by
    have ht2 : t < k := by rw [List.length_replicate] at ht; exact ht
    have ea : (Addr.add ⟨w.heap.size, 0, none⟩ t) = ⟨w.heap.size, 0 + t, none⟩ := Lib.add_plain _ _ _
    rw [ea, (holds_zero k w t (by rw [Array.size_replicate]; exact ht2)).1]
    simp [encB, ht2])
  rw [List.length_replicate] at h
  exact h

set_option maxHeartbeats 400000 in
theorem Padding_core (n m z : Int) (w w1 : World) (v : Value) (t : ByteArray) (_hz0 : 0 ≤ z) (_hz1 : z ≤ 3) (hm0 : 0 ≤ m) (hm1 : m ≤ 3) (hm : n.tmod 4 = m) (hz : (4 - m).tmod 4 = z)
    (hmk : (Instr.makeSlice 75 (.int .i64 z) (.int .i64 z)).run Tryd.prog w = .ok v w1) (hcv : (convert 75 9 v).run Tryd.prog w1 = .ok (.string t) w1) :
    Calls Tryd.prog 111 #[.int .i64 n] w fun e w' => e = .returned (.string t) ∧ w' = w1 := by
  go_enter Tryd.func111, Tryd.ntmps111
  go_wp2
  go_ret
  exact ⟨rfl, rfl⟩

theorem Padding_any (n : Nat) (w : World) : Calls Tryd.prog 111 #[.int .i64 n] w fun e w' => e = .returned (B (padL n)) ∧ Below w.heap.size w w' := by
  have hp : padN n ≤ 3 := by unfold padN; omega
  have h1 : (n : Int).tmod 4 = ((n % 4 : Nat) : Int) := by rw [Int.tmod_eq_emod_of_nonneg (by omega)]; omega
  have h2 : (4 - ((n % 4 : Nat) : Int)).tmod 4 = ((padN n : Nat) : Int) := by
    rw [Int.tmod_eq_emod_of_nonneg (by omega)]; unfold padN; omega
  refine (Padding_core (n : Int) _ _ w _ _ _ (by omega) (by omega) (by omega) (by omega) h1 h2 (mk_small _ hp w) (back_small _ w)).mono fun e w' ⟨a, b⟩ => ⟨a, ?_⟩
  rw [b]; exact (Below.refl _ _).alloc (Nat.le_refl _) _

end Go.Proofs.YthnnmgiihpdblaaDoor
