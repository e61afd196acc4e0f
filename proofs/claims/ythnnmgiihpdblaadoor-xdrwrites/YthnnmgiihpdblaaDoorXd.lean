/- Numbers by bytes, the highest first: the program's way and the document's own. -/
import Derived.Test.YthnnmgiihpdblaaDoorW13
import Derived.Deep.QuietTactic
import Derived.BigQuiet
namespace Go.Proofs.YthnnmgiihpdblaaDoor
open Go.RowKit

theorem size_bytes (l : List UInt8) : (⟨l.toArray⟩ : ByteArray).size = l.length := by
  show l.toArray.size = _
  simp
theorem c64_lt (x : Nat) (h : x < 18446744073709551616) : c64 x < 18446744073709551616 := by
  cases hx : nan64 x with
  | true => rw [c64_nan x hx]; omega
  | false => rw [c64_num x hx]; exact h

/-- A number by k bytes, the highest first. -/
def beL (k n : Nat) : List UInt8 := (List.range k).map fun t => UInt8.ofNat (n / 256 ^ (k - 1 - t) % 256)
theorem beL_len (k n : Nat) : (beL k n).length = k := by simp [beL]
theorem beL_get (k n t : Nat) (h : t < k) : (beL k n)[t]'(by rw [beL_len]; exact h) = UInt8.ofNat (n / 256 ^ (k - 1 - t) % 256) := by simp [beL]
theorem byte_nat (x : Nat) : ((UInt8.ofNat (x % 256)).toNat : Int) = (x : Int) % 256 := by
  rw [UInt8.toNat_ofNat_of_lt' (show x % 256 < 256 by omega)]; omega

theorem four_cells (n : Nat) (w : World) (b0 b1 b2 b3 : Int) (h0 : b0 = (n : Int) / 16777216 % 256) (h1 : b1 = (n : Int) / 65536 % 256) (h2 : b2 = (n : Int) / 256 % 256) (h3 : b3 = (n : Int) % 256) :
    (convert 75 9 (.slice (some ⟨w.heap.size, 0, none⟩) 4 4)).run Tryd.prog (w.alloc (.cells #[.int .u8 b0, .int .u8 b1, .int .u8 b2, .int .u8 b3] 5)) = .ok (.string ⟨(beL 4 n).toArray⟩) (w.alloc (.cells #[.int .u8 b0, .int .u8 b1, .int .u8 b2, .int .u8 b3] 5)) := by
  have h := run_convert_bytes_back (P := Tryd.prog) (w.alloc (.cells #[.int .u8 b0, .int .u8 b1, .int .u8 b2, .int .u8 b3] 5)) 75 9 5 ⟨w.heap.size, 0, none⟩ 4 (beL 4 n) Tryd.underlying75 Tryd.underlying5 Tryd.underlying9 (fun t ht => by
    have ht2 : t < 4 := by rw [beL_len] at ht; exact ht
    have ea : (Addr.add ⟨w.heap.size, 0, none⟩ t) = ⟨w.heap.size, 0 + t, none⟩ := Lib.add_plain _ _ _
    rw [ea, World.cell?_alloc_new, beL_get 4 n t ht2, byte_nat]
    rcases (by omega : t = 0 ∨ t = 1 ∨ t = 2 ∨ t = 3) with rfl | rfl | rfl | rfl
    · show some (Value.int .u8 b0) = _
      rw [h0, show (n : Int) / 16777216 % 256 = ((n / 256 ^ (4 - 1 - 0) : Nat) : Int) % 256 from by rw [show (256 : Nat) ^ (4 - 1 - 0) = 16777216 from by decide]; omega]
    · show some (Value.int .u8 b1) = _
      rw [h1, show (n : Int) / 65536 % 256 = ((n / 256 ^ (4 - 1 - 1) : Nat) : Int) % 256 from by rw [show (256 : Nat) ^ (4 - 1 - 1) = 65536 from by decide]; omega]
    · show some (Value.int .u8 b2) = _
      rw [h2, show (n : Int) / 256 % 256 = ((n / 256 ^ (4 - 1 - 2) : Nat) : Int) % 256 from by rw [show (256 : Nat) ^ (4 - 1 - 2) = 256 from by decide]; omega]
    · show some (Value.int .u8 b3) = _
      rw [h3, show (n : Int) % 256 = ((n / 256 ^ (4 - 1 - 3) : Nat) : Int) % 256 from by rw [show (256 : Nat) ^ (4 - 1 - 3) = 1 from by decide]; omega])
  rw [beL_len] at h
  exact h

set_option maxRecDepth 4000 in
set_option maxHeartbeats 400000 in
theorem fourBytes_any (n : Nat) (w : World) (hn : n < 4294967296) :
    Calls Tryd.prog 98 #[.int .u32 n] w fun e w' => e = .returned (B (beL 4 n)) ∧ Below w.heap.size w w' := by
  obtain ⟨N, hN⟩ : ∃ N : Int, (n : Int) = N := ⟨_, rfl⟩
  have hN0 : 0 ≤ N := by omega
  have hN1 : N < 4294967296 := by omega
  have hcv := four_cells n w (N / 16777216) (N / 65536 % 256) (N / 256 % 256) (N % 256) (by rw [hN]; omega) (by rw [hN]) (by rw [hN]) (by rw [hN])
  rw [hN]
  clear hN hn
  unfold B
  go_enter Tryd.func98, Tryd.ntmps98
  go_wp2
  go_ret
  exact ⟨rfl, (Below.refl _ _).alloc (Nat.le_refl _) _⟩

theorem beL_eight (n : Nat) : beL 4 (n / 4294967296 % 4294967296) ++ beL 4 (n % 4294967296) = beL 8 n := by
  apply List.ext_getElem
  · rw [List.length_append, beL_len, beL_len, beL_len]
  · intro t h1 h2
    rw [beL_len] at h2
    rw [List.getElem_append]
    have key : ∀ t : Fin 8, ∀ n : Nat, (if t.val < 4 then n / 4294967296 % 4294967296 / 256 ^ (4 - 1 - t.val) % 256 else n % 4294967296 / 256 ^ (4 - 1 - (t.val - 4)) % 256) = n / 256 ^ (8 - 1 - t.val) % 256 := by
      intro t n
      rcases t with ⟨t, ht⟩
      rcases (by omega : t = 0 ∨ t = 1 ∨ t = 2 ∨ t = 3 ∨ t = 4 ∨ t = 5 ∨ t = 6 ∨ t = 7) with rfl | rfl | rfl | rfl | rfl | rfl | rfl | rfl <;> simp <;> omega
    have k := key ⟨t, h2⟩ n
    split
    · rename_i hlt
      rw [beL_len] at hlt
      rw [beL_get 4 _ t hlt, beL_get 8 n t h2]
      rw [if_pos hlt] at k
      rw [k]
    · rename_i hge
      rw [beL_len] at hge
      have e : (beL 4 (n / 4294967296 % 4294967296)).length = 4 := beL_len _ _
      simp only [e]
      rw [beL_get 4 _ (t - 4) (by omega), beL_get 8 n t h2]
      rw [if_neg hge] at k
      rw [k]

set_option maxHeartbeats 400000 in
theorem eightBytes_any (n : Nat) (w : World) (hn : n < 18446744073709551616) :
    Calls Tryd.prog 110 #[.int .u64 n] w fun e w' => e = .returned (B (beL 8 n)) ∧ Below w.heap.size w w' := by
  obtain ⟨N, hN⟩ : ∃ N : Int, (n : Int) = N := ⟨_, rfl⟩
  have hN0 : 0 ≤ N := by omega
  have hN1 : N < 18446744073709551616 := by omega
  have H1 : Hid (∀ w, Calls Tryd.prog 98 #[.int .u32 (N / 4294967296)] w fun e w' => e = .returned (.string ⟨(beL 4 (n / 4294967296 % 4294967296)).toArray⟩) ∧ Below w.heap.size w w') := fun w => by
    have e : N / 4294967296 = ((n / 4294967296 % 4294967296 : Nat) : Int) := by rw [← hN]; omega
    rw [e]; exact fourBytes_any _ w (by omega)
  have H2 : Hid (∀ w, Calls Tryd.prog 98 #[.int .u32 (N % 4294967296)] w fun e w' => e = .returned (.string ⟨(beL 4 (n % 4294967296)).toArray⟩) ∧ Below w.heap.size w w') := fun w => by
    have e : N % 4294967296 = ((n % 4294967296 : Nat) : Int) := by rw [← hN]; omega
    rw [e]; exact fourBytes_any _ w (by omega)
  have HE : Hid ((⟨(beL 4 (n / 4294967296 % 4294967296)).toArray⟩ : ByteArray) ++ ⟨(beL 4 (n % 4294967296)).toArray⟩ = ⟨(beL 8 n).toArray⟩) := by
    show (⟨(beL 4 (n / 4294967296 % 4294967296)).toArray⟩ : ByteArray) ++ ⟨(beL 4 (n % 4294967296)).toArray⟩ = ⟨(beL 8 n).toArray⟩
    rw [bapp, beL_eight]
  obtain ⟨l1, hl1, hll1⟩ : ∃ l : List UInt8, beL 4 (n / 4294967296 % 4294967296) = l ∧ l.length = 4 := ⟨_, rfl, beL_len _ _⟩
  obtain ⟨l2, hl2, hll2⟩ : ∃ l : List UInt8, beL 4 (n % 4294967296) = l ∧ l.length = 4 := ⟨_, rfl, beL_len _ _⟩
  rw [hl1] at H1 HE
  rw [hl2] at H2 HE
  clear hl1 hl2
  rw [hN]
  clear hN hn
  unfold B
  go_enter Tryd.func110, Tryd.ntmps110
  go_wp2_with fail
  refine (H1.out _).mono ?_
  rintro e w1 ⟨rfl, hB⟩
  have HB : Hid (Below w.heap.size w w1) := hB
  clear hB
  go_wp2_with fail
  refine (H2.out _).mono ?_
  rintro e w2 ⟨rfl, hB⟩
  have HB2 : Hid (Below w.heap.size w w2) := HB.out.trans (hB.mono HB.out.size)
  clear hB
  go_wp2
  go_ret
  exact ⟨ret_str HE.out, HB2.out⟩

/-! Padding, both ways. -/
def padN (n : Nat) : Nat := (4 - n % 4) % 4

theorem noughts3 (k : Nat) (h : k ≤ 3) : (⟨#[0, 0, 0]⟩ : ByteArray).extract 0 k = ⟨(List.replicate k (0 : UInt8)).toArray⟩ := by
  have : ∀ k : Fin 4, (⟨#[0, 0, 0]⟩ : ByteArray).extract 0 k.val = ⟨(List.replicate k.val (0 : UInt8)).toArray⟩ := by decide
  exact this ⟨k, by omega⟩

set_option maxHeartbeats 400000 in
theorem padding_core (n z : Int) (w : World) (h0 : -9223372036854775807 ≤ n) (h1 : n ≤ 9223372036854775807) (hz : bits .and .i64 (-n) 3 = z) (hz0 : 0 ≤ z) (hz1 : z ≤ 3) :
    Calls Tryd.prog 100 #[.int .i64 n] w fun e w' => e = .returned (.string ((⟨#[0, 0, 0]⟩ : ByteArray).extract 0 z.toNat)) ∧ w' = w := by
  go_enter Tryd.func100, Tryd.ntmps100
  go_wp2
  go_ret
  exact ⟨rfl, rfl⟩

end Go.Proofs.YthnnmgiihpdblaaDoor
