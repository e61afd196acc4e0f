/- The library's numbers of the base 16, and its count of trailing zeros. -/
import Derived.Test.YthnnmgiihpdblaaDoorW11
import Derived.Shelf.Spec.TrailingZeros
import Derived.Sort.Row
import Derived.Lib.ItoaMem
import Derived.Test.YthnnmgiihpdblaaDoorShelf
namespace Go.Proofs.YthnnmgiihpdblaaDoor
open Go.RowKit

set_option maxHeartbeats 1000000 in
theorem tz64_core (x k idx : Nat) (w : World) (hx0 : ((x : Int) == 0) = false)
    (key : IntKind.u64.wrap (bits BinOp.and IntKind.u64 (x : Int) (IntKind.u64.wrap (-(x : Int))) * 285870213051353865) / 288230376151711744 = (idx : Int))
    (hi : idx < 64) (hk : k < 64) (hcell : w.cell? ⟨2, idx, none⟩ = some (.int .u8 k)) :
    Calls Tryd.prog 137 #[.int .u64 x] w fun e w' => e = .returned (.int .i64 k) ∧ w' = w := by
  go_enter Tryd.func137, Tryd.ntmps137
  go_wp2_with (simp only [key])
  go_ret
  exact ⟨rfl, rfl⟩

/-- TrailingZeros64, at every number. -/
theorem tz64 (x : Nat) (hx : x < 18446744073709551616) (w : World) (hx0 : x ≠ 0) (hT : Go.Proofs.TabAt 2 Lib.deBruijn64tab w) :
    Calls Tryd.prog 137 #[.int .u64 x] w fun e w' => e = .returned (.int .i64 (Lib.ctz 64 x)) ∧ w' = w := by
  obtain ⟨hlow, hk⟩ := Lib.lowest_bit 64 x hx0 hx
  obtain ⟨hi, htab⟩ := Lib.deBruijn64_at _ hk
  refine tz64_core x (Lib.ctz 64 x) _ w (beq_eq_false_iff_ne.2 (by omega)) (Go.Proofs.tz64_key x _ hx hx0 hlow) hi hk ?_
  have := hT _ (show _ < Lib.deBruijn64tab.length from hi)
  rw [htab] at this
  exact this

set_option maxHeartbeats 400000 in
theorem tz16 (w : World) (hT : Go.Proofs.TabAt 2 Lib.deBruijn64tab w) :
    Calls Tryd.prog 158 #[.int .u64 16] w fun e w' => e = .returned (.int .i64 4) ∧ w' = w := by
  have HC : Hid (∀ w, Go.Proofs.TabAt 2 Lib.deBruijn64tab w → Calls Tryd.prog 137 #[.int .u64 16] w fun e w' => e = .returned (.int .i64 4) ∧ w' = w) := fun w hT => tz64 16 (by omega) w (by omega) hT
  have HT : Hid (Go.Proofs.TabAt 2 Lib.deBruijn64tab w) := hT
  clear hT
  go_enter Tryd.func158, Tryd.ntmps158
  go_wp2_with (go_at_call 137; refine (HC.out _ HT.out).mono ?_; rintro e w' ⟨rfl, rfl⟩)
  go_ret
  exact ⟨rfl, rfl⟩

theorem pow2_16 (w : World) : Calls Tryd.prog 157 #[.int .i64 16] w fun e w' => e = .returned (.bool true) ∧ w' = w := by
  have h : bits .and .i64 16 15 = 0 := by decide
  go_enter Tryd.func157, Tryd.ntmps157
  go_wp2
  go_ret
  exact ⟨rfl, rfl⟩

/-- A digit of the base 16. -/
def hexB (x : Nat) : UInt8 := if x < 10 then UInt8.ofNat (48 + x) else UInt8.ofNat (87 + x)

def digs : ByteArray := ⟨#[48, 49, 50, 51, 52, 53, 54, 55, 56, 57, 97, 98, 99, 100, 101, 102, 103, 104, 105, 106, 107, 108, 109, 110, 111, 112, 113, 114, 115, 116, 117, 118, 119, 120, 121, 122]⟩

theorem idx_digs (k : IntKind) (z : Int) (x : Nat) (hz : z = (x : Int)) (hx : x < 16) (w : World) :
    (Instr.index 9 (.string ⟨#[48, 49, 50, 51, 52, 53, 54, 55, 56, 57, 97, 98, 99, 100, 101, 102, 103, 104, 105, 106, 107, 108, 109, 110, 111, 112, 113, 114, 115, 116, 117, 118, 119, 120, 121, 122]⟩) (.int k z)).run Tryd.prog w = .ok (.int .u8 ((hexB x).toNat : Int)) w := by
  subst hz
  have hs : (digs).size = 36 := by decide
  show (Instr.index 9 (.string digs) (.int k x)).run Tryd.prog w = _
  rw [run_index_string w 9 digs k _ Tryd.underlying9, dif_pos ⟨by omega, by rw [hs]; omega⟩]
  have e : ((x : Int)).toNat = x := by omega
  simp only [e]
  have : x = 0 ∨ x = 1 ∨ x = 2 ∨ x = 3 ∨ x = 4 ∨ x = 5 ∨ x = 6 ∨ x = 7 ∨ x = 8 ∨ x = 9 ∨ x = 10 ∨ x = 11 ∨ x = 12 ∨ x = 13 ∨ x = 14 ∨ x = 15 := by omega
  rcases this with rfl | rfl | rfl | rfl | rfl | rfl | rfl | rfl | rfl | rfl | rfl | rfl | rfl | rfl | rfl | rfl <;> rfl

def encB (b : UInt8) : Value := .int .u8 (b.toNat : Int)

theorem holds_store {w : World} {blk : Nat} {d : Array UInt8} {i : Nat} {c : UInt8} (h : Go.Sort.Holds encB w blk 0 d) (hi : i < d.size) :
    Go.Sort.Holds encB (w.setCell ⟨blk, i, none⟩ (.int .u8 (c.toNat : Int))) blk 0 (d.setIfInBounds i c) := by
  intro j hj
  rw [Array.size_setIfInBounds] at hj
  obtain ⟨h1, h2⟩ := h j hj
  refine ⟨?_, by rw [World.frozen?_setCell]; exact h2⟩
  by_cases e : i = j
  · subst e
    rw [Nat.zero_add] at h1 ⊢
    rw [World.cell?_setCell_same _ _ _ h1]
    simp [encB, hi]
  · rw [World.cell?_setCell_other _ _ _ _ (fun hh => e (by simpa using congrArg Addr.off hh)), h1]
    simp [e, hj]

theorem set_get (d : Array UInt8) (j t : Nat) (c : UInt8) (h : t < d.size) : (d.setIfInBounds j c)[t]! = if j = t then c else d[t]! := by
  rw [getElem!_pos _ t (by simpa using h), Array.getElem_setIfInBounds, getElem!_pos d t h]

theorem in_eq {k : IntKind} {a b : Int} (h : a = b) : Value.int k a = .int k b := by rw [h]

theorem zero65 : Tryd.zeroCells185 = Array.replicate 65 (.int .u8 0) := by kernel_rfl

theorem holds_start (w : World) : Go.Sort.Holds encB (w.alloc (.cells Tryd.zeroCells185 185)) w.heap.size 0 (Array.replicate 65 (0 : UInt8)) := by
  intro j hj
  rw [Array.size_replicate] at hj
  refine ⟨?_, World.frozen?_alloc_new _ _ _ _⟩
  rw [World.cell?_alloc_new, zero65, Nat.zero_add]
  simp [encB, hj]

/-- The fourteen digits of a number of 53 bits. -/
def hex14 (u : Nat) : List UInt8 := (List.range 14).map fun t => hexB (u / 16 ^ (13 - t) % 16)

theorem and15 (v : Nat) (h : v < 18446744073709551616) : bits .and .u64 (v : Int) 15 = ((v % 16 : Nat) : Int) := by
  have e := u64_and_nat v 15 h (by omega)
  rw [nat_mask4] at e
  exact e

theorem shr_step (u k : Nat) : ((u / 16 ^ k : Nat) : Int) / 16 = ((u / 16 ^ (k + 1) : Nat) : Int) := by
  rw [Nat.pow_succ, ← Nat.div_div_eq_div_mul]; omega

theorem ge16 (u k : Nat) (h1 : 4503599627370496 ≤ u) (hk : k < 13) : 16 ≤ u / 16 ^ k := by
  rw [Nat.le_div_iff_mul_le (Nat.pow_pos (by omega)), ← Nat.pow_succ']
  exact Nat.le_trans (Nat.pow_le_pow_right (by omega) (show k + 1 ≤ 13 by omega)) (Nat.le_trans (Nat.le_of_eq (by decide)) h1)

theorem div13 (u : Nat) (h1 : 4503599627370496 ≤ u) (h2 : u < 9007199254740992) : u / 16 ^ 13 = 1 := by
  rw [show (16 : Nat) ^ 13 = 4503599627370496 from by decide]; omega

set_option maxHeartbeats 1000000 in
theorem formatBits16 (u : Nat) (h1 : 4503599627370496 ≤ u) (h2 : u < 9007199254740992) (w : World) (hT : Go.Proofs.TabAt 2 Lib.deBruijn64tab w) (hs1 : 2 < w.heap.size) :
    Calls Tryd.prog 145 #[.slice none 0 0, .int .u64 u, .int .i64 16, .bool false, .bool false] w fun e w' => e = .returned (.tuple #[.slice none 0 0, .string ⟨(hex14 u).toArray⟩]) ∧ Below w.heap.size w w' := by
  have HT : Hid (∀ o, Go.Proofs.TabAt 2 Lib.deBruijn64tab (w.alloc o)) := by
    intro o j hj
    have := hT j hj
    rw [World.cell?_alloc_lt]
    · exact this
    · exact hs1
  have HU : Hid (4503599627370496 ≤ u ∧ u < 9007199254740992) := ⟨h1, h2⟩
  clear hT h1 h2
  go_enter Tryd.func145, Tryd.ntmps145
  go_wp2_with (first | (go_at_call 157; refine (pow2_16 _).mono ?_; rintro e w' ⟨rfl, rfl⟩) | (go_at_call 158; refine (tz16 _ (HT.out _)).mono ?_; rintro e w' ⟨rfl, rfl⟩))
  go_loopw [1, 13] (fun vu vi wr => ∃ (k i : Nat) (d : Array UInt8), vu = .int .u64 (u / 16 ^ k : Nat) ∧ vi = .int .i64 i ∧ i + k = 65 ∧ k ≤ 13 ∧ Below w.heap.size w wr ∧ w.heap.size < wr.heap.size ∧ d.size = 65 ∧ Go.Sort.Holds encB wr w.heap.size 0 d ∧ ∀ t, i ≤ t → t < 65 → d[t]! = hexB (u / 16 ^ (64 - t) % 16)) (fun _ vi _ => (intOf vi).toNat)
  case atStart => exact ⟨0, 65, Array.replicate 65 0, by simp, rfl, by omega, by omega, (Below.refl _ _).alloc (Nat.le_refl _) _, by simp, by simp, holds_start w, fun t ht1 ht2 => by omega⟩
  case round =>
    obtain ⟨k, i, d, rfl, rfl, hik, hk, hB, hz, hd, hH, hD⟩ := hrel
    rename World => wr
    have HB : Hid (Below w.heap.size w wr) := hB
    have HD : Hid (∀ t, i ≤ t → t < 65 → d[t]! = hexB (u / 16 ^ (64 - t) % 16)) := hD
    have HH : Hid (Go.Sort.Holds encB wr w.heap.size 0 d) := hH
    have HS : Hid (d.size = 65) := hd
    clear hB hD hH hd
    by_cases hlt : k < 13
    · obtain ⟨j, rfl⟩ : ∃ j, i = j + 1 := ⟨i - 1, by omega⟩
      have hu64 : u / 16 ^ k < 18446744073709551616 := by have := Nat.div_le_self u (16 ^ k); have := HU.out.2; omega
      have hge := ge16 u k HU.out.1 hlt
      have hand := and15 (u / 16 ^ k) hu64
      have hstep := shr_step u k
      have hj := HH.out j (by rw [HS.out]; omega)
      have hidx := fun w => idx_digs .u64 ((u / 16 ^ k % 16 : Nat) : Int) (u / 16 ^ k % 16) rfl (Nat.mod_lt _ (by omega)) w
      have hcell : wr.cell? ⟨w.heap.size, j, none⟩ = some (encB d[j]!) := by have := hj.1; rwa [Nat.zero_add] at this
      have hfro : wr.frozen? ⟨w.heap.size, j, none⟩ = false := by have := hj.2; rwa [Nat.zero_add] at this
      have Hstep : Hid (((u / 16 ^ k : Nat) : Int) / 16 = ((u / 16 ^ (k + 1) : Nat) : Int)) := hstep
      clear hj hstep
      generalize hv : u / 16 ^ k = v at *
      have HV : Hid (u / 16 ^ k = v) := hv
      clear hv
      generalize hx : v % 16 = x at *
      have HX : Hid (v % 16 = x) := hx
      clear hx
      go_wp2
      go_roundw
      case rel =>
        refine ⟨k + 1, j, d.setIfInBounds j (hexB x), ?_, ?_, by omega, by omega, HB.out.setCell (Nat.le_refl _) _, by simpa using hz, by rw [Array.size_setIfInBounds]; exact HS.out, holds_store HH.out (by rw [HS.out]; omega), ?_⟩
        · exact in_eq Hstep.out
        · first | rfl | go_num
        · intro t ht1 ht2
          rw [set_get _ _ _ _ (by rw [HS.out]; exact ht2)]
          by_cases e : j = t
          · subst e
            have e2 : 64 - j = k := by omega
            rw [if_pos rfl, e2, HV.out, HX.out]
          · rw [if_neg e]
            exact HD.out t (by omega) ht2
      case measure => simp [intOf]
    · obtain rfl : k = 13 := by omega
      obtain rfl : i = 52 := by omega
      have e13 := div13 u HU.out.1 HU.out.2
      rw [e13]
      have HE : Hid (u / 16 ^ 13 = 1) := e13
      clear e13
      have hj := HH.out 51 (by rw [HS.out]; omega)
      obtain ⟨old, hcell⟩ : ∃ v, wr.cell? ⟨w.heap.size, 51, none⟩ = some v := ⟨_, by have := hj.1; rwa [Nat.zero_add] at this⟩
      have hfro : wr.frozen? ⟨w.heap.size, 51, none⟩ = false := by have := hj.2; rwa [Nat.zero_add] at this
      have hidx := fun w => idx_digs .u64 1 1 rfl (by omega) w
      have HN : Hid (Go.Sort.Holds encB (wr.setCell ⟨w.heap.size, 51, none⟩ (.int .u8 ((hexB 1).toNat : Int))) w.heap.size 0 (d.setIfInBounds 51 (hexB 1))) := holds_store HH.out (by rw [HS.out]; omega)
      have hcv : (convert 75 9 (.slice (some ⟨w.heap.size, 51, none⟩) 14 14)).run Tryd.prog (wr.setCell ⟨w.heap.size, 51, none⟩ (.int .u8 ((hexB 1).toNat : Int))) = .ok (.string ⟨(hex14 u).toArray⟩) (wr.setCell ⟨w.heap.size, 51, none⟩ (.int .u8 ((hexB 1).toNat : Int))) := by
        have h := run_convert_bytes_back (P := Tryd.prog) (wr.setCell ⟨w.heap.size, 51, none⟩ (.int .u8 ((hexB 1).toNat : Int))) 75 9 5 ⟨w.heap.size, 51, none⟩ 14 (hex14 u) Tryd.underlying75 Tryd.underlying5 Tryd.underlying9 (fun t ht => by
          have ht2 : t < 14 := by simpa [hex14] using ht
          have hc := (HN.out (51 + t) (by rw [Array.size_setIfInBounds, HS.out]; omega)).1
          rw [Nat.zero_add, set_get _ _ _ _ (by rw [HS.out]; omega)] at hc
          have ea : (Addr.add ⟨w.heap.size, 51, none⟩ t) = ⟨w.heap.size, 51 + t, none⟩ := Lib.add_plain _ _ _
          rw [ea, hc]
          have el : (hex14 u)[t]'ht = hexB (u / 16 ^ (13 - t) % 16) := by simp [hex14]
          rw [el]
          by_cases e : t = 0
          · subst e
            rw [if_pos rfl, Nat.sub_zero, HE.out]
            rfl
          · rw [if_neg (by omega), HD.out (51 + t) (by omega) (by omega)]
            have e3 : 64 - (51 + t) = 13 - t := by omega
            rw [e3]
            rfl)
        exact h
      clear hj hik hk hlt
      go_wp2_with fail
      go_ret2
      exact ⟨rfl, HB.out.setCell (Nat.le_refl _) _⟩

set_option maxHeartbeats 400000 in
theorem formatUint_in (u : Nat) (h1 : 4503599627370496 ≤ u) (h2 : u < 9007199254740992) (w : World) (hT : Go.Proofs.TabAt 2 Lib.deBruijn64tab w) (hs1 : 2 < w.heap.size) :
    Calls Tryd.prog 127 #[.int .u64 u, .int .i64 16] w fun e w' => e = .returned (.string ⟨(hex14 u).toArray⟩) ∧ Below w.heap.size w w' := by
  have HC : Hid (Calls Tryd.prog 145 #[.slice none 0 0, .int .u64 u, .int .i64 16, .bool false, .bool false] w fun e w' => e = .returned (.tuple #[.slice none 0 0, .string ⟨(hex14 u).toArray⟩]) ∧ Below w.heap.size w w') := formatBits16 u h1 h2 w hT hs1
  clear hT h1 h2
  go_enter Tryd.func127, Tryd.ntmps127
  go_wp2_with fail
  refine HC.out.mono ?_
  rintro e w' ⟨rfl, hB⟩
  have HB : Hid (Below w.heap.size w w') := hB
  clear hB
  go_wp2
  go_ret
  exact ⟨rfl, HB.out⟩

set_option maxHeartbeats 400000 in
theorem formatUint16 (u : Nat) (h1 : 4503599627370496 ≤ u) (h2 : u < 9007199254740992) (w : World) (hT : Go.Proofs.TabAt 2 Lib.deBruijn64tab w) (hs1 : 2 < w.heap.size) :
    Calls Tryd.prog 115 #[.int .u64 u, .int .i64 16] w fun e w' => e = .returned (.string ⟨(hex14 u).toArray⟩) ∧ Below w.heap.size w w' := by
  have HC : Hid (Calls Tryd.prog 127 #[.int .u64 u, .int .i64 16] w fun e w' => e = .returned (.string ⟨(hex14 u).toArray⟩) ∧ Below w.heap.size w w') := formatUint_in u h1 h2 w hT hs1
  clear hT h1 h2
  go_enter Tryd.func115, Tryd.ntmps115
  go_wp2_with fail
  refine HC.out.mono ?_
  rintro e w' ⟨rfl, hB⟩
  have HB : Hid (Below w.heap.size w w') := hB
  clear hB
  go_wp2
  go_ret
  exact ⟨rfl, HB.out⟩

end Go.Proofs.YthnnmgiihpdblaaDoor
