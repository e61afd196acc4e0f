/- The second reader's small steps: what a text is without a front, and a digit of sixteen. -/
import Derived.Test.YtbbikogpfpghbaaDoorW24
import Derived.Test.YtbbikogpfpghbaaDoorW20
namespace Go.Proofs.YtbbikogpfpghbaaDoor
open Go.RowKit

theorem ext_front (s : ByteArray) (n : Nat) : (s.extract 0 n).toList = s.data.toList.take n := by
  rw [Lib.toList_data, ByteArray.data_extract]
  simp
theorem ext_back (s : ByteArray) (n : Nat) : s.extract n s.size = ⟨(s.data.toList.drop n).toArray⟩ := by
  apply ByteArray.ext
  rw [ByteArray.data_extract]
  apply Array.ext'
  rw [Array.toList_extract, List.extract_eq_take_drop]
  exact List.take_of_length_le (by rw [List.length_drop, Array.length_toList]; exact Nat.le_refl _)

set_option maxHeartbeats 400000 in
theorem rcut_any (s f : ByteArray) (w : World) :
    Calls Tryd.prog 118 #[.string s, .string f] w fun e w' => e = .returned (.tuple #[.string ⟨(cutL s.data.toList f.data.toList).1.toArray⟩, .bool (cutL s.data.toList f.data.toList).2]) ∧ w' = w := by
  have hl : s.data.toList.length = s.size := by rw [Array.length_toList]; rfl
  have hlf : f.data.toList.length = f.size := by rw [Array.length_toList]; rfl
  have hs : (⟨s.data.toList.toArray⟩ : ByteArray) = s := rfl
  have HG : Hid (s.data.toList.take f.size = f.data.toList → cutL s.data.toList f.data.toList = (s.data.toList.drop f.size, true)) := fun h => by unfold cutL; rw [hlf, if_pos h]
  have HN : Hid (s.data.toList.take f.size ≠ f.data.toList → cutL s.data.toList f.data.toList = (s.data.toList, false)) := fun h => by unfold cutL; rw [hlf, if_neg h]
  by_cases h : s.size < f.size
  · have h' : (s.size : Int) < f.size := by omega
    have e := HN.out (fun e => by have := congrArg List.length e; rw [List.length_take, hlf, hl] at this; omega)
    rw [e]
    clear hl hlf hs HG HN e
    go_enter Tryd.func118, Tryd.ntmps118
    go_wp2
    go_ret2
    exact ⟨rfl, rfl⟩
  · have h' : (f.size : Int) ≤ s.size := by omega
    have ef := ext_front s f.size
    have eb := ext_back s f.size
    by_cases hc : s.data.toList.take f.size = f.data.toList
    · have hb : ((s.extract 0 f.size).toList == f.toList) = true := by rw [ef, Lib.toList_data, hc]; simp
      rw [HG.out hc]
      have HE : Hid (s.extract f.size s.size = ⟨(s.data.toList.drop f.size).toArray⟩) := eb
      clear hl hlf hs HG HN hc ef eb
      go_enter Tryd.func118, Tryd.ntmps118
      go_wp2
      go_ret2
      exact ⟨by rw [HE.out]; rfl, rfl⟩
    · have hb : ((s.extract 0 f.size).toList == f.toList) = false := by rw [ef, Lib.toList_data, beq_eq_false_iff_ne]; exact hc
      rw [HN.out hc]
      clear hl hlf hs HG HN hc ef eb
      go_enter Tryd.func118, Tryd.ntmps118
      go_wp2
      go_ret2
      exact ⟨rfl, rfl⟩

theorem idx_sixteen (k : IntKind) (z : Int) (x : Nat) (hz : z = (x : Int)) (hx : x < 16) (w : World) :
    (Instr.index 9 (.string ⟨#[48, 49, 50, 51, 52, 53, 54, 55, 56, 57, 97, 98, 99, 100, 101, 102]⟩) (.int k z)).run Tryd.prog w = .ok (.int .u8 ((hexB x).toNat : Int)) w := by
  subst hz
  have hs : (⟨#[48, 49, 50, 51, 52, 53, 54, 55, 56, 57, 97, 98, 99, 100, 101, 102]⟩ : ByteArray).size = 16 := by decide
  rw [run_index_string w 9 _ k _ Tryd.underlying9, dif_pos ⟨by omega, by rw [hs]; omega⟩]
  have e : ((x : Int)).toNat = x := by omega
  simp only [e]
  have : x = 0 ∨ x = 1 ∨ x = 2 ∨ x = 3 ∨ x = 4 ∨ x = 5 ∨ x = 6 ∨ x = 7 ∨ x = 8 ∨ x = 9 ∨ x = 10 ∨ x = 11 ∨ x = 12 ∨ x = 13 ∨ x = 14 ∨ x = 15 := by omega
  rcases this with rfl | rfl | rfl | rfl | rfl | rfl | rfl | rfl | rfl | rfl | rfl | rfl | rfl | rfl | rfl | rfl <;> rfl

def hexI (c : UInt8) : Int := match hexV c with | some v => (v : Int) | none => -1

set_option maxHeartbeats 400000 in
theorem rhex_any (c : UInt8) (w : World) :
    Calls Tryd.prog 119 #[.int .u8 (c.toNat : Int)] w fun e w' => e = .returned (.int .i64 (hexI c)) ∧ w' = w := by
  go_enter Tryd.func119, Tryd.ntmps119
  go_wp2_with fail
  go_loop [3] (fun i => ∃ k : Nat, i = .int .i64 k ∧ k ≤ 16 ∧ ∀ j, j < k → hexB j ≠ c) (fun i => 17 - (intOf i).toNat)
  case atStart => exact ⟨0, rfl, by omega, fun j h => absurd h (by omega)⟩
  case round =>
    obtain ⟨k, rfl, hk, hj⟩ := hrel
    have HJ : Hid (∀ j, j < k → hexB j ≠ c) := hj
    clear hj
    by_cases hlt : k < 16
    · have hk' : (k : Int) < 16 := by omega
      have hi := fun w => idx_sixteen .i64 k k rfl hlt w
      by_cases he : hexB k = c
      · have hb : (((hexB k).toNat : Int) == (c.toNat : Int)) = true := by rw [he]; simp
        have HE : Hid (hexI c = (k : Int)) := by show hexI c = k; unfold hexI; rw [← he, hexV_hexB k hlt]
        clear he
        go_wp2
        go_ret
        exact ⟨by rw [HE.out]; rfl, rfl⟩
      · have hb : (((hexB k).toNat : Int) == (c.toNat : Int)) = false := by
          rw [beq_eq_false_iff_ne]; intro e; exact he (UInt8.toNat_inj.1 (Int.natCast_inj.1 e))
        have HJ2 : Hid (∀ j, j < k + 1 → hexB j ≠ c) := fun j hj => by
          by_cases e : j = k
          · subst e; exact he
          · exact HJ.out j (by omega)
        clear he
        go_wp2
        go_round
        case rel => exact ⟨k + 1, by go_num, by omega, HJ2.out⟩
        case measure => simp [intOf]; omega
    · obtain rfl : k = 16 := by omega
      have HE : Hid (hexI c = -1) := by
        show hexI c = -1
        unfold hexI
        cases hv : hexV c with
        | none => rfl
        | some v => obtain ⟨h1, h2⟩ := hexB_hexV c v hv; exact absurd h1.symm (HJ.out v h2)
      go_wp2
      go_ret
      exact ⟨by rw [HE.out]; rfl, rfl⟩
end Go.Proofs.YtbbikogpfpghbaaDoor
