/- The program's numbers: form, reckon, number; what goes on. -/
import Derived.Test.YthnnmgiihpdblabLc
namespace Go.Proofs.Ythnnmgiihpdblab
open Go.RowKit

theorem byte_eq (c k : UInt8) : ((c.toNat : Int) == (k.toNat : Int)) = (c == k) := by
  rw [Bool.eq_iff_iff, beq_iff_eq, beq_iff_eq]
  constructor
  · intro h; exact UInt8.toNat_inj.1 (by omega)
  · rintro rfl; rfl

theorem S_extract (l : List UInt8) (i j : Nat) : (⟨l.toArray⟩ : ByteArray).extract i j = ⟨((l.drop i).take (j - i)).toArray⟩ := by
  apply ByteArray.ext; simp
theorem S_from (l : List UInt8) (i : Nat) : (⟨l.toArray⟩ : ByteArray).extract i l.length = ⟨(l.drop i).toArray⟩ := by
  rw [S_extract, List.take_of_length_le (by simp)]
theorem ret_tuple {a b : Array Value} (h : a = b) : Ending.returned (.tuple a) = .returned (.tuple b) := by rw [h]

def goOnCP (st : Nat) (c : UInt8) : Nat := if c == 42 then 3 else if c == 47 && st == 3 then 0 else 2

theorem goOnComment_any (st : Nat) (c : UInt8) (w : World) (hs : st ≤ 8) : Calls Try.prog 40 #[.int .i64 st, .int .u8 (c.toNat : Int)] w fun e w' => e = .returned (.int .i64 (goOnCP st c : Nat)) ∧ w' = w := by
  unfold goOnCP
  rw [← byte_eq c 42, ← byte_eq c 47]
  show Calls Try.prog 40 #[.int .i64 st, .int .u8 (c.toNat : Int)] w fun e w' => e = .returned (.int .i64 ((if ((c.toNat : Int) == 42) = true then 3 else if ((c.toNat : Int) == 47 && st == 3) = true then 0 else 2 : Nat) : Int)) ∧ w' = w
  generalize (c.toNat : Int) = n at *
  cases h1 : n == 42
  case true => go_enter Try.func40, Try.ntmps40; go_wp2; go_ret; exact ⟨rfl, rfl⟩
  cases h2 : n == 47
  case false => go_enter Try.func40, Try.ntmps40; go_wp2; go_ret; exact ⟨rfl, rfl⟩
  by_cases h3 : st = 3
  · subst h3; go_enter Try.func40, Try.ntmps40; go_wp2; go_ret; exact ⟨rfl, rfl⟩
  · have h4 : ((st : Int) == 3) = false := by simp; omega
    go_enter Try.func40, Try.ntmps40; go_wp2; go_ret; exact ⟨rfl, rfl⟩

set_option maxHeartbeats 1000000 in
theorem goOn_any (st : Nat) (c : UInt8) (w : World) (hs : st ≤ 8) : Calls Try.prog 32 #[.int .i64 st, .int .u8 (c.toNat : Int)] w fun e w' => e = .returned (.tuple #[.int .i64 ((goOnP st c).1 : Nat), .bool (goOnP st c).2]) ∧ w' = w := by
  have H0 : Hid (∀ w, Calls Try.prog 38 #[.int .u8 (c.toNat : Int)] w fun e w' => e = .returned (.bool (digB c)) ∧ w' = w) := fun w => isDigit_any _ w
  have H1 : Hid (∀ w, Calls Try.prog 24 #[.int .u8 (c.toNat : Int)] w fun e w' => e = .returned (.bool (runB c)) ∧ w' = w) := fun w => isRun_any _ w
  have H2 : Hid (∀ w, Calls Try.prog 40 #[.int .i64 2, .int .u8 (c.toNat : Int)] w fun e w' => e = .returned (.int .i64 (goOnCP 2 c : Nat)) ∧ w' = w) := fun w => goOnComment_any 2 c w (by omega)
  have H3 : Hid (∀ w, Calls Try.prog 40 #[.int .i64 3, .int .u8 (c.toNat : Int)] w fun e w' => e = .returned (.int .i64 (goOnCP 3 c : Nat)) ∧ w' = w) := fun w => goOnComment_any 3 c w (by omega)
  have h42 : Hid (((c.toNat : Int) == 42) = (c == 42)) := byte_eq c 42
  obtain rfl | rfl | rfl | rfl | rfl | rfl | rfl | rfl | rfl : st = 0 ∨ st = 1 ∨ st = 2 ∨ st = 3 ∨ st = 4 ∨ st = 5 ∨ st = 6 ∨ st = 7 ∨ st = 8 := by omega
  · go_enter Try.func32, Try.ntmps32; go_wp2; go_ret2; exact ⟨rfl, rfl⟩
  · show Calls Try.prog 32 #[.int .i64 1, .int .u8 (c.toNat : Int)] w fun e w' => e = .returned (.tuple #[.int .i64 2, .bool (c == 42)]) ∧ w' = w
    rw [← h42.out]
    clear h42 H0 H1 H2 H3
    generalize (c.toNat : Int) = n
    cases h1 : n == 42 <;> (go_enter Try.func32, Try.ntmps32; go_wp2; go_ret2; exact ⟨rfl, rfl⟩)
  · show Calls Try.prog 32 #[.int .i64 2, .int .u8 (c.toNat : Int)] w fun e w' => e = .returned (.tuple #[.int .i64 (goOnCP 2 c : Nat), .bool true]) ∧ w' = w
    clear h42 H0 H1 H3
    generalize (c.toNat : Int) = n at *
    generalize (goOnCP 2 c : Nat) = m at *
    go_enter Try.func32, Try.ntmps32; go_wp2_with (go_at_call 40; refine (H2.out _).mono ?_; rintro e w' ⟨rfl, rfl⟩); go_ret2; exact ⟨rfl, rfl⟩
  · show Calls Try.prog 32 #[.int .i64 3, .int .u8 (c.toNat : Int)] w fun e w' => e = .returned (.tuple #[.int .i64 (goOnCP 3 c : Nat), .bool true]) ∧ w' = w
    clear h42 H0 H1 H2
    generalize (c.toNat : Int) = n at *
    generalize (goOnCP 3 c : Nat) = m at *
    go_enter Try.func32, Try.ntmps32; go_wp2_with (go_at_call 40; refine (H3.out _).mono ?_; rintro e w' ⟨rfl, rfl⟩); go_ret2; exact ⟨rfl, rfl⟩
  · show Calls Try.prog 32 #[.int .i64 4, .int .u8 (c.toNat : Int)] w fun e w' => e = .returned (.tuple #[.int .i64 5, .bool (digB c)]) ∧ w' = w
    clear h42 H1 H2 H3
    generalize (c.toNat : Int) = n at *
    generalize digB c = b at *
    go_enter Try.func32, Try.ntmps32; go_wp2_with (go_at_call 38; refine (H0.out _).mono ?_; rintro e w' ⟨rfl, rfl⟩); go_ret2; exact ⟨rfl, rfl⟩
  · show Calls Try.prog 32 #[.int .i64 5, .int .u8 (c.toNat : Int)] w fun e w' => e = .returned (.tuple #[.int .i64 5, .bool (runB c)]) ∧ w' = w
    clear h42 H0 H2 H3
    generalize (c.toNat : Int) = n at *
    generalize runB c = b at *
    go_enter Try.func32, Try.ntmps32; go_wp2_with (go_at_call 24; refine (H1.out _).mono ?_; rintro e w' ⟨rfl, rfl⟩); go_ret2; exact ⟨rfl, rfl⟩
  · show Calls Try.prog 32 #[.int .i64 6, .int .u8 (c.toNat : Int)] w fun e w' => e = .returned (.tuple #[.int .i64 6, .bool (runB c)]) ∧ w' = w
    clear h42 H0 H2 H3
    generalize (c.toNat : Int) = n at *
    generalize runB c = b at *
    go_enter Try.func32, Try.ntmps32; go_wp2_with (go_at_call 24; refine (H1.out _).mono ?_; rintro e w' ⟨rfl, rfl⟩); go_ret2; exact ⟨rfl, rfl⟩
  · go_enter Try.func32, Try.ntmps32; go_wp2; go_ret2; exact ⟨rfl, rfl⟩
  · go_enter Try.func32, Try.ntmps32; go_wp2; go_ret2; exact ⟨rfl, rfl⟩

theorem S_get (l : List UInt8) (k : Nat) (h : k < l.length) : ({ data := l.toArray } : ByteArray)[k]'h = l[k] := rfl

theorem form_any (r : List UInt8) (w : World) (h0 : 0 < r.length) (hl : (r.length : Int) ≤ 9223372036854775807) : Calls Try.prog 45 #[S r] w fun e w' => e = .returned (.tuple #[S (formP r).1, .int .i64 ((formP r).2 : Nat)]) ∧ w' = w := by
  have e0 : r.getD 0 0 = r[0] := getD_lt h0
  obtain ⟨c, hc⟩ : ∃ c, r[0] = c := ⟨_, rfl⟩
  have hb := byte_eq c 48
  have h0' : (0 : Int) < r.length := by omega
  have hn0 : ((r.length : Int) == 0) = false := beq_eq_false_iff_ne.2 (by omega)
  unfold formP
  rw [e0, hc]
  by_cases h48 : c = 48
  · subst h48
    rw [if_neg (by simp)]
    by_cases h1 : 1 < r.length
    · have e1 : r.getD 1 0 = r[1] := getD_lt h1
      obtain ⟨d, hd⟩ : ∃ d, r[1] = d := ⟨_, rfl⟩
      have hb2 := byte_eq d 120
      have h1' : (1 : Int) < r.length := by omega
      rw [e1, hd]
      have hcc : ({ data := r.toArray } : ByteArray)[0]'h0 = 48 := hc
      have hdd : ({ data := r.toArray } : ByteArray)[1]'h1 = d := hd
      by_cases h120 : d = 120
      · subst h120
        rw [if_pos ⟨h1, rfl⟩]
        clear e0 e1 hb hb2
        go_enter Try.func45, Try.ntmps45
        go_wp2
        go_ret2
        exact ⟨ret_tuple (show #[Value.string ((⟨r.toArray⟩ : ByteArray).extract 2 r.length), .int .i64 16] = #[.string ⟨(r.drop 2).toArray⟩, .int .i64 16] from by rw [S_from]), rfl⟩
      · rw [if_neg (fun h => h120 h.2)]
        have hb3 : ((d.toNat : Int) == 120) = false := hb2.trans (by simpa using h120)
        clear e0 e1 hb hb2 h120
        go_enter Try.func45, Try.ntmps45
        go_wp2
        go_ret2
        exact ⟨rfl, rfl⟩
    · rw [if_neg (fun h => h1 h.1)]
      have hcc : ({ data := r.toArray } : ByteArray)[0]'h0 = 48 := hc
      have h1' : decide ((1 : Int) < r.length) = false := by simp; omega
      clear e0 hb
      go_enter Try.func45, Try.ntmps45
      go_wp2
      go_ret2
      exact ⟨rfl, rfl⟩
  · rw [if_pos h48]
    have hcc : ({ data := r.toArray } : ByteArray)[0]'h0 = c := hc
    have hb3 : ((c.toNat : Int) == 48) = false := hb.trans (by simpa using h48)
    clear e0 hb h48
    go_enter Try.func45, Try.ntmps45
    go_wp2
    go_ret2
    exact ⟨rfl, rfl⟩

end Go.Proofs.Ythnnmgiihpdblab
