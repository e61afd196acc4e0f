/- The second printer's digits of ten, at every exponent; its digits of sixteen, plain. -/
import Derived.Test.YtbbikogpfpghbaaDoorW28
import Derived.Deep.QuietTactic
import Derived.BigQuiet
namespace Go.Proofs.YtbbikogpfpghbaaDoor
open Go.RowKit

set_option maxHeartbeats 1000000 in
theorem digits_step (n m d : Int) (t : ByteArray) (w : World) (h0 : 10 ≤ n) (h1 : n < 10000) (hm : n / 10 = m) (hd : n % 10 = d) (hd0 : 0 ≤ d) (_hd1 : d < 10) (ht : t.size ≤ 100)
    (ih : ∀ w, Calls Tryd.prog 89 #[.int .i64 m] w fun e w' => e = .returned (.string t) ∧ ∃ k, w' = w.drewN k) :
    Calls Tryd.prog 89 #[.int .i64 n] w fun e w' => e = .returned (.string (t ++ sixt.extract d.toNat (d.toNat + 1))) ∧ ∃ k, w' = w.drewN k := by
  have HI : Hid (∀ w, Calls Tryd.prog 89 #[.int .i64 m] w fun e w' => e = .returned (.string t) ∧ ∃ k, w' = w.drewN k) := ih
  clear ih
  have e1 : n.tdiv 10 = m := by rw [Int.tdiv_eq_ediv_of_nonneg (by omega)]; exact hm
  have e2 : n.tmod 10 = d := by rw [Int.tmod_eq_emod_of_nonneg (by omega)]; exact hd
  have hwm : IntKind.i64.wrap m = m := by rw [IntKind.wrap_i64]; omega
  have hwd : IntKind.i64.wrap d = d := by rw [IntKind.wrap_i64]; omega
  have hwd1 : IntKind.i64.wrap (d + 1) = d + 1 := by rw [IntKind.wrap_i64]; omega
  have hb1 : (0 : Int) ≤ d + 1 := by omega
  have hb2 : d + 1 ≤ 16 := by omega
  have hb3 : d ≤ d + 1 := by omega
  have hln : (9223372036854775807 < t.size + ((d + 1).toNat - d.toNat)) = False := by
    apply eq_false; omega
  clear ht
  go_enter Tryd.func89, Tryd.ntmps89
  go_wp2_with fail
  go_quiet (first | (go_at_call 89; rw [hwm]; exact Calls.quiet_of (HI.out _)) | (go_at_call 89; exact Calls.quiet_of (HI.out _)))
  go_wp2
  go_ret
  refine ⟨ret_str ?_, _, rfl⟩
  rw [show (d + 1).toNat = d.toNat + 1 from by omega]
  rfl

theorem sixt_at (d : Nat) (h : d < 16) : sixt.extract d (d + 1) = ⟨#[hexB d]⟩ := by
  have : ∀ d : Fin 16, sixt.extract d.val (d.val + 1) = ⟨#[hexB d.val]⟩ := by decide
  exact this ⟨d, h⟩
theorem hexB_ten (d : Nat) (h : d < 10) : hexB d = UInt8.ofNat (48 + d) := by
  have : ∀ d : Fin 10, hexB d.val = UInt8.ofNat (48 + d.val) := by decide
  exact this ⟨d, h⟩

theorem dec_size (n : Nat) (h : n < 10000) : (Lib.decDigits n).length ≤ 4 := by
  rw [Lib.decDigits]; split
  · simp
  · rw [List.length_append, Lib.decDigits]; split
    · simp
    · rw [List.length_append, Lib.decDigits]; split
      · simp
      · rw [List.length_append, Lib.decDigits, dif_pos (by omega)]; simp

theorem digits_any (n : Nat) (h : n < 10000) (w : World) :
    Calls Tryd.prog 89 #[.int .i64 n] w fun e w' => e = .returned (B (Lib.decDigits n)) ∧ ∃ k, w' = w.drewN k := by
  induction n using Nat.strongRecOn generalizing w with
  | ind n ih =>
    rw [Lib.decDigits]
    by_cases h1 : n < 10
    · rw [dif_pos h1]
      refine (digits_one n w h1).mono fun e w' ⟨a, b⟩ => ⟨?_, 0, b⟩
      rw [a, sixt_at n (by omega), hexB_ten n h1]
      rfl
    · rw [dif_neg h1]
      have hl := dec_size (n / 10) (by omega)
      have r := digits_step (n : Int) ((n / 10 : Nat) : Int) ((n % 10 : Nat) : Int) ⟨(Lib.decDigits (n / 10)).toArray⟩ w (by omega) (by omega) (by omega) (by omega) (by omega) (by omega) (by show (Lib.decDigits (n / 10)).toArray.size ≤ 100; rw [List.size_toArray]; omega) (fun w => ih (n / 10) (by omega) (by omega) w)
      refine r.mono fun e w' ⟨a, b⟩ => ⟨?_, b⟩
      rw [a, Int.toNat_natCast, sixt_at _ (by omega), hexB_ten _ (by omega)]
      exact ret_str (bapp (Lib.decDigits (n / 10)) [UInt8.ofNat (48 + n % 10)])

/-- The digits of sixteen, one by one, until nothing is left. -/
def hx : Nat → Nat → List UInt8
  | 0, _ => []
  | k + 1, n => if n = 0 then [] else hexB (n / 281474976710656) :: hx k (n % 281474976710656 * 16)

theorem trim_cons (c x : UInt8) (l : List UInt8) : Lib.trimRightB (x :: l) c = if Lib.trimRightB l c = [] then (if x = c then [] else [x]) else x :: Lib.trimRightB l c := by
  unfold Lib.trimRightB
  rw [List.reverse_cons, List.dropWhile_append]
  by_cases h : (List.dropWhile (· == c) l.reverse) = []
  · rw [h]
    simp only [List.isEmpty_nil, if_true, List.reverse_nil]
    by_cases hx : x = c
    · simp [hx]
    · simp [hx]
  · rw [if_neg (by simpa using h), if_neg (by simpa using h)]
    simp

theorem dig_cons (k V : Nat) (h : V < 16 ^ (k + 1)) : dig (k + 1) V = hexB (V / 16 ^ k) :: dig k (V % 16 ^ k) := by
  unfold dig
  rw [List.range_succ_eq_map, List.map_cons, List.map_map]
  congr 1
  · have hp : 0 < 16 ^ k := Nat.pow_pos (by omega)
    have : V / 16 ^ k < 16 := Nat.div_lt_of_lt_mul (by rw [Nat.pow_succ] at h; exact h)
    have e : k + 1 - 1 - 0 = k := by omega
    rw [e, Nat.mod_eq_of_lt this]
  · apply List.map_congr_left
    intro t ht
    have ht2 := List.mem_range.1 ht
    show hexB (V / 16 ^ (k + 1 - 1 - (t + 1)) % 16) = hexB (V % 16 ^ k / 16 ^ (k - 1 - t) % 16)
    have e : k + 1 - 1 - (t + 1) = k - 1 - t := by omega
    rw [e]
    congr 1
    have e2 : k = (k - 1 - t) + 1 + t := by omega
    generalize hj : k - 1 - t = j at *
    subst e2
    have e3 : 16 ^ (j + 1 + t) = 16 ^ j * (16 ^ t * 16) := by
      rw [Nat.add_assoc, Nat.pow_add, Nat.add_comm 1 t, Nat.pow_succ]
    rw [e3, Nat.mod_mul_right_div_self, Nat.mul_comm, Nat.mod_mul_right_mod]

theorem hexB_zero : ∀ d, d < 16 → (hexB d = 48 ↔ d = 0) := by
  have : ∀ d : Fin 16, (hexB d.val = 48 ↔ d.val = 0) := by decide
  exact fun d h => this ⟨d, h⟩

theorem hx_nil (k n : Nat) : hx k n = [] ↔ k = 0 ∨ n = 0 := by
  cases k with
  | zero => simp [hx]
  | succ k => by_cases h : n = 0 <;> simp [hx, h]

theorem hx_dig (k : Nat) (hk : k ≤ 13) (V : Nat) (hV : V < 16 ^ k) : hx k (V * 16 ^ (13 - k)) = Lib.trimRightB (dig k V) 48 := by
  induction k generalizing V with
  | zero => rfl
  | succ k ih =>
    have hp : 0 < 16 ^ k := Nat.pow_pos (by omega)
    have hmod := Nat.mod_lt V hp
    have hdig : V / 16 ^ k < 16 := Nat.div_lt_of_lt_mul (by rw [Nat.pow_succ] at hV; exact hV)
    have h16 : 0 < 16 ^ (13 - (k + 1)) := Nat.pow_pos (by omega)
    have e12 : (281474976710656 : Nat) = 16 ^ k * 16 ^ (13 - (k + 1)) := by
      rw [← Nat.pow_add, show k + (13 - (k + 1)) = 12 from by omega]
    have ih' := ih (by omega) (V % 16 ^ k) hmod
    rw [dig_cons k V hV, trim_cons, ← ih']
    have e13 : 16 ^ (13 - k) = 16 ^ (13 - (k + 1)) * 16 := by rw [← Nat.pow_succ]; congr 1; omega
    have hdiv := Nat.div_add_mod V (16 ^ k)
    by_cases h0 : V = 0
    · subst h0
      simp [hx, hx_nil]
      decide
    · have hne : V * 16 ^ (13 - (k + 1)) ≠ 0 := Nat.mul_ne_zero h0 (by omega)
      rw [hx, if_neg hne, e12, Nat.mul_div_mul_right _ _ h16, Nat.mul_mod_mul_right, Nat.mul_assoc, ← e13]
      by_cases hr : hx k (V % 16 ^ k * 16 ^ (13 - k)) = []
      · rw [if_pos hr, hr]
        have hz : V / 16 ^ k ≠ 0 := by
          intro hz
          rcases (hx_nil _ _).1 hr with rfl | h
          · rw [Nat.pow_zero, Nat.div_one] at hz; exact h0 hz
          · rcases Nat.mul_eq_zero.1 h with h | h
            · rw [hz, h] at hdiv; omega
            · have : 0 < 16 ^ (13 - k) := Nat.pow_pos (by omega)
              omega
        rw [if_neg (fun e => hz ((hexB_zero _ hdig).1 e))]
      · rw [if_neg hr]

theorem hx_frac (F : Nat) (hF : F < 4503599627370496) : fracL F = if hx 13 F = [] then [] else 46 :: hx 13 F := by
  have e := hx_dig 13 (by omega) F (Nat.lt_of_lt_of_eq hF (by decide))
  rw [Nat.sub_self, Nat.pow_zero, Nat.mul_one] at e
  unfold fracL
  rw [hex14_dig F hF, e]

end Go.Proofs.YtbbikogpfpghbaaDoor
