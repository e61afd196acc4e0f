/- LexParts' own functions: gaps, runs. -/
import Derived.Test.YthnnmgiihpdblabLo
namespace Go.Proofs.Ythnnmgiihpdblab
open Go.RowKit

/-- numbers that lie in memory -/
structure IntAt (w : World) (v : Value) (xs : List Int) : Prop where
  ex : ∃ oa cap g off, v = .slice oa xs.length cap ∧ (0 < xs.length → oa = some ⟨g, off, none⟩) ∧ (∀ i x, xs[i]? = some x → w.cell? ⟨g, off + i, none⟩ = some (.int .i64 x)) ∧ (∀ x ∈ xs, -9223372036854775808 ≤ x ∧ x ≤ 9223372036854775807)

theorem gapOne_le (c : Int) : (gapOne c).length ≤ 16 := by
  unfold gapOne; repeat' split
  all_goals decide
theorem gapMore_le (l : List Int) : (gapMore l).length ≤ 16 * l.length := by
  induction l with
  | nil => simp [gapMore]
  | cons c r ih => have := gapOne_le c; simp [gapMore]; omega

set_option maxHeartbeats 4000000 in
theorem gap_any (xs : List Int) (v : Value) (w : World) (h : IntAt w v xs) (hl : (xs.length : Int) ≤ 200000000000000) : Calls Try.prog 17 #[v] w fun e w' => e = .returned (S (gapP xs)) ∧ w' = w := by
  obtain ⟨oa, cap, g, off, rfl, hoa, hc, hr⟩ := h.ex
  clear h
  obtain ⟨n, hn⟩ : ∃ n, xs.length = n := ⟨_, rfl⟩
  rw [hn] at hl hoa ⊢
  have HN : Hid (xs.length = n) := hn
  clear hn
  go_enter Try.func17, Try.ntmps17
  go_wp2_with fail
  go_loop [3, 4] (fun s i => ∃ (k : Nat) (t : List UInt8), i = .int .i64 k ∧ s = S t ∧ k ≤ n ∧ (t.length : Int) ≤ 1 + 16 * k ∧ Hid (t = gapP (xs.take k))) (fun _ i => n - (intOf i).toNat)
  case atStart => exact ⟨0, [32], rfl, rfl, by omega, by simp, by show [32] = gapP (xs.take 0); rw [List.take_zero]; rfl⟩
  case round =>
    obtain ⟨k, t, rfl, rfl, hk, ht, HT⟩ := hrel
    by_cases hlt : k < n
    · have hk' : (k : Int) < n := by omega
      have hoa' := hoa (by omega)
      subst hoa'
      obtain ⟨x, hx⟩ : ∃ x, xs[k]? = some x := ⟨_, List.getElem?_eq_getElem (by rw [HN.out]; exact hlt)⟩
      have hcx := hc k x hx
      have hxr := hr x (List.mem_of_getElem? hx)
      have HP : Hid (∀ w, Calls Try.prog 26 #[.int .i64 x, .int .i64 6] w fun e w' => e = .returned (.int .i64 (pickP x 6)) ∧ w' = w) := fun w => pick_any x 6 w (by omega) (by omega) hxr.1 hxr.2
      have hpr := pickP_range (c := x) (n := 6) (by omega)
      have HT2 : Hid (gapP (xs.take (k + 1)) = t ++ gapOne x) := by
        show _ = _
        rw [List.take_add_one, hx, HT.out]
        show 32 :: gapMore (xs.take k ++ [x]) = 32 :: gapMore (xs.take k) ++ gapOne x
        rw [gapMore_snoc]; rfl
      have hgo : gapOne x = if pickP x 6 = 0 then [9] else if pickP x 6 = 1 then [10] else if pickP x 6 = 2 then [13] else if pickP x 6 = 3 then [47, 42, 42, 47]
        else if pickP x 6 = 4 then [47, 42, 32, 97, 59, 123, 32, 47, 32, 42, 32, 47, 47, 32, 42, 47] else [32] := rfl
      generalize pickP x 6 = q at *
      clear hx hr hc HT hxr
      obtain rfl | rfl | rfl | rfl | rfl | rfl : q = 0 ∨ q = 1 ∨ q = 2 ∨ q = 3 ∨ q = 4 ∨ q = 5 := by omega
      all_goals (
        simp only [reduceIte, Int.reduceEq] at hgo
        rw [hgo] at HT2
        clear hgo hpr
        go_wp2_with (go_at_call 26; refine (HP.out _).mono ?_; rintro e w' ⟨rfl, rfl⟩)
        go_round
        case rel => exact ⟨k + 1, _, by go_num, by first | exact congrArg Value.string (S_app t _), by omega, by simp; omega, HT2.out.symm⟩
        case measure => simp [intOf]; omega)
    · obtain rfl : k = n := by omega
      have HF : Hid (t = gapP xs) := by
        show _ = _
        rw [HT.out, List.take_of_length_le (by rw [HN.out]; omega)]
      go_wp2
      go_ret
      exact ⟨by rw [← HF.out]; rfl, rfl⟩

end Go.Proofs.Ythnnmgiihpdblab
