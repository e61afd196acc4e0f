/- LexParts' own functions: a piece's token, numbers below 0. -/
import Derived.Test.YthnnmgiihpdblabLw
namespace Go.Proofs.Ythnnmgiihpdblab
open Go.RowKit

set_option maxHeartbeats 4000000 in
theorem token_neg (m : Nat) (s : List UInt8) (oa : Option Addr) (gl gc : Nat) (gap : List Int) (w : World) (hm1 : 1 ≤ m) (hm2 : (m : Int) ≤ 2147483648) :
    Calls Try.prog 16 #[.agg #[.int .i64 1, .int .i64 (-(m : Int)), S s, .slice oa gl gc]] w (TokPost ⟨1, -(m : Int), s, gap⟩ w) := by
  have HP : Hid (∀ w, Calls Try.prog 26 #[.int .i64 (-(m : Int)), .int .i64 4294967296] w fun e w' => e = .returned (.int .i64 (pickP (-(m : Int)) 4294967296)) ∧ w' = w) := fun w => pick_any _ _ w (by omega) (by omega) (by omega) (by omega)
  have HD : Hid (∀ w, Calls Try.prog 28 #[.int .i64 (m : Int), .int .i64 10] w fun e w' => e = .returned (S (digitsL 10 m)) ∧ ∃ k, w' = w.drewN k) := fun w => ldigits_10 m (by omega) w
  have HT : Hid (tokP ⟨1, -(m : Int), s, gap⟩ = (⟨3, [], -(m : Int), 0⟩, [45] ++ digitsL 10 m)) := by
    show _ = _
    unfold tokP
    rw [if_neg (show ¬ ((1 : Int) = 0) by decide), if_pos rfl, if_pos (show -(m : Int) < 0 ∧ -2147483648 ≤ -(m : Int) by omega)]
    show (_, 45 :: digitsL 10 (- -(m : Int)).toNat) = _
    rw [Int.neg_neg, Int.toNat_natCast]; rfl
  have hdl := digits_len 10 m (by omega) (by omega)
  have hn1 : -(m : Int) < 0 := by omega
  have hn2 : -2147483648 ≤ -(m : Int) := by omega
  generalize pickP (-(m : Int)) 4294967296 = q at *
  generalize digitsL 10 m = R at *
  have hcat' : (9223372036854775807 < 1 + R.length) = False := by simp; omega
  have hcat := hcat'
  go_enter Try.func16, Try.ntmps16
  go_wp2_with fail
  refine (HP.out _).mono ?_
  rintro e w' ⟨rfl, rfl⟩
  go_wp2_with fail
  have hng : IntKind.i64.wrap (- -(m : Int)) = (m : Int) := by rw [IntKind.wrap_i64]; omega
  generalize hN : -(m : Int) = n at *
  have HNM : Hid (-(m : Int) = n) := hN
  clear hN hcat hdl hm1 hm2 HP
  rename_i K2 K1 h0 K0 a2 a1 a0
  have A0 : Hid (∀ a w, _ → K0 a w) := a0
  clear a0 a1 a2 h0
  have hcat : (9223372036854775807 < 1 + R.length) = False := hcat'
  go_region_with (go_at_call 28; refine (HD.out _).mono ?_; rintro e w1 ⟨rfl, k, rfl⟩)
  all_goals (
    have a0 := A0.out
    go_wp2
    refine bodyPost_ret (v := .tuple #[.agg #[.int .i64 3, S [], .int .i64 n, .int .i64 0], .string (⟨#[45]⟩ ++ ⟨R.toArray⟩)]) (by simp [results, Try.results16, go_sem]) rfl (post_of HT.out (S_app [45] R) ?_)
    exact tok_fin (below_drewN (((Below.refl _ _).alloc (Nat.le_refl _) _).alloc (by simp) _) _))

theorem token_any (p : Pc) (oa : Option Addr) (gl gc : Nat) (w : World) (h1 : -9223372036854775808 ≤ p.n) (h2 : p.n ≤ 9223372036854775807) (hl : (p.s.length : Int) ≤ 9223372036854775807) :
    Calls Try.prog 16 #[.agg #[.int .i64 p.what, .int .i64 p.n, S p.s, .slice oa gl gc]] w (TokPost p w) := by
  obtain ⟨wh, n, s, gap⟩ := p
  simp only at h1 h2 hl ⊢
  by_cases k0 : wh = 0
  · subst k0; exact token_0 n s oa gl gc gap w h1 h2 hl
  by_cases k1 : wh = 1
  · subst k1
    by_cases hn : n < 0 ∧ -2147483648 ≤ n
    · have := token_neg (-n).toNat s oa gl gc gap w (by omega) (by omega)
      rwa [show -(((-n).toNat : Nat) : Int) = n by omega] at this
    · exact token_1p n s oa gl gc gap w h1 h2 hn
  by_cases k2 : wh = 2
  · subst k2; exact token_2 n s oa gl gc gap w h1 h2
  by_cases k3 : wh = 3
  · subst k3; exact token_3 n s oa gl gc gap w h1 h2
  exact token_s wh n s oa gl gc gap w h1 h2 k0 k1 k2 k3

end Go.Proofs.Ythnnmgiihpdblab
