/- LexParts' own functions: a piece's token, numbers below 0 and signs. -/
import Derived.Test.YthnnmgiihpdblabLv
namespace Go.Proofs.Ythnnmgiihpdblab
open Go.RowKit

theorem slice_sign (w : World) (d : Nat) (h : d < 13) :
    (Instr.slice 9 (.string ⟨#[123, 125, 40, 41, 91, 93, 60, 62, 61, 59, 58, 44, 42]⟩) (some (.int .i64 d)) (some (.int .i64 ((d : Int) + 1))) none).run Try.prog w = .ok (S [([123, 125, 40, 41, 91, 93, 60, 62, 61, 59, 58, 44, 42] : List UInt8).getD d 0]) w := by
  have e := slice_str w (⟨#[123, 125, 40, 41, 91, 93, 60, 62, 61, 59, 58, 44, 42]⟩ : ByteArray) (d : Int) ((d : Int) + 1) (by omega) (by omega) (by show (d : Int) + 1 ≤ ((13 : Nat) : Int); omega)
  rw [e, show ((d : Int) + 1).toNat = d + 1 by omega, Int.toNat_natCast]
  have hb : (⟨#[123, 125, 40, 41, 91, 93, 60, 62, 61, 59, 58, 44, 42]⟩ : ByteArray) = ⟨([123, 125, 40, 41, 91, 93, 60, 62, 61, 59, 58, 44, 42] : List UInt8).toArray⟩ := rfl
  have hd : ∀ d : Fin 13, (([123, 125, 40, 41, 91, 93, 60, 62, 61, 59, 58, 44, 42] : List UInt8).drop d.val).take (d.val + 1 - d.val) = [([123, 125, 40, 41, 91, 93, 60, 62, 61, 59, 58, 44, 42] : List UInt8).getD d.val 0] := by decide
  rw [hb, S_extract, hd ⟨d, h⟩]

set_option maxHeartbeats 4000000 in
theorem token_s (wh n : Int) (s : List UInt8) (oa : Option Addr) (gl gc : Nat) (gap : List Int) (w : World) (h1 : -9223372036854775808 ≤ n) (h2 : n ≤ 9223372036854775807) (k0 : wh ≠ 0) (k1 : wh ≠ 1) (k2 : wh ≠ 2) (k3 : wh ≠ 3) :
    Calls Try.prog 16 #[.agg #[.int .i64 wh, .int .i64 n, S s, .slice oa gl gc]] w (TokPost ⟨wh, n, s, gap⟩ w) := by
  have HP : Hid (∀ w, Calls Try.prog 26 #[.int .i64 n, .int .i64 4294967296] w fun e w' => e = .returned (.int .i64 (pickP n 4294967296)) ∧ w' = w) := fun w => pick_any n _ w (by omega) (by omega) h1 h2
  have HP2 : Hid (∀ w, Calls Try.prog 26 #[.int .i64 n, .int .i64 13] w fun e w' => e = .returned (.int .i64 ((pickP n 13).toNat : Nat)) ∧ w' = w) := fun w => by
    have := pick_any n 13 w (by omega) (by omega) h1 h2
    rwa [Int.toNat_of_nonneg (pickP_range (by omega)).1]
  have hpr := pickP_range (c := n) (n := 13) (by omega)
  have hd : (pickP n 13).toNat < 13 := by omega
  have hsl := fun w => slice_sign w (pickP n 13).toNat hd
  have HT : Hid (tokP ⟨wh, n, s, gap⟩ = (⟨4, signT n, 0, 0⟩, signT n)) := by
    show _ = _
    unfold tokP
    rw [if_neg k0, if_neg k1, if_neg k2, if_neg k3]
  rw [show [([123, 125, 40, 41, 91, 93, 60, 62, 61, 59, 58, 44, 42] : List UInt8).getD (pickP n 13).toNat 0] = signT n from rfl] at hsl
  have j0 : (wh == 0) = false := beq_eq_false_iff_ne.2 k0
  have j1 : (wh == 1) = false := beq_eq_false_iff_ne.2 k1
  have j2 : (wh == 2) = false := beq_eq_false_iff_ne.2 k2
  have j3 : (wh == 3) = false := beq_eq_false_iff_ne.2 k3
  generalize (pickP n 13).toNat = d at *
  generalize pickP n 4294967296 = q at *
  generalize signT n = R at *
  clear k0 k1 k2 k3 hpr
  go_enter Try.func16, Try.ntmps16
  go_wp2_with fail
  refine (HP.out _).mono ?_
  rintro e w' ⟨rfl, rfl⟩
  go_wp2_with fail
  refine (HP2.out _).mono ?_
  rintro e w' ⟨rfl, rfl⟩
  go_wp2
  exact bodyPost_ret (v := .tuple #[.agg #[.int .i64 4, S R, .int .i64 0, .int .i64 0], S R]) (by simp [results, Try.results16, go_sem]) rfl (post_of HT.out rfl (((Below.refl _ _).alloc (Nat.le_refl _) _).alloc (by simp) _))

end Go.Proofs.Ythnnmgiihpdblab
