/- LexParts' own functions: a piece's token. -/
import Derived.Test.YthnnmgiihpdblabLu
import Derived.Deep.RegionWith
namespace Go.Proofs.Ythnnmgiihpdblab
open Go.RowKit

def TokPost (p : Pc) (w : World) (e : Ending) (w' : World) : Prop :=
  e = .returned (.tuple #[.agg #[.int .i64 (tokP p).1.kind, S (tokP p).1.text, .int .i64 (tokP p).1.num, .int .i64 0], S (tokP p).2]) ∧ Below w.heap.size w w'

theorem bcell {W w1 : World} (hb : Below W.heap.size W w1) : (∀ b o, b < W.heap.size → w1.cell? ⟨b, o, none⟩ = W.cell? ⟨b, o, none⟩) ∧ (∀ b o, b < W.heap.size → w1.frozen? ⟨b, o, none⟩ = W.frozen? ⟨b, o, none⟩) :=
  ⟨fun b o h => hb.cell (p := ⟨b, o, none⟩) h, fun b o h => hb.frozen (p := ⟨b, o, none⟩) h⟩

theorem tok_fin {w w1 : World} {a b c d : Value} (hB : Below w.heap.size w w1) : Below w.heap.size w ((((w1.setCell ⟨w.heap.size + 1, 0, none⟩ a).setCell ⟨w.heap.size + 1, 1, none⟩ b).setCell ⟨w.heap.size + 1, 2, none⟩ c).setCell ⟨w.heap.size + 1, 3, none⟩ d) :=
  (((hB.setCell (p := ⟨w.heap.size + 1, 0, none⟩) (by simp) _).setCell (p := ⟨w.heap.size + 1, 1, none⟩) (by simp) _).setCell (p := ⟨w.heap.size + 1, 2, none⟩) (by simp) _).setCell (p := ⟨w.heap.size + 1, 3, none⟩) (by simp) _

theorem post_of {p : Pc} {w w' : World} {K N : Int} {T U : List UInt8} {B : ByteArray} (h : tokP p = (⟨K, T, N, 0⟩, U)) (hU : B = ⟨U.toArray⟩) (hB : Below w.heap.size w w') : TokPost p w (.returned (.tuple #[.agg #[.int .i64 K, S T, .int .i64 N, .int .i64 0], .string B])) w' := by
  unfold TokPost
  rw [h, hU]; exact ⟨rfl, hB⟩

set_option maxHeartbeats 4000000 in
theorem token_0 (n : Int) (s : List UInt8) (oa : Option Addr) (gl gc : Nat) (gap : List Int) (w : World) (h1 : -9223372036854775808 ≤ n) (h2 : n ≤ 9223372036854775807) (hl : (s.length : Int) ≤ 9223372036854775807) :
    Calls Try.prog 16 #[.agg #[.int .i64 0, .int .i64 n, S s, .slice oa gl gc]] w (TokPost ⟨0, n, s, gap⟩ w) := by
  have HP : Hid (∀ w, Calls Try.prog 26 #[.int .i64 n, .int .i64 4294967296] w fun e w' => e = .returned (.int .i64 (pickP n 4294967296)) ∧ w' = w) := fun w => pick_any n _ w (by omega) (by omega) h1 h2
  have HR : Hid (∀ w, Calls Try.prog 27 #[S s] w fun e w' => e = .returned (S (runL s)) ∧ Below w.heap.size w w') := fun w => run_any s w hl
  have HW : Hid (∀ w, Calls Try.prog 11 #[S (runL s)] w fun e w' => e = .returned (.bool (isWordP (runL s))) ∧ w' = w) := fun w => isWord_any _ w
  have HT : Hid (∀ b, isWordP (runL s) = b → tokP ⟨0, n, s, gap⟩ = (⟨if b then 2 else 1, runL s, 0, 0⟩, runL s)) := fun b hb => by rw [← hb]; rfl
  generalize pickP n 4294967296 = q at *
  generalize runL s = R at *
  cases hb : isWordP R
  · have HTT : Hid (tokP ⟨0, n, s, gap⟩ = (⟨1, R, 0, 0⟩, R)) := HT.out false hb
    rw [hb] at HW
    clear hb HT
    go_enter Try.func16, Try.ntmps16
    go_wp2_with fail
    refine (HP.out _).mono ?_
    rintro e w' ⟨rfl, rfl⟩
    go_wp2_with fail
    refine (HR.out _).mono ?_
    rintro e w1 ⟨rfl, hB⟩
    obtain ⟨hc, hf⟩ := bcell hB
    have HB : Hid (Below w.heap.size w w1) := (((Below.refl _ _).alloc (Nat.le_refl _) _).alloc (by simp) _).trans (hB.mono (by simp; omega))
    have hz := hB.size
    simp at hz
    clear hB
    go_wp2_with fail
    refine (HW.out _).mono ?_
    rintro e w2 ⟨rfl, hw⟩
    have hw1 := hw.symm
    clear hw
    subst hw1
    go_wp2
    exact bodyPost_ret (v := .tuple #[.agg #[.int .i64 1, S R, .int .i64 0, .int .i64 0], S R]) (by simp [results, Try.results16, go_sem, hc]) rfl (post_of HTT.out rfl (tok_fin HB.out))
  · have HTT : Hid (tokP ⟨0, n, s, gap⟩ = (⟨2, R, 0, 0⟩, R)) := HT.out true hb
    rw [hb] at HW
    clear hb HT
    go_enter Try.func16, Try.ntmps16
    go_wp2_with fail
    refine (HP.out _).mono ?_
    rintro e w' ⟨rfl, rfl⟩
    go_wp2_with fail
    refine (HR.out _).mono ?_
    rintro e w1 ⟨rfl, hB⟩
    obtain ⟨hc, hf⟩ := bcell hB
    have HB : Hid (Below w.heap.size w w1) := (((Below.refl _ _).alloc (Nat.le_refl _) _).alloc (by simp) _).trans (hB.mono (by simp; omega))
    have hz := hB.size
    simp at hz
    clear hB
    go_wp2_with fail
    refine (HW.out _).mono ?_
    rintro e w2 ⟨rfl, hw⟩
    have hw1 := hw.symm
    clear hw
    subst hw1
    go_wp2
    exact bodyPost_ret (v := .tuple #[.agg #[.int .i64 2, S R, .int .i64 0, .int .i64 0], S R]) (by simp [results, Try.results16, go_sem, hc]) rfl (post_of HTT.out rfl (tok_fin HB.out))

theorem digits_len (base n : Nat) (hb : 2 ≤ base) (hn : n < 4294967296) : (digitsL base n).length ≤ 33 := by
  have key : ∀ f n, n < 2 ^ f → (digitsL base n).length ≤ f + 1 := fun f => by
    induction f with
    | zero => intro n hn; rw [digitsL_small (by omega)]; simp
    | succ f ih =>
      intro n hn
      by_cases h : n < base
      · rw [digitsL_small h]; simp
      · rw [digitsL_great hb h, List.length_append]
        have h2 : n / base < 2 ^ f := by
          have : n / base ≤ n / 2 := Nat.div_le_div_left hb (by omega)
          have : 2 ^ (f + 1) = 2 * 2 ^ f := by rw [Nat.pow_succ]; omega
          omega
        have := ih _ h2
        simp; omega
  exact key 32 n (by omega)

set_option maxHeartbeats 4000000 in
theorem token_1p (n : Int) (s : List UInt8) (oa : Option Addr) (gl gc : Nat) (gap : List Int) (w : World) (h1 : -9223372036854775808 ≤ n) (h2 : n ≤ 9223372036854775807) (hn : ¬ (n < 0 ∧ -2147483648 ≤ n)) :
    Calls Try.prog 16 #[.agg #[.int .i64 1, .int .i64 n, S s, .slice oa gl gc]] w (TokPost ⟨1, n, s, gap⟩ w) := by
  have HP : Hid (∀ w, Calls Try.prog 26 #[.int .i64 n, .int .i64 4294967296] w fun e w' => e = .returned (.int .i64 (pickP n 4294967296)) ∧ w' = w) := fun w => pick_any n _ w (by omega) (by omega) h1 h2
  have hpr := pickP_range (c := n) (n := 4294967296) (by omega)
  have HD : Hid (∀ w, Calls Try.prog 28 #[.int .i64 (pickP n 4294967296), .int .i64 10] w fun e w' => e = .returned (S (digitsL 10 (pickP n 4294967296).toNat)) ∧ ∃ k, w' = w.drewN k) := fun w => by
    have := ldigits_10 (pickP n 4294967296).toNat (by omega) w
    rwa [Int.toNat_of_nonneg hpr.1] at this
  have HT : Hid (tokP ⟨1, n, s, gap⟩ = (⟨3, [], pickP n 4294967296, 0⟩,  digitsL 10 (pickP n 4294967296).toNat)) := by
    show _ = _
    unfold tokP
    rw [if_neg (show ¬ ((1 : Int) = 0) by decide), if_pos rfl, if_neg hn]
  have hdl := digits_len 10 (pickP n 4294967296).toNat (by omega) (by omega)
  generalize pickP n 4294967296 = q at *
  generalize digitsL 10 q.toNat = R at *
  have hcat : (9223372036854775807 < 1 + R.length) = False := by simp; omega
  have hq : decide (n < 0) = false ∨ (n < 0 ∧ decide (-2147483648 ≤ n) = false) := by
    by_cases h : n < 0
    · exact .inr ⟨h, decide_eq_false (fun h3 => hn ⟨h, h3⟩)⟩
    · exact .inl (decide_eq_false h)
  clear hn
  rcases hq with hq | ⟨hq1, hq2⟩
  all_goals
    go_enter Try.func16, Try.ntmps16
    go_wp2_with fail
    refine (HP.out _).mono ?_
    rintro e w' ⟨rfl, rfl⟩
    go_wp2_with fail
    refine (HD.out _).mono ?_
    rintro e w1 ⟨rfl, k, rfl⟩
    go_wp2
    exact bodyPost_ret (v := .tuple #[.agg #[.int .i64 3, S [], .int .i64 q, .int .i64 0], S R]) (by simp [results, Try.results16, go_sem]) rfl (post_of HT.out rfl (tok_fin (below_drewN (((Below.refl _ _).alloc (Nat.le_refl _) _).alloc (by simp) _) k)))

set_option maxHeartbeats 4000000 in
theorem token_2 (n : Int) (s : List UInt8) (oa : Option Addr) (gl gc : Nat) (gap : List Int) (w : World) (h1 : -9223372036854775808 ≤ n) (h2 : n ≤ 9223372036854775807) :
    Calls Try.prog 16 #[.agg #[.int .i64 2, .int .i64 n, S s, .slice oa gl gc]] w (TokPost ⟨2, n, s, gap⟩ w) := by
  have HP : Hid (∀ w, Calls Try.prog 26 #[.int .i64 n, .int .i64 4294967296] w fun e w' => e = .returned (.int .i64 (pickP n 4294967296)) ∧ w' = w) := fun w => pick_any n _ w (by omega) (by omega) h1 h2
  have hpr := pickP_range (c := n) (n := 4294967296) (by omega)
  have HD : Hid (∀ w, Calls Try.prog 28 #[.int .i64 (pickP n 4294967296), .int .i64 16] w fun e w' => e = .returned (S (digitsL 16 (pickP n 4294967296).toNat)) ∧ ∃ k, w' = w.drewN k) := fun w => by
    have := ldigits_16 (pickP n 4294967296).toNat (by omega) w
    rwa [Int.toNat_of_nonneg hpr.1] at this
  have HT : Hid (tokP ⟨2, n, s, gap⟩ = (⟨3, [], pickP n 4294967296, 0⟩, [48, 120] ++ digitsL 16 (pickP n 4294967296).toNat)) := by
    show _ = _
    unfold tokP
    rw [if_neg (show ¬ ((2 : Int) = 0) by decide), if_neg (show ¬ ((2 : Int) = 1) by decide), if_pos rfl]; rfl
  have hdl := digits_len 16 (pickP n 4294967296).toNat (by omega) (by omega)
  generalize pickP n 4294967296 = q at *
  generalize digitsL 16 q.toNat = R at *
  have hcat : (9223372036854775807 < 2 + R.length) = False := by simp; omega
  go_enter Try.func16, Try.ntmps16
  go_wp2_with fail
  refine (HP.out _).mono ?_
  rintro e w' ⟨rfl, rfl⟩
  go_wp2_with fail
  refine (HD.out _).mono ?_
  rintro e w1 ⟨rfl, k, rfl⟩
  go_wp2
  exact bodyPost_ret (v := .tuple #[.agg #[.int .i64 3, S [], .int .i64 q, .int .i64 0], .string (⟨#[48, 120]⟩ ++ ⟨R.toArray⟩)]) (by simp [results, Try.results16, go_sem]) rfl (post_of HT.out (S_app [48, 120] R) (tok_fin (below_drewN (((Below.refl _ _).alloc (Nat.le_refl _) _).alloc (by simp) _) k)))

set_option maxHeartbeats 4000000 in
theorem token_3 (n : Int) (s : List UInt8) (oa : Option Addr) (gl gc : Nat) (gap : List Int) (w : World) (h1 : -9223372036854775808 ≤ n) (h2 : n ≤ 9223372036854775807) :
    Calls Try.prog 16 #[.agg #[.int .i64 3, .int .i64 n, S s, .slice oa gl gc]] w (TokPost ⟨3, n, s, gap⟩ w) := by
  have HP : Hid (∀ w, Calls Try.prog 26 #[.int .i64 n, .int .i64 4294967296] w fun e w' => e = .returned (.int .i64 (pickP n 4294967296)) ∧ w' = w) := fun w => pick_any n _ w (by omega) (by omega) h1 h2
  have hpr := pickP_range (c := n) (n := 4294967296) (by omega)
  have HD : Hid (∀ w, Calls Try.prog 28 #[.int .i64 (pickP n 4294967296), .int .i64 8] w fun e w' => e = .returned (S (digitsL 8 (pickP n 4294967296).toNat)) ∧ ∃ k, w' = w.drewN k) := fun w => by
    have := ldigits_8 (pickP n 4294967296).toNat (by omega) w
    rwa [Int.toNat_of_nonneg hpr.1] at this
  have HT : Hid (tokP ⟨3, n, s, gap⟩ = (⟨3, [], pickP n 4294967296, 0⟩, [48] ++ digitsL 8 (pickP n 4294967296).toNat)) := by
    show _ = _
    unfold tokP
    rw [if_neg (show ¬ ((3 : Int) = 0) by decide), if_neg (show ¬ ((3 : Int) = 1) by decide), if_neg (show ¬ ((3 : Int) = 2) by decide), if_pos rfl]; rfl
  have hdl := digits_len 8 (pickP n 4294967296).toNat (by omega) (by omega)
  generalize pickP n 4294967296 = q at *
  generalize digitsL 8 q.toNat = R at *
  have hcat : (9223372036854775807 < 1 + R.length) = False := by simp; omega
  go_enter Try.func16, Try.ntmps16
  go_wp2_with fail
  refine (HP.out _).mono ?_
  rintro e w' ⟨rfl, rfl⟩
  go_wp2_with fail
  refine (HD.out _).mono ?_
  rintro e w1 ⟨rfl, k, rfl⟩
  go_wp2
  exact bodyPost_ret (v := .tuple #[.agg #[.int .i64 3, S [], .int .i64 q, .int .i64 0], .string (⟨#[48]⟩ ++ ⟨R.toArray⟩)]) (by simp [results, Try.results16, go_sem]) rfl (post_of HT.out (S_app [48] R) (tok_fin (below_drewN (((Below.refl _ _).alloc (Nat.le_refl _) _).alloc (by simp) _) k)))

end Go.Proofs.Ythnnmgiihpdblab
