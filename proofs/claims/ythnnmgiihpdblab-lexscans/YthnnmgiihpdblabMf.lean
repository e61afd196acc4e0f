/- The document's own: one token, signs and what nothing begins with. -/
import Derived.Test.YthnnmgiihpdblabMe
namespace Go.Proofs.Ythnnmgiihpdblab
open Go.RowKit

set_option maxHeartbeats 8000000 in
theorem one_sign (l : List UInt8) (i : Nat) (w : World) (hi : i < l.length) (hl : l.length ≤ 16000) (hb : blankB (l.getD i 0) = false) (hcm : ¬ (l.getD i 0 = 47 ∧ l.getD (i + 1) 0 = 42)) (hlet : letB (l.getD i 0) = false) (hdg : digB (l.getD (numAt l i) 0) = false) : Calls Try.prog 19 #[S l, .int .i64 i] w (OnePost (stepS l i) w) := by
  have hst : stepS l i = if signB (l.getD i 0) then .go (some ⟨4, sub l i (i + 1), 0, i⟩) (i + 1) else .err 30 := by
    conv => lhs; unfold stepS
    rw [if_neg (by rw [hb]; decide), if_neg hcm, if_neg (by rw [hlet]; decide), if_neg (by rw [hdg]; decide)]
  have H1 : Hid (∀ w, Calls Try.prog 25 #[.int .u8 ((l.getD i 0).toNat : Int)] w fun e w' => e = .returned (.bool false) ∧ w' = w) := fun w => by
    have := rletter_any ((l.getD i 0).toNat : Int) w
    rwa [show letterP ((l.getD i 0).toNat : Int) = false from hlet] at this
  have H4 : Hid (∀ w, Calls Try.prog 29 #[.int .u8 ((l.getD (numAt l i) 0).toNat : Int)] w fun e w' => e = .returned (.bool false) ∧ w' = w) := fun w => by
    have := rdigit_any ((l.getD (numAt l i) 0).toNat : Int) w
    rwa [show digitP ((l.getD (numAt l i) 0).toNat : Int) = false from hdg] at this
  have H6 : Hid (∀ w, Calls Try.prog 31 #[.int .u8 ((l.getD i 0).toNat : Int)] w fun e w' => e = .returned (.bool (signB (l.getD i 0))) ∧ w' = w) := fun w => rsign_any _ w
  have hsl := fun w => slice_sub w l i (i + 1) i ((i : Int) + 1) rfl (by omega) (by omega) (by omega)
  have hi' : (i : Int) < l.length := by omega
  have hcs : ({ data := l.toArray } : ByteArray)[i]'hi = l.getD i 0 := (getD_lt hi).symm
  have hbe := byte_eq (l.getD i 0) 45
  have hi2 : (i : Int) ≤ 16000 := by omega
  rw [hst]
  clear hst hb hcm hlet
  generalize sub l i (i + 1) = T at *
  by_cases h45 : l.getD i 0 = 45
  · have hna : numAt l i = i + 1 := by unfold numAt; rw [if_pos h45]
    have hsg : signB (l.getD i 0) = false := by rw [h45]; decide
    rw [if_neg (by rw [hsg]; decide)]
    rw [hsg] at H6
    rw [h45] at hcs H1 H6
    simp only [hna] at *
    clear hbe h45 hsg
    by_cases hlt : i + 1 < l.length
    · have hlt' : (i : Int) + 1 < l.length := by omega
      have hcs2 : ({ data := l.toArray } : ByteArray)[i + 1]'hlt = l.getD (i + 1) 0 := (getD_lt hlt).symm
      generalize l.getD (i + 1) 0 = d at *
      go_enter Try.func19, Try.ntmps19
      go_wp2_with fail
      refine (H1.out _).mono ?_
      rintro e w1 ⟨rfl, rfl⟩
      go_wp2_with fail
      refine (H4.out _).mono ?_
      rintro e w1 ⟨rfl, rfl⟩
      go_wp2_with fail
      refine (H6.out _).mono ?_
      rintro e w1 ⟨rfl, rfl⟩
      go_wp2
      exact bodyPost_ret (v := .tuple #[.agg #[.int .i64 0, S [], .int .i64 0, .int .i64 0], .int .i64 0, .int .i64 30]) (by simp [results, Try.results19, go_sem]) rfl ⟨(Below.refl _ _).alloc (Nat.le_refl _) _, rfl⟩
    · have hlt' : decide ((i : Int) + 1 < l.length) = false := decide_eq_false (by omega)
      have hlt3 : decide (i + 1 < l.length) = false := decide_eq_false (by omega)
      clear H4
      go_enter Try.func19, Try.ntmps19
      go_wp2_with fail
      refine (H1.out _).mono ?_
      rintro e w1 ⟨rfl, rfl⟩
      go_wp2_with fail
      refine (H6.out _).mono ?_
      rintro e w1 ⟨rfl, rfl⟩
      go_wp2
      exact bodyPost_ret (v := .tuple #[.agg #[.int .i64 0, S [], .int .i64 0, .int .i64 0], .int .i64 0, .int .i64 30]) (by simp [results, Try.results19, go_sem]) rfl ⟨(Below.refl _ _).alloc (Nat.le_refl _) _, rfl⟩
  · have hna : numAt l i = i := by unfold numAt; rw [if_neg h45]
    have hd45 : (((l.getD i 0).toNat : Int) == 45) = false := hbe.trans (by simpa using h45)
    simp only [hna] at *
    clear hbe h45
    generalize signB (l.getD i 0) = sb at *
    generalize l.getD i 0 = d at *
    cases sb
    · rw [if_neg (by decide)]
      go_enter Try.func19, Try.ntmps19
      go_wp2_with fail
      refine (H1.out _).mono ?_
      rintro e w1 ⟨rfl, rfl⟩
      go_wp2_with fail
      refine (H4.out _).mono ?_
      rintro e w1 ⟨rfl, rfl⟩
      go_wp2_with fail
      refine (H6.out _).mono ?_
      rintro e w1 ⟨rfl, rfl⟩
      go_wp2
      exact bodyPost_ret (v := .tuple #[.agg #[.int .i64 0, S [], .int .i64 0, .int .i64 0], .int .i64 0, .int .i64 30]) (by simp [results, Try.results19, go_sem]) rfl ⟨(Below.refl _ _).alloc (Nat.le_refl _) _, rfl⟩
    · rw [if_pos rfl]
      go_enter Try.func19, Try.ntmps19
      go_wp2_with fail
      refine (H1.out _).mono ?_
      rintro e w1 ⟨rfl, rfl⟩
      go_wp2_with fail
      refine (H4.out _).mono ?_
      rintro e w1 ⟨rfl, rfl⟩
      go_wp2_with fail
      refine (H6.out _).mono ?_
      rintro e w1 ⟨rfl, rfl⟩
      go_wp2
      exact bodyPost_ret (v := .tuple #[.agg #[.int .i64 4, S T, .int .i64 0, .int .i64 i], .int .i64 ((i : Int) + 1), .int .i64 0]) (by simp [results, Try.results19, go_sem]) rfl ⟨(Below.refl _ _).alloc (Nat.le_refl _) _, rfl⟩

theorem one_any (l : List UInt8) (i : Nat) (w : World) (hi : i < l.length) (hl : l.length ≤ 16000) (hb : blankB (l.getD i 0) = false) (hcm : ¬ (l.getD i 0 = 47 ∧ l.getD (i + 1) 0 = 42)) : Calls Try.prog 19 #[S l, .int .i64 i] w (OnePost (stepS l i) w) := by
  cases hlet : letB (l.getD i 0)
  · cases hdg : digB (l.getD (numAt l i) 0)
    · exact one_sign l i w hi hl hb hcm hlet hdg
    · exact one_number l i w hi hl hb hcm hlet hdg
  · exact one_letter l i w hi hl hb hlet

end Go.Proofs.Ythnnmgiihpdblab
