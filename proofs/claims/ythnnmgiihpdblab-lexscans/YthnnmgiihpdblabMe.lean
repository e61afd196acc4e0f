/- The document's own: one token. -/
import Derived.Test.YthnnmgiihpdblabMd
namespace Go.Proofs.Ythnnmgiihpdblab
open Go.RowKit

def OnePost (s : Stp) (w : World) (e : Ending) (w' : World) : Prop :=
  Below w.heap.size w w' ∧ match s with
  | .go (some t) j => e = .returned (.tuple #[.agg #[.int .i64 t.kind, S t.text, .int .i64 t.num, .int .i64 t.at_], .int .i64 j, .int .i64 0])
  | .go none _ => False
  | .err r => e = .returned (.tuple #[.agg #[.int .i64 0, S [], .int .i64 0, .int .i64 0], .int .i64 0, .int .i64 r])

theorem slice_sub (w : World) (l : List UInt8) (i j : Nat) (x y : Int) (hx : x = i) (hy : y = j) (h1 : i ≤ j) (h2 : j ≤ l.length) :
    (Instr.slice 9 (S l) (some (.int .i64 x)) (some (.int .i64 y)) none).run Try.prog w = .ok (S (sub l i j)) w := by
  subst hx hy
  have e := slice_str w (⟨l.toArray⟩ : ByteArray) (i : Int) (j : Int) (by omega) (by omega) (by show (j : Int) ≤ ((l.length : Nat) : Int); omega)
  rw [e, Int.toNat_natCast, Int.toNat_natCast, S_extract]; rfl

set_option maxHeartbeats 4000000 in
theorem one_letter (l : List UInt8) (i : Nat) (w : World) (hi : i < l.length) (hl : l.length ≤ 16000) (hb : blankB (l.getD i 0) = false) (hlet : letB (l.getD i 0) = true) : Calls Try.prog 19 #[S l, .int .i64 i] w (OnePost (stepS l i) w) := by
  have hln := let_not hlet
  have hE := runEnd_le (l := l) (i := i + 1) (by omega)
  rw [← runEnd_go hln.2.2.2.2.2] at hE
  have hst : stepS l i = if 32 < runEnd l i - i then .err 32 else .go (some ⟨if isWordP (sub l i (runEnd l i)) then 2 else 1, sub l i (runEnd l i), 0, i⟩) (runEnd l i) := by
    conv => lhs; unfold stepS
    rw [if_neg (by rw [hb]; decide), if_neg (fun h => hln.2.1 h.1), if_pos hlet]
  have H1 : Hid (∀ w, Calls Try.prog 25 #[.int .u8 ((l.getD i 0).toNat : Int)] w fun e w' => e = .returned (.bool true) ∧ w' = w) := fun w => by
    have := rletter_any ((l.getD i 0).toNat : Int) w
    rwa [show letterP ((l.getD i 0).toNat : Int) = true from hlet] at this
  have H2 : Hid (∀ w, Calls Try.prog 22 #[S l, .int .i64 i] w fun e w' => e = .returned (.int .i64 (runEnd l i : Nat)) ∧ w' = w) := fun w => rrun_any l i w (by omega) (by omega)
  have hsl := fun w => slice_sub w l i (runEnd l i) i (runEnd l i) rfl rfl (by omega) hE.2
  have H3 : Hid (∀ w, Calls Try.prog 12 #[S (sub l i (runEnd l i))] w fun e w' => e = .returned (.bool (isWordP (sub l i (runEnd l i)))) ∧ w' = w) := fun w => rIsWord_any _ w (by rw [sub_length (by omega) hE.2]; omega)
  have hTl := sub_length (l := l) (i := i) (j := runEnd l i) (by omega) hE.2
  have hi' : (i : Int) < l.length := by omega
  have hcs : ({ data := l.toArray } : ByteArray)[i]'hi = l.getD i 0 := (getD_lt hi).symm
  rw [hst]
  clear hst hln hlet hb
  generalize runEnd l i = E at *
  generalize sub l i E = T at *
  generalize l.getD i 0 = c at *
  have hlen : (T.length : Int) ≤ 16000 := by omega
  rw [← hTl]
  clear hTl
  by_cases h32 : 32 < T.length
  · rw [if_pos h32]
    have h32' : (32 : Int) < T.length := by omega
    have h32'' : decide ((32 : Int) < T.length) = true := decide_eq_true (by omega)
    generalize isWordP T = b at *
    cases b
    all_goals (
      go_enter Try.func19, Try.ntmps19
      go_wp2_with fail
      refine (H1.out _).mono ?_
      rintro e w1 ⟨rfl, rfl⟩
      go_wp2_with fail
      refine (H2.out _).mono ?_
      rintro e w1 ⟨rfl, rfl⟩
      go_wp2_with fail
      refine (H3.out _).mono ?_
      rintro e w1 ⟨rfl, rfl⟩
      go_wp2
      exact bodyPost_ret (v := .tuple #[.agg #[.int .i64 0, S [], .int .i64 0, .int .i64 0], .int .i64 0, .int .i64 32]) (by simp [results, Try.results19, go_sem]) rfl ⟨((Below.refl _ _).alloc (Nat.le_refl _) _).alloc (by simp) _, rfl⟩)
  · rw [if_neg h32]
    have h32'' : decide ((32 : Int) < T.length) = false := decide_eq_false (by omega)
    cases hw : isWordP T
    · rw [hw] at H3
      show Calls Try.prog 19 #[S l, .int .i64 i] w (OnePost (.go (some ⟨1, T, 0, i⟩) E) w)
      clear hw
      go_enter Try.func19, Try.ntmps19
      go_wp2_with fail
      refine (H1.out _).mono ?_
      rintro e w1 ⟨rfl, rfl⟩
      go_wp2_with fail
      refine (H2.out _).mono ?_
      rintro e w1 ⟨rfl, rfl⟩
      go_wp2_with fail
      refine (H3.out _).mono ?_
      rintro e w1 ⟨rfl, rfl⟩
      go_wp2
      exact bodyPost_ret (v := .tuple #[.agg #[.int .i64 1, S T, .int .i64 0, .int .i64 i], .int .i64 E, .int .i64 0]) (by simp [results, Try.results19, go_sem]) rfl ⟨((Below.refl _ _).alloc (Nat.le_refl _) _).alloc (by simp) _, rfl⟩
    · rw [hw] at H3
      show Calls Try.prog 19 #[S l, .int .i64 i] w (OnePost (.go (some ⟨2, T, 0, i⟩) E) w)
      clear hw
      go_enter Try.func19, Try.ntmps19
      go_wp2_with fail
      refine (H1.out _).mono ?_
      rintro e w1 ⟨rfl, rfl⟩
      go_wp2_with fail
      refine (H2.out _).mono ?_
      rintro e w1 ⟨rfl, rfl⟩
      go_wp2_with fail
      refine (H3.out _).mono ?_
      rintro e w1 ⟨rfl, rfl⟩
      go_wp2
      exact bodyPost_ret (v := .tuple #[.agg #[.int .i64 2, S T, .int .i64 0, .int .i64 i], .int .i64 E, .int .i64 0]) (by simp [results, Try.results19, go_sem]) rfl ⟨((Below.refl _ _).alloc (Nat.le_refl _) _).alloc (by simp) _, rfl⟩

theorem sub_cons {l : List UInt8} {i j : Nat} (h : i < j) (hj : j ≤ l.length) : sub l i j = l.getD i 0 :: sub l (i + 1) j := by
  unfold sub
  rw [drop_cons (by omega), show j - i = (j - (i + 1)) + 1 by omega, List.take_succ_cons]

set_option maxHeartbeats 8000000 in
theorem one_number (l : List UInt8) (i : Nat) (w : World) (hi : i < l.length) (hl : l.length ≤ 16000) (hb : blankB (l.getD i 0) = false) (hcm : ¬ (l.getD i 0 = 47 ∧ l.getD (i + 1) 0 = 42)) (hlet : letB (l.getD i 0) = false) (hdg : digB (l.getD (numAt l i) 0) = true) : Calls Try.prog 19 #[S l, .int .i64 i] w (OnePost (stepS l i) w) := by
  have hnl : numAt l i < l.length := by
    rcases Nat.lt_or_ge (numAt l i) l.length with h | h
    · exact h
    · rw [getD_ge h] at hdg; cases hdg
  have hE := runEnd_le (l := l) (i := numAt l i + 1) (by omega)
  rw [← runEnd_go (dig_not hdg).2.2.2.2.2] at hE
  have hst : stepS l i = match numP (sub l i (runEnd l (numAt l i))) with | none => .err 31 | some n => .go (some ⟨3, [], n, i⟩) (runEnd l (numAt l i)) := by
    conv => lhs; unfold stepS
    rw [if_neg (by rw [hb]; decide), if_neg hcm, if_neg (by rw [hlet]; decide), if_pos hdg]
    cases numP (sub l i (runEnd l (numAt l i))) <;> rfl
  have H1 : Hid (∀ w, Calls Try.prog 25 #[.int .u8 ((l.getD i 0).toNat : Int)] w fun e w' => e = .returned (.bool false) ∧ w' = w) := fun w => by
    have := rletter_any ((l.getD i 0).toNat : Int) w
    rwa [show letterP ((l.getD i 0).toNat : Int) = false from hlet] at this
  have H4 : Hid (∀ w, Calls Try.prog 29 #[.int .u8 ((l.getD (numAt l i) 0).toNat : Int)] w fun e w' => e = .returned (.bool true) ∧ w' = w) := fun w => by
    have := rdigit_any ((l.getD (numAt l i) 0).toNat : Int) w
    rwa [show digitP ((l.getD (numAt l i) 0).toNat : Int) = true from hdg] at this
  have H2 : Hid (∀ w, Calls Try.prog 22 #[S l, .int .i64 (numAt l i : Nat)] w fun e w' => e = .returned (.int .i64 (runEnd l (numAt l i) : Nat)) ∧ w' = w) := fun w => rrun_any l _ w (by omega) (by omega)
  have hsl := fun w => slice_sub w l (numAt l i) (runEnd l (numAt l i)) (numAt l i) (runEnd l (numAt l i)) rfl rfl (by omega) hE.2
  have hTl := sub_length (l := l) (i := numAt l i) (j := runEnd l (numAt l i)) (by omega) hE.2
  have hi' : (i : Int) < l.length := by omega
  have hcs : ({ data := l.toArray } : ByteArray)[i]'hi = l.getD i 0 := (getD_lt hi).symm
  have hcs2 : ({ data := l.toArray } : ByteArray)[numAt l i]'hnl = l.getD (numAt l i) 0 := (getD_lt hnl).symm
  have hbe := byte_eq (l.getD i 0) 45
  have hnl' : (numAt l i : Int) < l.length := by omega
  have hT0 : (sub l (numAt l i) (runEnd l (numAt l i))).getD 0 0 = l.getD (numAt l i) 0 := sub_getD0 (by omega)
  rw [hst]
  clear hst hb hcm hlet
  by_cases h45 : l.getD i 0 = 45
  · have hna : numAt l i = i + 1 := by unfold numAt; rw [if_pos h45]
    have hNP : numP (sub l i (runEnd l (numAt l i))) = numR (sub l (numAt l i) (runEnd l (numAt l i))) true := by
      rw [numR_minus, sub_cons (by omega) hE.2, h45, hna]
    rw [hNP]
    have H5 : Hid (∀ w, Calls Try.prog 30 #[S (sub l (numAt l i) (runEnd l (numAt l i))), .bool true] w (NumPost (numR (sub l (numAt l i) (runEnd l (numAt l i))) true) w)) := fun w => rnumber_minus _ (by omega) (by omega) w
    rw [h45] at hcs H1
    rw [show ((numAt l i : Nat) : Int) = (i : Int) + 1 by omega] at H2 hsl hnl'
    simp only [hna] at *
    clear hbe h45 hT0 hTl hNP
    generalize numR (sub l (i + 1) (runEnd l (i + 1))) true = o at *
    generalize sub l (i + 1) (runEnd l (i + 1)) = T at *
    generalize runEnd l (i + 1) = E at *
    generalize l.getD (i + 1) 0 = d at *
    cases o with
    | none =>
      go_enter Try.func19, Try.ntmps19
      go_wp2_with fail
      refine (H1.out _).mono ?_
      rintro e w1 ⟨rfl, rfl⟩
      go_wp2_with fail
      refine (H4.out _).mono ?_
      rintro e w1 ⟨rfl, rfl⟩
      go_wp2_with fail
      refine (H2.out _).mono ?_
      rintro e w1 ⟨rfl, rfl⟩
      go_wp2_with fail
      refine (H5.out _).mono ?_
      rintro e w1 ⟨rfl, m, rfl⟩
      go_wp2
      exact bodyPost_ret (v := .tuple #[.agg #[.int .i64 0, S [], .int .i64 0, .int .i64 0], .int .i64 0, .int .i64 31]) (by simp [results, Try.results19, go_sem]) rfl ⟨(Below.refl _ _).alloc (Nat.le_refl _) _, rfl⟩
    | some n =>
      go_enter Try.func19, Try.ntmps19
      go_wp2_with fail
      refine (H1.out _).mono ?_
      rintro e w1 ⟨rfl, rfl⟩
      go_wp2_with fail
      refine (H4.out _).mono ?_
      rintro e w1 ⟨rfl, rfl⟩
      go_wp2_with fail
      refine (H2.out _).mono ?_
      rintro e w1 ⟨rfl, rfl⟩
      go_wp2_with fail
      refine (H5.out _).mono ?_
      rintro e w1 ⟨rfl, he⟩
      simp only at he
      subst he
      go_wp2
      exact bodyPost_ret (v := .tuple #[.agg #[.int .i64 3, S [], .int .i64 n, .int .i64 i], .int .i64 E, .int .i64 0]) (by simp [results, Try.results19, go_sem]) rfl ⟨(Below.refl _ _).alloc (Nat.le_refl _) _, rfl⟩
  · have hna : numAt l i = i := by unfold numAt; rw [if_neg h45]
    have hd45 : (((l.getD i 0).toNat : Int) == 45) = false := hbe.trans (by simpa using h45)
    simp only [hna] at *
    have hNP : numP (sub l i (runEnd l i)) = numR (sub l i (runEnd l i)) false := by
      rw [numR_plain (by rw [hT0]; exact h45) (fun h => by rw [h] at hTl; simp at hTl; omega)]
    rw [hNP]
    have H5 : Hid (∀ w, Calls Try.prog 30 #[S (sub l i (runEnd l i)), .bool false] w (NumPost (numR (sub l i (runEnd l i)) false) w)) := fun w => rnumber_plain _ (by omega) (by omega) w
    clear hbe h45 hT0 hTl hNP hcs2
    generalize numR (sub l i (runEnd l i)) false = o at *
    generalize sub l i (runEnd l i) = T at *
    generalize runEnd l i = E at *
    generalize l.getD i 0 = d at *
    cases o with
    | none =>
      go_enter Try.func19, Try.ntmps19
      go_wp2_with fail
      refine (H1.out _).mono ?_
      rintro e w1 ⟨rfl, rfl⟩
      go_wp2_with fail
      refine (H4.out _).mono ?_
      rintro e w1 ⟨rfl, rfl⟩
      go_wp2_with fail
      refine (H2.out _).mono ?_
      rintro e w1 ⟨rfl, rfl⟩
      go_wp2_with fail
      refine (H5.out _).mono ?_
      rintro e w1 ⟨rfl, m, rfl⟩
      go_wp2
      exact bodyPost_ret (v := .tuple #[.agg #[.int .i64 0, S [], .int .i64 0, .int .i64 0], .int .i64 0, .int .i64 31]) (by simp [results, Try.results19, go_sem]) rfl ⟨(Below.refl _ _).alloc (Nat.le_refl _) _, rfl⟩
    | some n =>
      go_enter Try.func19, Try.ntmps19
      go_wp2_with fail
      refine (H1.out _).mono ?_
      rintro e w1 ⟨rfl, rfl⟩
      go_wp2_with fail
      refine (H4.out _).mono ?_
      rintro e w1 ⟨rfl, rfl⟩
      go_wp2_with fail
      refine (H2.out _).mono ?_
      rintro e w1 ⟨rfl, rfl⟩
      go_wp2_with fail
      refine (H5.out _).mono ?_
      rintro e w1 ⟨rfl, he⟩
      simp only at he
      subst he
      go_wp2
      exact bodyPost_ret (v := .tuple #[.agg #[.int .i64 3, S [], .int .i64 n, .int .i64 i], .int .i64 E, .int .i64 0]) (by simp [results, Try.results19, go_sem]) rfl ⟨(Below.refl _ _).alloc (Nat.le_refl _) _, rfl⟩

end Go.Proofs.Ythnnmgiihpdblab
