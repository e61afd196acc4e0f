/- Words and names: the document's, and the program's. -/
import Derived.Test.YthnnmgiihpdblabLk
namespace Go.Proofs.Ythnnmgiihpdblab
open Go.RowKit

def isNameP (l : List UInt8) : Bool := decide (0 < l.length) && (decide (l.length ≤ 32) && (letB (l.getD 0 0) && (l.all runB && !isWordP l)))

theorem all_runEnd (l : List UInt8) : (l.all runB) = decide (runEnd l 0 = l.length) := by
  rw [Bool.eq_iff_iff, decide_eq_true_iff]
  constructor
  · intro h
    have e : runEnd l 0 = runEnd l l.length := runEnd_to (Nat.zero_le _) fun j _ hj => List.all_eq_true.1 h _ (getD_mem hj)
    rw [e, runEnd_stop (by rw [getD_ge (Nat.le_refl _)]; decide)]
  · intro h
    refine List.all_eq_true.2 fun c hc => ?_
    obtain ⟨j, hj, rfl⟩ := List.getElem_of_mem hc
    rw [← getD_lt hj]
    exact runEnd_run (Nat.zero_le j) (by omega)

set_option maxHeartbeats 1000000 in
theorem isName_any (l : List UInt8) (w : World) (hl : (l.length : Int) ≤ 9223372036854775807) : Calls Try.prog 13 #[S l] w fun e w' => e = .returned (.bool (isNameP l)) ∧ w' = w := by
  obtain ⟨R, hR⟩ : ∃ R, isNameP l = R := ⟨_, rfl⟩
  rw [hR]
  unfold isNameP at hR
  by_cases h0 : l.length = 0
  · rw [show decide (0 < l.length) = false from decide_eq_false (by omega), Bool.false_and] at hR
    subst hR
    obtain rfl : l = [] := List.length_eq_zero_iff.1 h0
    clear h0
    go_enter Try.func13, Try.ntmps13
    go_wp2
    go_ret
    exact ⟨rfl, rfl⟩
  · have hn0 : ((l.length : Int) == 0) = false := beq_eq_false_iff_ne.2 (by omega)
    have hlt0 : 0 < l.length := by omega
    have h0' : (0 : Int) < l.length := by omega
    rw [decide_eq_true hlt0, Bool.true_and] at hR
    by_cases h32 : l.length ≤ 32
    · rw [decide_eq_true h32, Bool.true_and] at hR
      have h32' : decide ((32 : Int) < l.length) = false := decide_eq_false (by omega)
      have hc0 : ({ data := l.toArray } : ByteArray)[0]'hlt0 = l.getD 0 0 := (getD_lt hlt0).symm
      have H1 : Hid (∀ w, Calls Try.prog 23 #[.int .u8 ((l.getD 0 0).toNat : Int)] w fun e w' => e = .returned (.bool (letB (l.getD 0 0))) ∧ w' = w) := fun w => isLetter_any _ w
      have HW : Hid (∀ w, Calls Try.prog 11 #[S l] w fun e w' => e = .returned (.bool (isWordP l)) ∧ w' = w) := fun w => isWord_any l w
      generalize letB (l.getD 0 0) = b at *
      generalize l.getD 0 0 = c at *
      cases b
      · rw [Bool.false_and] at hR
        subst hR
        go_enter Try.func13, Try.ntmps13
        go_wp2_with (go_at_call 23; refine (H1.out _).mono ?_; rintro e w' ⟨rfl, rfl⟩)
        go_ret
        exact ⟨rfl, rfl⟩
      · rw [Bool.true_and] at hR
        have HR : Hid ((l.all runB && !isWordP l) = R) := hR
        clear hR h0
        go_enter Try.func13, Try.ntmps13
        go_wp2_with (go_at_call 23; refine (H1.out _).mono ?_; rintro e w' ⟨rfl, rfl⟩)
        go_loop [20] (fun i => ∃ k : Nat, i = .int .i64 k ∧ k ≤ l.length ∧ Hid (∀ j, j < k → runB (l.getD j 0) = true)) (fun i => l.length - (intOf i).toNat)
        case atStart => exact ⟨0, rfl, Nat.zero_le _, fun j h2 => by omega⟩
        case round =>
          obtain ⟨k, rfl, hk, HJ⟩ := hrel
          by_cases hlt : k < l.length
          · have hk' : (k : Int) < l.length := by omega
            have hcs : ({ data := l.toArray } : ByteArray)[k]'hlt = l.getD k 0 := (getD_lt hlt).symm
            have HC : Hid (∀ w, Calls Try.prog 24 #[.int .u8 ((l.getD k 0).toNat : Int)] w fun e w' => e = .returned (.bool (runB (l.getD k 0))) ∧ w' = w) := fun w => isRun_any _ w
            have HV : Hid (runB (l.getD k 0) = runB (l.getD k 0)) := rfl
            cases hv : runB (l.getD k 0)
            · have HF : Hid (R = false) := by
                show _ = _
                rw [← HR.out]
                cases ha : l.all runB
                · rfl
                · have := List.all_eq_true.1 ha _ (getD_mem hlt)
                  rw [hv] at this; cases this
              rw [hv] at HC
              clear hv HV
              generalize l.getD k 0 = d at *
              go_wp2_with (go_at_call 24; refine (HC.out _).mono ?_; rintro e w' ⟨rfl, rfl⟩)
              go_ret
              exact ⟨by rw [HF.out]; rfl, rfl⟩
            · have HJ2 : Hid (∀ j, j < k + 1 → runB (l.getD j 0) = true) := fun j h2 => by
                rcases Nat.lt_or_ge j k with h3 | h3
                · exact HJ.out j h3
                · obtain rfl : j = k := by omega
                  exact hv
              rw [hv] at HC
              clear hv HV
              generalize l.getD k 0 = d at *
              go_wp2_with (go_at_call 24; refine (HC.out _).mono ?_; rintro e w' ⟨rfl, rfl⟩)
              go_round
              case rel => exact ⟨k + 1, by go_num, by omega, HJ2.out⟩
              case measure => simp [intOf]; omega
          · obtain rfl : k = l.length := by omega
            have HF : Hid (R = !isWordP l) := by
              show _ = _
              rw [← HR.out, List.all_eq_true.2 fun c hc => ?_]
              · rfl
              · obtain ⟨j, hj, rfl⟩ := List.getElem_of_mem hc
                rw [← getD_lt hj]; exact HJ.out j hj
            generalize isWordP l = b at *
            go_wp2_with (go_at_call 11; refine (HW.out _).mono ?_; rintro e w' ⟨rfl, rfl⟩)
            go_ret
            exact ⟨by rw [HF.out]; rfl, rfl⟩
    · rw [show decide (l.length ≤ 32) = false from decide_eq_false h32, Bool.false_and] at hR
      subst hR
      have h32' : decide ((32 : Int) < l.length) = true := decide_eq_true (by omega)
      go_enter Try.func13, Try.ntmps13
      go_wp2
      go_ret
      exact ⟨rfl, rfl⟩

theorem slice_str (w : World) (s : ByteArray) (l h : Int) (h0 : 0 ≤ l) (h1 : l ≤ h) (h2 : h ≤ (s.size : Int)) :
    (Instr.slice 9 (.string s) (some (.int .i64 l)) (some (.int .i64 h)) none).run Try.prog w = .ok (.string (s.extract l.toNat h.toNat)) w := by
  have hu := Try.underlying9
  simp [go_sem, h0, h1, h2]

theorem slice_words (w : World) (k n : Nat) (h : k + (n + 2) ≤ 135) :
    (Instr.slice 9 (.string ⟨#[32, 98, 111, 111, 108, 32, 99, 97, 115, 101, 32, 99, 111, 110, 115, 116, 32, 100, 101, 102, 97, 117, 108, 116, 32, 100, 111, 117, 98, 108, 101, 32, 101, 110, 117, 109, 32, 102, 108, 111, 97, 116, 32, 104, 121, 112, 101, 114, 32, 105, 110, 116, 32, 111, 112, 97, 113, 117, 101, 32, 112, 114, 111, 103, 114, 97, 109, 32, 113, 117, 97, 100, 114, 117, 112, 108, 101, 32, 115, 116, 114, 105, 110, 103, 32, 115, 116, 114, 117, 99, 116, 32, 115, 119, 105, 116, 99, 104, 32, 116, 121, 112, 101, 100, 101, 102, 32, 117, 110, 105, 111, 110, 32, 117, 110, 115, 105, 103, 110, 101, 100, 32, 118, 101, 114, 115, 105, 111, 110, 32, 118, 111, 105, 100, 32]⟩) (some (.int .i64 k)) (some (.int .i64 ((k : Int) + ((n : Int) + 2)))) none).run Try.prog w = .ok (S (sub WordsL k (k + (n + 2)))) w := by
  have e := slice_str w (⟨WordsL.toArray⟩ : ByteArray) (k : Int) ((k : Int) + ((n : Int) + 2)) (by omega) (by omega) (by show (k : Int) + ((n : Int) + 2) ≤ ((WordsL.length : Nat) : Int); rw [words_len]; omega)
  rw [S_extract, show ((k : Int) + ((n : Int) + 2)).toNat = k + (n + 2) by omega, Int.toNat_natCast] at e
  exact e

theorem cat_list (l : List UInt8) : (({ data := #[32] } : ByteArray) ++ { data := l.toArray } ++ { data := #[32] }).toList = 32 :: (l ++ [32]) := by
  rw [ByteArray.toList_eq]; simp

theorem word_not {l : List UInt8} (h : ¬ (0 < l.length ∧ runEnd l 0 = l.length)) : isWordP l = false := by
  cases hw : isWordP l
  · rfl
  · obtain ⟨_, _, h1, h2⟩ := words_all l (List.contains_iff_mem.1 hw)
    exfalso
    refine h ⟨?_, ?_⟩
    · cases l with
      | nil => exact absurd rfl h1
      | cons => simp
    · rw [all_runEnd] at h2; exact of_decide_eq_true h2

set_option maxRecDepth 10000 in
set_option maxHeartbeats 2000000 in
theorem rIsWord_no (l : List UInt8) (e0 : Nat) (w : World) (hl : (l.length : Int) ≤ 140737488355328) (H1 : Hid (∀ w, Calls Try.prog 22 #[S l, .int .i64 0] w fun e w' => e = .returned (.int .i64 (e0 : Nat)) ∧ w' = w)) (hq : l.isEmpty = true ∨ ((e0 : Int) == (l.length : Int)) = false) :
    Calls Try.prog 12 #[S l] w fun e w' => e = .returned (.bool false) ∧ w' = w := by
  obtain ⟨W, hW⟩ : ∃ W : Bool, ((e0 : Int) == (l.length : Int)) = W := ⟨_, rfl⟩
  obtain ⟨E, hE⟩ : ∃ E : Bool, l.isEmpty = E := ⟨_, rfl⟩
  rw [hW, hE] at hq
  go_enter Try.func12, Try.ntmps12
  go_wp2_with (go_at_call 22; refine (H1.out _).mono ?_; rintro e w' ⟨rfl, rfl⟩)
  go_loop [5] (fun i => i = .int .i64 0) (fun _ => 0)
  case atStart => exact rfl
  case round =>
    obtain rfl := hrel
    clear H1
    have hq2 : E = true ∨ (E = false ∧ W = false) := by
      rcases hq with h | h
      · exact .inl h
      · cases E
        · exact .inr ⟨rfl, h⟩
        · exact .inl rfl
    clear hq
    rcases hq2 with rfl | ⟨rfl, rfl⟩
    all_goals (
      by_cases hlt : (l.length : Int) + 2 ≤ 135
      · go_wp2_with fail
        go_ret
        exact ⟨rfl, rfl⟩
      · have hlt'' : decide ((l.length : Int) + 2 ≤ 135) = false := decide_eq_false (by omega)
        go_wp2_with fail
        go_ret
        exact ⟨rfl, rfl⟩)

set_option maxRecDepth 10000 in
set_option maxHeartbeats 1000000 in
theorem rIsWord_any (l : List UInt8) (w : World) (hl : (l.length : Int) ≤ 140737488355328) : Calls Try.prog 12 #[S l] w fun e w' => e = .returned (.bool (isWordP l)) ∧ w' = w := by
  have H1 : Hid (∀ w, Calls Try.prog 22 #[S l, .int .i64 0] w fun e w' => e = .returned (.int .i64 (runEnd l 0 : Nat)) ∧ w' = w) := fun w => rrun_any l 0 w (Nat.zero_le _) (by omega)
  have hre := runEnd_le (l := l) (i := 0) (Nat.zero_le _)
  by_cases hw : 0 < l.length ∧ runEnd l 0 = l.length
  · obtain ⟨h0, h1⟩ := hw
    have hrun : ∀ c ∈ l, runB c = true := List.all_eq_true.1 (by rw [all_runEnd, decide_eq_true h1])
    rw [h1] at H1
    have hne : l ≠ [] := fun h => by rw [h] at h0; simp at h0
    have hb : ((l.length : Int) == (l.length : Int)) = true := by simp
    have hie : l.isEmpty = false := by simpa using hne
    obtain ⟨R, hR⟩ : ∃ R, isWordP l = R := ⟨_, rfl⟩
    rw [hR]
    have HY : Hid (∀ k, k + (l.length + 2) ≤ 135 → sub WordsL k (k + (l.length + 2)) = 32 :: (l ++ [32]) → R = true) := fun k hk hs => by
      rw [← hR]; exact List.contains_iff_mem.2 (words_only hrun hne hk hs)
    have HZ : Hid ((∀ k, k + (l.length + 2) ≤ 135 → sub WordsL k (k + (l.length + 2)) ≠ 32 :: (l ++ [32])) → R = false) := fun h => by
      rw [← hR]
      cases hw : isWordP l
      · rfl
      · obtain ⟨h3, h4, _, _⟩ := words_all l (List.contains_iff_mem.1 hw)
        exact absurd h3 (h _ h4)
    clear hre h1 hne hrun hR
    go_enter Try.func12, Try.ntmps12
    go_wp2_with (go_at_call 22; refine (H1.out _).mono ?_; rintro e w' ⟨rfl, rfl⟩)
    go_loop [5] (fun i => ∃ k : Nat, i = .int .i64 k ∧ k ≤ 135 ∧ Hid (∀ j, j < k → j + (l.length + 2) ≤ 135 → sub WordsL j (j + (l.length + 2)) ≠ 32 :: (l ++ [32]))) (fun i => 135 - (intOf i).toNat)
    case atStart => exact ⟨0, rfl, by omega, fun j h2 => by omega⟩
    case round =>
      obtain ⟨k, rfl, hk, HJ⟩ := hrel
      by_cases hlt : k + (l.length + 2) ≤ 135
      · have hlt' : (k : Int) + ((l.length : Int) + 2) ≤ 135 := by omega
        have hsl := fun w => slice_words w k l.length hlt
        obtain ⟨X, hX⟩ : ∃ X, sub WordsL k (k + (l.length + 2)) = X := ⟨_, rfl⟩
        rw [hX] at hsl
        have HX : Hid (sub WordsL k (k + (l.length + 2)) = X) := hX
        clear hX
        have hcat : (9223372036854775807 < 1 + l.length) = False := by simp; omega
        have hcat2 : (9223372036854775807 < 1 + l.length + 1) = False := by simp; omega
        cases hB : (X == (({ data := #[32] } : ByteArray) ++ { data := l.toArray } ++ { data := #[32] }).toList)
        · have HJ2 : Hid (∀ j, j < k + 1 → j + (l.length + 2) ≤ 135 → sub WordsL j (j + (l.length + 2)) ≠ 32 :: (l ++ [32])) := fun j h2 h3 h4 => by
            rcases Nat.lt_or_ge j k with h5 | h5
            · exact HJ.out j h5 h3 h4
            · obtain rfl : j = k := by omega
              rw [HX.out] at h4
              rw [h4, cat_list] at hB
              simp at hB
          go_wp2_with fail
          go_round
          case rel => exact ⟨k + 1, by go_num, by omega, HJ2.out⟩
          case measure => simp [intOf]; omega
        · have HF : Hid (R = true) := HY.out k hlt (by rw [HX.out]; rw [cat_list] at hB; simpa using hB)
          go_wp2_with fail
          go_ret
          exact ⟨by rw [HF.out]; rfl, rfl⟩
      · have HF : Hid (R = false) := HZ.out fun j hj hs => by
          rcases Nat.lt_or_ge j k with h5 | h5
          · exact HJ.out j h5 hj hs
          · omega
        have hlt' : decide ((k : Int) + ((l.length : Int) + 2) ≤ 135) = false := decide_eq_false (by omega)
        go_wp2
        go_ret
        exact ⟨by rw [HF.out]; rfl, rfl⟩
  · rw [word_not hw]
    have hq : l.isEmpty = true ∨ ((runEnd l 0 : Int) == (l.length : Int)) = false := by
      by_cases h0 : 0 < l.length
      · exact .inr (beq_eq_false_iff_ne.2 fun h => hw ⟨h0, by omega⟩)
      · left; simp; exact List.length_eq_zero_iff.1 (by omega)
    exact rIsWord_no l (runEnd l 0) w hl H1 hq

set_option maxHeartbeats 1000000 in
theorem rIsName_any (l : List UInt8) (w : World) (hl : (l.length : Int) ≤ 140737488355328) : Calls Try.prog 14 #[S l] w fun e w' => e = .returned (.bool (isNameP l)) ∧ w' = w := by
  have H1 : Hid (∀ w, Calls Try.prog 22 #[S l, .int .i64 0] w fun e w' => e = .returned (.int .i64 (runEnd l 0 : Nat)) ∧ w' = w) := fun w => rrun_any l 0 w (Nat.zero_le _) (by omega)
  have H2 : Hid (∀ w, Calls Try.prog 12 #[S l] w fun e w' => e = .returned (.bool (isWordP l)) ∧ w' = w) := fun w => rIsWord_any l w hl
  obtain ⟨R, hR⟩ : ∃ R, isNameP l = R := ⟨_, rfl⟩
  rw [hR]
  unfold isNameP at hR
  rw [all_runEnd] at hR
  by_cases h0 : l.length = 0
  · rw [show decide (0 < l.length) = false from decide_eq_false (by omega), Bool.false_and] at hR
    subst hR
    obtain rfl : l = [] := List.length_eq_zero_iff.1 h0
    clear h0 H1 H2
    go_enter Try.func14, Try.ntmps14
    go_wp2
    go_ret
    exact ⟨rfl, rfl⟩
  · have hlt0 : 0 < l.length := by omega
    have hie : l.isEmpty = false := by simpa using (fun h : l = [] => h0 (by rw [h]; rfl))
    have h0' : (0 : Int) < l.length := by omega
    rw [decide_eq_true hlt0, Bool.true_and] at hR
    by_cases h32 : l.length ≤ 32
    · rw [decide_eq_true h32, Bool.true_and] at hR
      have h32' : decide ((32 : Int) < l.length) = false := decide_eq_false (by omega)
      have hc0 : ({ data := l.toArray } : ByteArray)[0]'hlt0 = l.getD 0 0 := (getD_lt hlt0).symm
      have H3 : Hid (∀ w, Calls Try.prog 25 #[.int .u8 ((l.getD 0 0).toNat : Int)] w fun e w' => e = .returned (.bool (letB (l.getD 0 0))) ∧ w' = w) := fun w => rletter_any _ w
      have hbe : decide (runEnd l 0 = l.length) = ((runEnd l 0 : Int) == (l.length : Int)) := by rw [Bool.eq_iff_iff]; simp; omega
      rw [hbe] at hR
      clear hbe h0
      generalize letB (l.getD 0 0) = b at *
      generalize l.getD 0 0 = c at *
      generalize isWordP l = d at *
      generalize runEnd l 0 = e0 at *
      cases hq : ((e0 : Int) == (l.length : Int)) <;> rw [hq] at hR <;> cases b <;> cases d <;> subst hR
      all_goals (
        go_enter Try.func14, Try.ntmps14
        go_wp2_with (first | (go_at_call 25; refine (H3.out _).mono ?_; rintro e w' ⟨rfl, rfl⟩) | (go_at_call 12; refine (H2.out _).mono ?_; rintro e w' ⟨rfl, rfl⟩) | (go_at_call 22; refine (H1.out _).mono ?_; rintro e w' ⟨rfl, rfl⟩))
        go_ret
        exact ⟨rfl, rfl⟩)
    · rw [show decide (l.length ≤ 32) = false from decide_eq_false h32, Bool.false_and] at hR
      subst hR
      have h32' : decide ((32 : Int) < l.length) = true := decide_eq_true (by omega)
      go_enter Try.func14, Try.ntmps14
      go_wp2
      go_ret
      exact ⟨rfl, rfl⟩

end Go.Proofs.Ythnnmgiihpdblab
