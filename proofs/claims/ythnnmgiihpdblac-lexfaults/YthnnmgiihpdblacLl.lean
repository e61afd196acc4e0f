/- Words and names: the document's, and the program's. -/
import Derived.Test.YthnnmgiihpdblacLk
namespace Go.Proofs.Ythnnmgiihpdblac
open Go.RowKit

def isNameP (l : List UInt8) : Bool := decide (0 < l.length) && (decide (l.length ≤ 32) && (letB (l.getD 0 0) && (l.all runB && !isWordP l)))

theorem all_runEnd (l : List UInt8) : (l.all runB) = decide (runEnd l 0 = l.length) := by
  rw [Bool.eq_iff_iff, decide_eq_true_iff]
  constructor
  · intro h
    have e : runEnd l 0 = runEnd l l.length := runEnd_to (Nat.zero_le _) fun j _ hj => List.all_eq_true.1 h _ (getD_mem hj)
    rw [e, runEnd_stop (by rw [getD_ge (Nat.le_refl _)]; decide)]
  · intro h
    refine List.all_eq_true.2 fun c hc => ?_
    obtain ⟨j, hj, rfl⟩ := List.getElem_of_mem hc
    rw [← getD_lt hj]
    exact runEnd_run (Nat.zero_le j) (by omega)

set_option maxHeartbeats 1000000 in
theorem isName_any (l : List UInt8) (w : World) (hl : (l.length : Int) ≤ 9223372036854775807) : Calls Try.prog 9 #[S l] w fun e w' => e = .returned (.bool (isNameP l)) ∧ w' = w := by
  obtain ⟨R, hR⟩ : ∃ R, isNameP l = R := ⟨_, rfl⟩
  rw [hR]
  unfold isNameP at hR
  by_cases h0 : l.length = 0
  · rw [show decide (0 < l.length) = false from decide_eq_false (by omega), Bool.false_and] at hR
    subst hR
    obtain rfl : l = [] := List.length_eq_zero_iff.1 h0
    clear h0
    go_enter Try.func9, Try.ntmps9
    go_wp2
    go_ret
    exact ⟨rfl, rfl⟩
  · have hn0 : ((l.length : Int) == 0) = false := beq_eq_false_iff_ne.2 (by omega)
    have hlt0 : 0 < l.length := by omega
    have h0' : (0 : Int) < l.length := by omega
    rw [decide_eq_true hlt0, Bool.true_and] at hR
    by_cases h32 : l.length ≤ 32
    · rw [decide_eq_true h32, Bool.true_and] at hR
      have h32' : decide ((32 : Int) < l.length) = false := decide_eq_false (by omega)
      have hc0 : ({ data := l.toArray } : ByteArray)[0]'hlt0 = l.getD 0 0 := (getD_lt hlt0).symm
      have H1 : Hid (∀ w, Calls Try.prog 12 #[.int .u8 ((l.getD 0 0).toNat : Int)] w fun e w' => e = .returned (.bool (letB (l.getD 0 0))) ∧ w' = w) := fun w => isLetter_any _ w
      have HW : Hid (∀ w, Calls Try.prog 8 #[S l] w fun e w' => e = .returned (.bool (isWordP l)) ∧ w' = w) := fun w => isWord_any l w
      generalize letB (l.getD 0 0) = b at *
      generalize l.getD 0 0 = c at *
      cases b
      · rw [Bool.false_and] at hR
        subst hR
        go_enter Try.func9, Try.ntmps9
        go_wp2_with (go_at_call 12; refine (H1.out _).mono ?_; rintro e w' ⟨rfl, rfl⟩)
        go_ret
        exact ⟨rfl, rfl⟩
      · rw [Bool.true_and] at hR
        have HR : Hid ((l.all runB && !isWordP l) = R) := hR
        clear hR h0
        go_enter Try.func9, Try.ntmps9
        go_wp2_with (go_at_call 12; refine (H1.out _).mono ?_; rintro e w' ⟨rfl, rfl⟩)
        go_loop [20] (fun i => ∃ k : Nat, i = .int .i64 k ∧ k ≤ l.length ∧ Hid (∀ j, j < k → runB (l.getD j 0) = true)) (fun i => l.length - (intOf i).toNat)
        case atStart => exact ⟨0, rfl, Nat.zero_le _, fun j h2 => by omega⟩
        case round =>
          obtain ⟨k, rfl, hk, HJ⟩ := hrel
          by_cases hlt : k < l.length
          · have hk' : (k : Int) < l.length := by omega
            have hcs : ({ data := l.toArray } : ByteArray)[k]'hlt = l.getD k 0 := (getD_lt hlt).symm
            have HC : Hid (∀ w, Calls Try.prog 13 #[.int .u8 ((l.getD k 0).toNat : Int)] w fun e w' => e = .returned (.bool (runB (l.getD k 0))) ∧ w' = w) := fun w => isRun_any _ w
            have HV : Hid (runB (l.getD k 0) = runB (l.getD k 0)) := rfl
            cases hv : runB (l.getD k 0)
            · have HF : Hid (R = false) := by
                show _ = _
                rw [← HR.out]
                cases ha : l.all runB
                · rfl
                · have := List.all_eq_true.1 ha _ (getD_mem hlt)
                  rw [hv] at this; cases this
              rw [hv] at HC
              clear hv HV
              generalize l.getD k 0 = d at *
              go_wp2_with (go_at_call 13; refine (HC.out _).mono ?_; rintro e w' ⟨rfl, rfl⟩)
              go_ret
              exact ⟨by rw [HF.out]; rfl, rfl⟩
            · have HJ2 : Hid (∀ j, j < k + 1 → runB (l.getD j 0) = true) := fun j h2 => by
                rcases Nat.lt_or_ge j k with h3 | h3
                · exact HJ.out j h3
                · obtain rfl : j = k := by omega
                  exact hv
              rw [hv] at HC
              clear hv HV
              generalize l.getD k 0 = d at *
              go_wp2_with (go_at_call 13; refine (HC.out _).mono ?_; rintro e w' ⟨rfl, rfl⟩)
              go_round
              case rel => exact ⟨k + 1, by go_num, by omega, HJ2.out⟩
              case measure => simp [intOf]; omega
          · obtain rfl : k = l.length := by omega
            have HF : Hid (R = !isWordP l) := by
              show _ = _
              rw [← HR.out, List.all_eq_true.2 fun c hc => ?_]
              · rfl
              · obtain ⟨j, hj, rfl⟩ := List.getElem_of_mem hc
                rw [← getD_lt hj]; exact HJ.out j hj
            generalize isWordP l = b at *
            go_wp2_with (go_at_call 8; refine (HW.out _).mono ?_; rintro e w' ⟨rfl, rfl⟩)
            go_ret
            exact ⟨by rw [HF.out]; rfl, rfl⟩
    · rw [show decide (l.length ≤ 32) = false from decide_eq_false h32, Bool.false_and] at hR
      subst hR
      have h32' : decide ((32 : Int) < l.length) = true := decide_eq_true (by omega)
      go_enter Try.func9, Try.ntmps9
      go_wp2
      go_ret
      exact ⟨rfl, rfl⟩

theorem slice_str (w : World) (s : ByteArray) (l h : Int) (h0 : 0 ≤ l) (h1 : l ≤ h) (h2 : h ≤ (s.size : Int)) :
    (Instr.slice 9 (.string s) (some (.int .i64 l)) (some (.int .i64 h)) none).run Try.prog w = .ok (.string (s.extract l.toNat h.toNat)) w := by
  have hu := Try.underlying9
  simp [go_sem, h0, h1, h2]

theorem slice_words (w : World) (k n : Nat) (h : k + (n + 2) ≤ 135) :
    (Instr.slice 9 (.string ⟨#[32, 98, 111, 111, 108, 32, 99, 97, 115, 101, 32, 99, 111, 110, 115, 116, 32, 100, 101, 102, 97, 117, 108, 116, 32, 100, 111, 117, 98, 108, 101, 32, 101, 110, 117, 109, 32, 102, 108, 111, 97, 116, 32, 104, 121, 112, 101, 114, 32, 105, 110, 116, 32, 111, 112, 97, 113, 117, 101, 32, 112, 114, 111, 103, 114, 97, 109, 32, 113, 117, 97, 100, 114, 117, 112, 108, 101, 32, 115, 116, 114, 105, 110, 103, 32, 115, 116, 114, 117, 99, 116, 32, 115, 119, 105, 116, 99, 104, 32, 116, 121, 112, 101, 100, 101, 102, 32, 117, 110, 105, 111, 110, 32, 117, 110, 115, 105, 103, 110, 101, 100, 32, 118, 101, 114, 115, 105, 111, 110, 32, 118, 111, 105, 100, 32]⟩) (some (.int .i64 k)) (some (.int .i64 ((k : Int) + ((n : Int) + 2)))) none).run Try.prog w = .ok (S (sub WordsL k (k + (n + 2)))) w := by
  have e := slice_str w (⟨WordsL.toArray⟩ : ByteArray) (k : Int) ((k : Int) + ((n : Int) + 2)) (by omega) (by omega) (by show (k : Int) + ((n : Int) + 2) ≤ ((WordsL.length : Nat) : Int); rw [words_len]; omega)
  rw [S_extract, show ((k : Int) + ((n : Int) + 2)).toNat = k + (n + 2) by omega, Int.toNat_natCast] at e
  exact e

theorem cat_list (l : List UInt8) : (({ data := #[32] } : ByteArray) ++ { data := l.toArray } ++ { data := #[32] }).toList = 32 :: (l ++ [32]) := by
  rw [ByteArray.toList_eq]; simp

theorem word_not {l : List UInt8} (h : ¬ (0 < l.length ∧ runEnd l 0 = l.length)) : isWordP l = false := by
  cases hw : isWordP l
  · rfl
  · obtain ⟨_, _, h1, h2⟩ := words_all l (List.contains_iff_mem.1 hw)
    exfalso
    refine h ⟨?_, ?_⟩
    · cases l with
      | nil => exact absurd rfl h1
      | cons => simp
    · rw [all_runEnd] at h2; exact of_decide_eq_true h2

end Go.Proofs.Ythnnmgiihpdblac
