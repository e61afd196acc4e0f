/- Runs; the language's own words, the program's way. -/
import Derived.Test.YthnnmgiihpdblacLa
namespace Go.Proofs.Ythnnmgiihpdblac
open Go.RowKit

abbrev S (l : List UInt8) : Value := .string ⟨l.toArray⟩

theorem takeWhile_to {l : List UInt8} (p : UInt8 → Bool) (at_ k : Nat) (hk : k ≤ l.length) (ha : at_ ≤ k) (h : ∀ j, at_ ≤ j → j < k → p (l.getD j 0) = true) (he : k = l.length ∨ p (l.getD k 0) = false) :
    at_ + ((l.drop at_).takeWhile p).length = k := by
  obtain ⟨d, rfl⟩ : ∃ d, k = at_ + d := ⟨k - at_, by omega⟩
  induction d generalizing at_ with
  | zero =>
    rcases he with he | he
    · have : l.drop at_ = [] := by rw [List.drop_eq_nil_iff]; omega
      rw [this]; simp
    · by_cases hl : at_ < l.length
      · rw [List.drop_eq_getElem_cons hl]
        have e : l.getD at_ 0 = l[at_] := by simp [List.getD, hl]
        rw [Nat.add_zero, e] at he
        rw [List.takeWhile_cons_of_neg (by simp [he])]; simp
      · have : l.drop at_ = [] := by rw [List.drop_eq_nil_iff]; omega
        rw [this]; simp
  | succ d ih =>
    have hl : at_ < l.length := by omega
    rw [List.drop_eq_getElem_cons hl]
    have e : l.getD at_ 0 = l[at_] := by simp [List.getD, hl]
    have h0 := h at_ (Nat.le_refl _) (by omega)
    rw [e] at h0
    rw [List.takeWhile_cons_of_pos h0, List.length_cons]
    have h1 := ih (at_ + 1) (by omega) (by omega) (fun j hj hjk => h j (by omega) (by omega)) (by rw [show at_ + 1 + d = at_ + (d + 1) by omega]; exact he)
    omega


set_option maxHeartbeats 1000000 in
theorem isWord_no (l : List UInt8) (w : World) (h : ∀ x ∈ wordsL, (l == x) = false) : Calls Try.prog 8 #[S l] w fun e w' => e = .returned (.bool false) ∧ w' = w := by
  simp only [wordsL, List.mem_cons, List.mem_nil_iff, or_false, forall_eq_or_imp, forall_eq] at h
  obtain ⟨h1, h2, h3, h4, h5, h6, h7, h8, h9, h10, h11, h12, h13, h14, h15, h16, h17, h18, h19, h20⟩ := h
  go_enter Try.func8, Try.ntmps8
  go_wp2
  go_ret
  exact ⟨rfl, rfl⟩

set_option maxHeartbeats 4000000 in
theorem isWord_yes (l : List UInt8) (w : World) (h : l ∈ wordsL) : Calls Try.prog 8 #[S l] w fun e w' => e = .returned (.bool true) ∧ w' = w := by
  simp only [wordsL, List.mem_cons, List.mem_nil_iff, or_false] at h
  rcases h with rfl | rfl | rfl | rfl | rfl | rfl | rfl | rfl | rfl | rfl | rfl | rfl | rfl | rfl | rfl | rfl | rfl | rfl | rfl | rfl
  all_goals (
    go_enter Try.func8, Try.ntmps8
    go_wp2
    go_ret
    exact ⟨rfl, rfl⟩)

theorem isWord_any (l : List UInt8) (w : World) : Calls Try.prog 8 #[S l] w fun e w' => e = .returned (.bool (isWordP l)) ∧ w' = w := by
  unfold isWordP
  cases h : wordsL.contains l
  · refine isWord_no l w fun x hx => ?_
    cases hx2 : l == x
    · rfl
    · have e : l = x := by simpa using hx2
      subst e
      rw [List.contains_iff_mem.2 hx] at h
      cases h
  · exact isWord_yes l w (List.contains_iff_mem.1 h)

end Go.Proofs.Ythnnmgiihpdblac
