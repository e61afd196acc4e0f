/- Runs; the language's own words, the program's way. -/
import Derived.Test.YthnnmgiihpdblabLa
namespace Go.Proofs.Ythnnmgiihpdblab
open Go.RowKit

abbrev S (l : List UInt8) : Value := .string ⟨l.toArray⟩

theorem takeWhile_to {l : List UInt8} (p : UInt8 → Bool) (at_ k : Nat) (hk : k ≤ l.length) (ha : at_ ≤ k) (h : ∀ j, at_ ≤ j → j < k → p (l.getD j 0) = true) (he : k = l.length ∨ p (l.getD k 0) = false) :
    at_ + ((l.drop at_).takeWhile p).length = k := by
  obtain ⟨d, rfl⟩ : ∃ d, k = at_ + d := ⟨k - at_, by omega⟩
  induction d generalizing at_ with
  | zero =>
    rcases he with he | he
    · have : l.drop at_ = [] := by rw [List.drop_eq_nil_iff]; omega
      rw [this]; simp
    · by_cases hl : at_ < l.length
      · rw [List.drop_eq_getElem_cons hl]
        have e : l.getD at_ 0 = l[at_] := by simp [List.getD, hl]
        rw [Nat.add_zero, e] at he
        rw [List.takeWhile_cons_of_neg (by simp [he])]; simp
      · have : l.drop at_ = [] := by rw [List.drop_eq_nil_iff]; omega
        rw [this]; simp
  | succ d ih =>
    have hl : at_ < l.length := by omega
    rw [List.drop_eq_getElem_cons hl]
    have e : l.getD at_ 0 = l[at_] := by simp [List.getD, hl]
    have h0 := h at_ (Nat.le_refl _) (by omega)
    rw [e] at h0
    rw [List.takeWhile_cons_of_pos h0, List.length_cons]
    have h1 := ih (at_ + 1) (by omega) (by omega) (fun j hj hjk => h j (by omega) (by omega)) (by rw [show at_ + 1 + d = at_ + (d + 1) by omega]; exact he)
    omega


set_option maxHeartbeats 1000000 in
theorem rrun_any (l : List UInt8) (at_ : Nat) (w : World) (ha : at_ ≤ l.length) (hl : (l.length : Int) ≤ 9223372036854775807) :
    Calls Try.prog 22 #[S l, .int .i64 at_] w fun e w' => e = .returned (.int .i64 (runEnd l at_ : Nat)) ∧ w' = w := by
  obtain ⟨R, hR⟩ : ∃ R, runEnd l at_ = R := ⟨_, rfl⟩
  have HR : Hid (∀ k, k ≤ l.length → at_ ≤ k → (∀ j, at_ ≤ j → j < k → runB (l.getD j 0) = true) → (k = l.length ∨ runB (l.getD k 0) = false) → k = R) := fun k h1 h2 h3 h4 => by
    rw [← hR]; exact (takeWhile_to runB at_ k h1 h2 h3 h4).symm
  rw [hR]
  clear hR
  go_enter Try.func22, Try.ntmps22
  go_wp2_with fail
  go_loop [1] (fun i => ∃ k : Nat, i = .int .i64 k ∧ at_ ≤ k ∧ k ≤ l.length ∧ Hid (∀ j, at_ ≤ j → j < k → runB (l.getD j 0) = true)) (fun i => l.length - (intOf i).toNat)
  case atStart => exact ⟨at_, rfl, Nat.le_refl _, ha, fun j h1 h2 => by omega⟩
  case round =>
    obtain ⟨k, rfl, hk0, hk, HJ⟩ := hrel
    by_cases hlt : k < l.length
    · have hk' : (k : Int) < l.length := by omega
      have hcs : ({ data := l.toArray } : ByteArray)[k] = l[k] := rfl
      have eg : l.getD k 0 = l[k] := by simp [List.getD, hlt]
      cases hv : runB l[k]
      · have HC : Hid (∀ w, Calls Try.prog 37 #[.int .u8 (l[k].toNat : Int)] w fun e w' => e = .returned (.bool false) ∧ w' = w) := fun w => by
          have := within_any (l[k].toNat : Int) w
          rw [show runP (l[k].toNat : Int) = false from hv] at this
          exact this
        have HE : Hid (k = R) := HR.out k hk hk0 HJ.out (.inr (by rw [eg]; exact hv))
        clear hv eg
        go_wp2_with fail
        refine (HC.out _).mono ?_
        rintro e w1 ⟨rfl, hw⟩
        have hw1 := hw.symm
        clear hw
        subst hw1
        go_wp2
        go_ret
        exact ⟨(show Ending.returned (.int .i64 (k : Int)) = .returned (.int .i64 (R : Int)) by rw [HE.out]), rfl⟩
      · have HC : Hid (∀ w, Calls Try.prog 37 #[.int .u8 (l[k].toNat : Int)] w fun e w' => e = .returned (.bool true) ∧ w' = w) := fun w => by
          have := within_any (l[k].toNat : Int) w
          rw [show runP (l[k].toNat : Int) = true from hv] at this
          exact this
        have HJ2 : Hid (∀ j, at_ ≤ j → j < k + 1 → runB (l.getD j 0) = true) := fun j h1 h2 => by
          rcases Nat.lt_or_ge j k with h3 | h3
          · exact HJ.out j h1 h3
          · obtain rfl : j = k := by omega
            rw [eg]; exact hv
        clear hv eg
        go_wp2_with fail
        refine (HC.out _).mono ?_
        rintro e w1 ⟨rfl, hw⟩
        have hw1 := hw.symm
        clear hw
        subst hw1
        go_wp2
        go_round
        case rel => exact ⟨k + 1, by go_num, by omega, by omega, HJ2.out⟩
        case measure => simp [intOf]; omega
    · obtain rfl : k = l.length := by omega
      have HE : Hid (l.length = R) := HR.out l.length hk hk0 HJ.out (.inl rfl)
      go_wp2
      go_ret
      exact ⟨(show Ending.returned (.int .i64 (l.length : Int)) = .returned (.int .i64 (R : Int)) by rw [HE.out]), rfl⟩


set_option maxHeartbeats 1000000 in
theorem isWord_no (l : List UInt8) (w : World) (h : ∀ x ∈ wordsL, (l == x) = false) : Calls Try.prog 11 #[S l] w fun e w' => e = .returned (.bool false) ∧ w' = w := by
  simp only [wordsL, List.mem_cons, List.mem_nil_iff, or_false, forall_eq_or_imp, forall_eq] at h
  obtain ⟨h1, h2, h3, h4, h5, h6, h7, h8, h9, h10, h11, h12, h13, h14, h15, h16, h17, h18, h19, h20⟩ := h
  go_enter Try.func11, Try.ntmps11
  go_wp2
  go_ret
  exact ⟨rfl, rfl⟩

set_option maxHeartbeats 4000000 in
theorem isWord_yes (l : List UInt8) (w : World) (h : l ∈ wordsL) : Calls Try.prog 11 #[S l] w fun e w' => e = .returned (.bool true) ∧ w' = w := by
  simp only [wordsL, List.mem_cons, List.mem_nil_iff, or_false] at h
  rcases h with rfl | rfl | rfl | rfl | rfl | rfl | rfl | rfl | rfl | rfl | rfl | rfl | rfl | rfl | rfl | rfl | rfl | rfl | rfl | rfl
  all_goals (
    go_enter Try.func11, Try.ntmps11
    go_wp2
    go_ret
    exact ⟨rfl, rfl⟩)

theorem isWord_any (l : List UInt8) (w : World) : Calls Try.prog 11 #[S l] w fun e w' => e = .returned (.bool (isWordP l)) ∧ w' = w := by
  unfold isWordP
  cases h : wordsL.contains l
  · refine isWord_no l w fun x hx => ?_
    cases hx2 : l == x
    · rfl
    · have e : l = x := by simpa using hx2
      subst e
      rw [List.contains_iff_mem.2 hx] at h
      cases h
  · exact isWord_yes l w (List.contains_iff_mem.1 h)

end Go.Proofs.Ythnnmgiihpdblab
