/- message: the fields of a message, laid down. -/
import Derived.Test.YtfcbjcebkahehaaGreatDoorZaw
namespace Go.Proofs.YtfcbjcebkahehaaGreatDoor
open Go.RowKit
set_option maxRecDepth 4000 in
set_option maxHeartbeats 1000000 in
theorem sign_lay {Q : Ending → World → Prop} (p : Nat) (n : Int) (w : World)
    (HQ : Hid (∀ w1, Below w.heap.size w w1 → Calls Tryz.prog 116 #[.pointer (some ⟨p, 0, none⟩), .int .i64 n] w1 fun e w' => e = .returned (.tuple #[]) ∧ Q e w')) :
    Calls Tryz.prog 228 #[.agg #[.int .i64 n, fv 116, fv 117], .pointer (some ⟨p, 0, none⟩)] w Q := by
  unfold fv
  obtain ⟨wa, hwa⟩ : ∃ x, w.alloc (.cells #[.int .i64 n, .func (.func 116) #[] #[], .func (.func 117) #[] #[]] 193) = x := ⟨_, rfl⟩
  obtain ⟨hk, hB, hz⟩ := boxed w wa _ _ hwa
  have HB := hid hB
  have a0 := hk.cell 0 rfl
  have a1 := hk.cell 1 rfl
  clear hk hB hz
  go_enter Tryz.func228, Tryz.ntmps228
  go_wp2_with fail
  refine (HQ.out _ HB.out).mono ?_
  rintro e w' ⟨rfl, h⟩
  go_wp2
  first | go_end0 | refine bodyPost_ret (results_none rfl _ _ _) rfl ?_
  exact h
theorem tailMay_any (n : Int) (w : World) (h0 : 0 ≤ n) : Calls Tryz.prog 244 #[.int .i64 n] w fun e w' => e = .returned (.bool (decide (n ≤ 1000 ∧ n % 4 = 0))) ∧ w' = w := by
  by_cases h1 : n ≤ 1000
  · by_cases h2 : n % 4 = 0
    · have h3 : (n % 4 == 0) = true := beq_iff_eq.2 h2
      rw [decide_eq_true ⟨h1, h2⟩]
      go_enter Tryz.func244, Tryz.ntmps244
      go_wp2
      go_ret
      exact ⟨rfl, rfl⟩
    · have h3 : (n % 4 == 0) = false := beq_eq_false_iff_ne.2 h2
      rw [decide_eq_false (fun q => h2 q.2)]
      go_enter Tryz.func244, Tryz.ntmps244
      go_wp2
      go_ret
      exact ⟨rfl, rfl⟩
  · rw [decide_eq_false (fun q => h1 q.1)]
    go_enter Tryz.func244, Tryz.ntmps244
    go_wp2
    go_ret
    exact ⟨rfl, rfl⟩
set_option maxRecDepth 4000 in
set_option maxHeartbeats 1000000 in
theorem tail_ok {Q : Ending → World → Prop} (b i p : Nat) (n : ByteArray) (w : World) (hb : b < w.heap.size) (hc : w.cell? ⟨b, i, none⟩ = some (.string n)) (hm : decide ((n.size : Int) ≤ 1000 ∧ (n.size : Int) % 4 = 0) = true)
    (HQ : Hid (∀ w1, Below w.heap.size w w1 → Calls Tryz.prog 124 #[.pointer (some ⟨p, 0, none⟩), .string n] w1 fun e w' => e = .returned (.tuple #[]) ∧ Q e w')) :
    Calls Tryz.prog 242 #[.agg #[.pointer (some ⟨b, i, none⟩), fv 124, fv 125], .pointer (some ⟨p, 0, none⟩)] w Q := by
  unfold fv
  obtain ⟨wa, hwa⟩ : ∃ x, w.alloc (.cells #[.pointer (some ⟨b, i, none⟩), .func (.func 124) #[] #[], .func (.func 125) #[] #[]] 217) = x := ⟨_, rfl⟩
  obtain ⟨hk, hB, hz⟩ := boxed w wa _ _ hwa
  have HB := hid hB
  have a0 := hk.cell 0 rfl
  have a1 := hk.cell 1 rfl
  have ac : wa.cell? ⟨b, i, none⟩ = some (.string n) := (cells_of_block (hB.block b hb) i).1.trans hc
  have HT : Hid (∀ w, Calls Tryz.prog 244 #[.int .i64 n.size] w fun e w' => e = .returned (.bool true) ∧ w' = w) := fun w => by
    have := tailMay_any n.size w (by omega)
    rwa [hm] at this
  clear hk hB hz hb hc hm
  go_enter Tryz.func242, Tryz.ntmps242
  go_wp2_with fail
  refine (HT.out _).mono ?_
  rintro e w0 ⟨rfl, hw0⟩
  have hw1 := hw0.symm
  clear hw0
  subst hw1
  go_wp2_with fail
  go_region_with (first | (refine (HQ.out _ (below_drew HB.out 1)).mono ?_; rintro e w' ⟨rfl, h⟩))
  all_goals (
    go_wp2
    first | go_end0 | refine bodyPost_ret (results_none rfl _ _ _) rfl ?_
    exact h)
set_option maxRecDepth 4000 in
set_option maxHeartbeats 1000000 in
theorem tail_bad {Q : Ending → World → Prop} (b i p : Nat) (n : ByteArray) (w : World) (hb : b < w.heap.size) (hc : w.cell? ⟨b, i, none⟩ = some (.string n)) (hm : decide ((n.size : Int) ≤ 1000 ∧ (n.size : Int) % 4 = 0) = false)
    (HF : Hid (∀ w1, Below w.heap.size w w1 → w1.heap.size = w.heap.size + 1 → Calls Tryz.prog 115 #[.pointer (some ⟨p, 0, none⟩), .int .i64 120] w1 fun e w' => e = .returned (.tuple #[]) ∧ w'.heap[b]? = w1.heap[b]? ∧ w'.heap[w.heap.size]? = w1.heap[w.heap.size]? ∧ ∀ k, Calls Tryz.prog 124 #[.pointer (some ⟨p, 0, none⟩), .string n] (w'.drewN k) fun e w'' => e = .returned (.tuple #[]) ∧ Q e w'')) :
    Calls Tryz.prog 242 #[.agg #[.pointer (some ⟨b, i, none⟩), fv 124, fv 125], .pointer (some ⟨p, 0, none⟩)] w Q := by
  unfold fv
  obtain ⟨wa, hwa⟩ : ∃ x, w.alloc (.cells #[.pointer (some ⟨b, i, none⟩), .func (.func 124) #[] #[], .func (.func 125) #[] #[]] 217) = x := ⟨_, rfl⟩
  obtain ⟨hk, hB, hz⟩ := boxed w wa _ _ hwa
  have HB := hid hB
  have a0 := hk.cell 0 rfl
  have a1 := hk.cell 1 rfl
  have ac : wa.cell? ⟨b, i, none⟩ = some (.string n) := (cells_of_block (hB.block b hb) i).1.trans hc
  have HT : Hid (∀ w, Calls Tryz.prog 244 #[.int .i64 n.size] w fun e w' => e = .returned (.bool false) ∧ w' = w) := fun w => by
    have := tailMay_any n.size w (by omega)
    rwa [hm] at this
  have HZ := hid hz
  clear hk hB hz hb hc hm
  go_enter Tryz.func242, Tryz.ntmps242
  go_wp2_with fail
  refine (HT.out _).mono ?_
  rintro e w0 ⟨rfl, hw0⟩
  have hw1 := hw0.symm
  clear hw0
  subst hw1
  go_wp2_with fail
  refine (HF.out _ HB.out HZ.out).mono ?_
  rintro e w2 ⟨rfl, e1, e2, e3⟩
  have H3 := hid e3
  have a0 := (cells_same e2 0).1.trans a0
  have a1 := (cells_same e2 1).1.trans a1
  have ac := (cells_same e1 i).1.trans ac
  clear e1 e2 e3
  go_wp2_with fail
  go_region_with (first | (refine (H3.out 1).mono ?_; rintro e w' ⟨rfl, h⟩))
  all_goals (
    go_wp2
    first | go_end0 | refine bodyPost_ret (results_none rfl _ _ _) rfl ?_
    exact h)
end Go.Proofs.YtfcbjcebkahehaaGreatDoor
