/- LexFaults' walk. -/
import Derived.Test.YthnnmgiihpdblacLn
namespace Go.Proofs.Ythnnmgiihpdblac
open Go.RowKit

set_option maxHeartbeats 8000000 in
theorem lwithin_any (c : Int) (w : World) : Calls Try.prog 6 #[.int .u8 c] w fun e w' => e = .returned (.bool (runP c)) ∧ w' = w := by
  unfold runP letterP digitP
  cases h0 : decide (97 ≤ c) <;> cases h1 : decide (c ≤ 122) <;> cases h2 : decide (65 ≤ c) <;> cases h3 : decide (c ≤ 90) <;> cases h4 : decide (48 ≤ c) <;> cases h5 : decide (c ≤ 57) <;> cases h6 : c == 95
  all_goals (
    go_enter Try.func6, Try.ntmps6
    go_wp2
    go_ret
    exact ⟨rfl, rfl⟩)

theorem lf_more (l m : List UInt8) (w : World) (h : 2147467645 < m.length) : Calls Try.prog 3 #[S l, S m] w fun e w' => e = .returned (.bool true) ∧ Below w.heap.size w w' := by
  have h' : (2147467645 : Int) < m.length := by omega
  set_option maxRecDepth 4000 in go_enter Try.func3, Try.ntmps3
  go_wp2
  go_ret
  exact ⟨rfl, Below.refl _ _⟩

set_option maxRecDepth 4000 in
set_option maxHeartbeats 2000000 in
theorem lf_ok (l m : List UInt8) (ts : List Tok) (w : World) (h : ¬ 2147467645 < m.length) (hR : scanP l = .ok ts) (hl : l.length ≤ 16000) : Calls Try.prog 3 #[S l, S m] w fun e w' => e = .returned (.bool true) ∧ Below w.heap.size w w' := by
  have h' : decide ((2147467645 : Int) < m.length) = false := decide_eq_false (by omega)
  obtain ⟨us, rfl⟩ := ok_last (scanP_scans hl) hR
  have H0 : Hid (∀ w, Calls Try.prog 4 #[] w fun e w' => e = .returned (.bool true) ∧ Below w.heap.size w w') := fun w => known_any w
  have H1 : Hid (∀ w, Calls Try.prog 5 #[S l] w (ScanPost (.ok (us ++ [⟨5, [], 0, l.length⟩])) w)) := fun w => by rw [← hR]; exact scan_any l w
  obtain ⟨N, hN⟩ : ∃ N, us.length = N := ⟨_, rfl⟩
  have HN : Hid (us.length = N) := hN
  have HG : Hid ((us ++ [(⟨5, [], 0, l.length⟩ : Tok)])[N]? = some ⟨5, [], 0, l.length⟩) := by
    show _ = _
    rw [← hN, List.getElem?_append_right (Nat.le_refl _), Nat.sub_self]; rfl
  have hnl : us.length ≤ 100000 ∨ True := .inr trivial
  have hg := fun w op x y xs ys => guard37n w op x y xs ys
  have hq := fun w => eql37 w ⟨5, [], 0, l.length⟩ ⟨5, [], 0, l.length⟩
  clear hR hN hnl
  go_enter Try.func3, Try.ntmps3
  go_wp2_with fail
  refine (H0.out _).mono ?_
  rintro e w1 ⟨rfl, hB⟩
  have HB : Hid (Below w.heap.size w w1) := hB
  clear hB
  go_wp2_with fail
  refine (H1.out _).mono ?_
  rintro e w2 ⟨g, cap, rfl, ho, hB⟩
  have HB2 : Hid (Below w.heap.size w w2) := HB.out.trans (hB.mono HB.out.size)
  rw [show (us ++ [(⟨5, [], 0, l.length⟩ : Tok)]).length = N + 1 by rw [List.length_append, HN.out]; rfl] at ho ⊢
  have ha := TokAt.of_own ho
  have c0 := ha.c0 N _ HG.out
  have c1 := ha.c1 N _ HG.out
  have c2 := ha.c2 N _ HG.out
  have c3 := ha.c3 N _ HG.out
  have hNN : (N : Int) < 9223372036854775807 := by
    rcases ho.2 with ⟨h1, _⟩ | ⟨_, _, _, h1, _, _, h2, h3, _⟩
    · cases h1
    · unfold maxLen at h3; omega
  rw [Nat.zero_add] at c0 c1 c2 c3
  clear ha ho hB
  go_wp2
  go_ret
  exact ⟨rfl, HB2.out⟩

end Go.Proofs.Ythnnmgiihpdblac
