/- The document's examples; LexNames' walk. -/
import Derived.Test.YthnnmgiihpdblabLl
namespace Go.Proofs.Ythnnmgiihpdblab
open Go.RowKit

def exT : List Tok := [⟨2, [115, 116, 114, 117, 99, 116], 0, 0⟩, ⟨1, [97], 0, 7⟩, ⟨3, [], -5, 8⟩, ⟨4, [123], 0, 11⟩, ⟨5, [], 0, 12⟩]
theorem ex_scan1 : scanP [115, 116, 114, 117, 99, 116, 32, 97, 45, 53, 32, 123] = .ok exT := by decide +kernel
theorem ex_scan2 : scanP [97, 32, 47, 42, 32, 98] = .err 33 2 := by decide +kernel
theorem ex_word : isWordP [118, 111, 105, 100] = true := by decide +kernel
theorem ex_name1 : isNameP [84, 82, 85, 69] = true := by decide +kernel
theorem ex_name2 : isNameP [118, 111, 105, 100] = false := by decide +kernel

theorem TokAt.of_block {w : World} {g : Nat} {ts : List Tok} {cs : Array Value} {t : TypeId} {fr : Nat × Nat} (h : w.heap[g]? = some (.cells cs t fr)) (hc : cs.toList = tokCells ts) : TokAt w g 0 ts :=
  .of_cells fun j u hu => by
    rw [← hc] at hu
    have := World.news_of_block h j u hu
    rwa [Addr.add_lit] at this

theorem TokAt.drewN {w : World} {g off : Nat} {ts : List Tok} (h : TokAt w g off ts) (n : Nat) : TokAt (w.drewN n) g off ts := ⟨h.c0, h.c1, h.c2, h.c3⟩

set_option maxHeartbeats 2000000 in
theorem known_any (w : World) : Calls Try.prog 6 #[] w fun e w' => e = .returned (.bool true) ∧ Below w.heap.size w w' := by
  have H1 : Hid (∀ w, Calls Try.prog 8 #[.string ⟨#[115, 116, 114, 117, 99, 116, 32, 97, 45, 53, 32, 123]⟩] w (ScanPost (.ok exT) w)) := fun w => by
    rw [← ex_scan1]; exact scan_any _ w
  have H2 : Hid (∀ w, Calls Try.prog 8 #[.string ⟨#[97, 32, 47, 42, 32, 98]⟩] w (ScanPost (.err 33 2) w)) := fun w => by
    rw [← ex_scan2]; exact scan_any _ w
  have H3 : Hid (∀ w, Calls Try.prog 11 #[.string ⟨#[118, 111, 105, 100]⟩] w fun e w' => e = .returned (.bool true) ∧ w' = w) := fun w => by
    rw [← ex_word]; exact isWord_any _ w
  have H4 : Hid (∀ w, Calls Try.prog 13 #[.string ⟨#[84, 82, 85, 69]⟩] w fun e w' => e = .returned (.bool true) ∧ w' = w) := fun w => by
    rw [← ex_name1]; exact isName_any _ w (by decide)
  have H5 : Hid (∀ w, Calls Try.prog 13 #[.string ⟨#[118, 111, 105, 100]⟩] w fun e w' => e = .returned (.bool false) ∧ w' = w) := fun w => by
    rw [← ex_name2]; exact isName_any _ w (by decide)
  go_enter Try.func6, Try.ntmps6
  go_wp2_with fail
  refine (H1.out _).mono ?_
  rintro e w1 ⟨g, cap, rfl, ho, hB⟩
  have HO : Hid (w1.ownsRow w.heap.size 37 4 (.slice (some ⟨g, 0, none⟩) 5 cap) 5 (tokCells exT)) := ho
  have HB : Hid (Below w.heap.size w w1) := hB
  clear ho hB
  rw [show exT.length = 5 from rfl]
  have H6 : Hid (∀ cs : Array Value, cs.toList = tokCells exT → Calls Try.prog 9 #[.slice (some ⟨g, 0, none⟩) 5 cap, .slice (some ⟨w1.heap.size, 0, none⟩) 5 5] (w1.alloc (.cells cs 37)) fun e w' => e = .returned (.bool true) ∧ ∃ n, w' = (w1.alloc (.cells cs 37)).drewN n) := fun cs hcs => by
    have := same_any exT exT (.slice (some ⟨g, 0, none⟩) 5 cap) (.slice (some ⟨w1.heap.size, 0, none⟩) 5 5) (w1.alloc (.cells cs 37)) (TokRow.of_own (HO.out.alloc _)) ⟨_, 5, w1.heap.size, 0, rfl, fun _ => rfl, .of_block (heap_alloc_new _ _) hcs⟩ (by decide)
    rwa [decide_eq_true rfl] at this
  go_wp2_with fail
  refine (H6.out _ rfl).mono ?_
  rintro e w2 ⟨rfl, n, rfl⟩
  go_wp2_with fail
  refine (H2.out _).mono ?_
  rintro e w3 ⟨rfl, hB3⟩
  have HB3 : Hid (Below w.heap.size w w3) := (below_drewN (HB.out.alloc HB.out.size _) n).trans (hB3.mono (by have := HB.out.size; simp; omega))
  clear hB3
  go_wp2_with fail
  refine (H3.out _).mono ?_
  rintro e w4 ⟨rfl, hw⟩
  have hw1 := hw.symm
  clear hw
  subst hw1
  go_wp2_with fail
  refine (H4.out _).mono ?_
  rintro e w4 ⟨rfl, hw⟩
  have hw1 := hw.symm
  clear hw
  subst hw1
  go_wp2_with fail
  refine (H5.out _).mono ?_
  rintro e w4 ⟨rfl, hw⟩
  have hw1 := hw.symm
  clear hw
  subst hw1
  go_wp2
  go_ret
  exact ⟨rfl, HB3.out⟩

theorem lexNames_any (l : List UInt8) (w : World) (hl : (l.length : Int) ≤ 140737488355328) : Calls Try.prog 4 #[S l] w fun e w' => e = .returned (.bool true) ∧ Below w.heap.size w w' := by
  have H1 : Hid (∀ w, Calls Try.prog 11 #[S l] w fun e w' => e = .returned (.bool (isWordP l)) ∧ w' = w) := fun w => isWord_any l w
  have H2 : Hid (∀ w, Calls Try.prog 12 #[S l] w fun e w' => e = .returned (.bool (isWordP l)) ∧ w' = w) := fun w => rIsWord_any l w hl
  have H3 : Hid (∀ w, Calls Try.prog 13 #[S l] w fun e w' => e = .returned (.bool (isNameP l)) ∧ w' = w) := fun w => isName_any l w (by omega)
  have H4 : Hid (∀ w, Calls Try.prog 14 #[S l] w fun e w' => e = .returned (.bool (isNameP l)) ∧ w' = w) := fun w => rIsName_any l w hl
  have H0 : Hid (Calls Try.prog 6 #[] w fun e w' => e = .returned (.bool true) ∧ Below w.heap.size w w') := known_any w
  generalize isWordP l = a at *
  generalize isNameP l = b at *
  cases a <;> cases b
  all_goals (
    go_enter Try.func4, Try.ntmps4
    go_wp2_with fail
    refine H0.out.mono ?_
    rintro e w1 ⟨rfl, hB⟩
    have HB : Hid (Below w.heap.size w w1) := hB
    clear hB
    go_wp2_with (first | (go_at_call 11; refine (H1.out _).mono ?_; rintro e w' ⟨rfl, rfl⟩) | (go_at_call 12; refine (H2.out _).mono ?_; rintro e w' ⟨rfl, rfl⟩) | (go_at_call 13; refine (H3.out _).mono ?_; rintro e w' ⟨rfl, rfl⟩) | (go_at_call 14; refine (H4.out _).mono ?_; rintro e w' ⟨rfl, rfl⟩))
    go_ret
    exact ⟨rfl, HB.out⟩)

end Go.Proofs.Ythnnmgiihpdblab
