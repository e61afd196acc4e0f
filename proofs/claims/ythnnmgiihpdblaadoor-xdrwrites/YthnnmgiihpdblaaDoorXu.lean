/- The program's Writer: Done. -/
import Derived.Test.YthnnmgiihpdblaaDoorXt
namespace Go.Proofs.YthnnmgiihpdblaaDoor
open Go.RowKit

set_option maxHeartbeats 1000000 in
theorem pdone_wrong (p : Nat) (v : Value) (M E : Int) (S : ByteArray) (w : World) (h : PW w p v M (Lib.strCells S) E) (hT : ErrT w) (hE : E ≠ 0) :
    Calls Tryd.prog 60 #[.pointer (some ⟨p, 0, none⟩)] w fun e w' => e = .returned (.tuple #[.string ⟨#[]⟩, .int .i64 E]) ∧ Below w.heap.size w w' := by
  have H0 : Hid (∀ w1, w1 = w → Calls Tryd.prog 101 #[.pointer (some ⟨p, 2, none⟩)] w1 fun r w' => r = .returned (.bool true) ∧ w' = w) := fun w1 e => by rw [e]; exact any_true p E w h.e hE
  have H1 : Hid (Calls Tryd.prog 102 #[.pointer (some ⟨p, 2, none⟩)] w fun r w' => r = .returned (.int .i64 E) ∧ Below w.heap.size w w') := number_any ⟨p, 2, none⟩ E w hT h.e
  clear h hT hE
  go_enter Tryd.func60, Tryd.ntmps60
  go_wp2_with fail
  refine (H0.out _ rfl).mono ?_
  rintro e w0 ⟨rfl, hw0⟩
  have hw1 := hw0.symm
  clear hw0
  subst hw1
  go_wp2_with fail
  refine H1.out.mono ?_
  rintro e w2 ⟨rfl, hB⟩
  have HB : Hid (Below w.heap.size w w2) := hB
  clear hB
  go_wp2
  go_ret2
  exact ⟨rfl, HB.out⟩

/-- The Writer's bytes as a text. -/
theorem own_text {w : World} {base : Nat} {v : Value} {S : ByteArray} (h : w.ownsRow base 5 1 v S.size (Lib.strCells S)) : (convert 75 9 v).run Tryd.prog w = .ok (.string S) w := by
  have hS : (⟨S.data.toList.toArray⟩ : ByteArray) = S := by simp
  have hc := fun g => h.cells (g := g)
  rcases h.2 with ⟨rfl, h0⟩ | ⟨g, cap, cur, rfl, _, hg, _⟩
  · have h1 := run_convert_bytes_nil (P := Tryd.prog) (w := w) 75 5 Tryd.underlying75 Tryd.underlying5 0 0
    have e0 : S = ⟨#[]⟩ := by
      rw [← hS]
      have : S.data.toList = [] := by rw [← List.length_eq_zero_iff, Array.length_toList]; exact h0
      rw [this]
    rw [e0]
    exact h1 9 Tryd.underlying9
  · have h1 := run_convert_bytes_back (P := Tryd.prog) w 75 9 5 ⟨g, 0, none⟩ cap S.data.toList Tryd.underlying75 Tryd.underlying5 Tryd.underlying9 (fun t ht => by
      refine hc g rfl t _ ?_
      simp [Lib.strCells, List.getElem?_map, List.getElem?_eq_getElem ht])
    have hl : S.data.toList.length = S.size := by simp
    rw [hS, hl] at h1
    exact h1

set_option maxHeartbeats 1000000 in
theorem pdone_ok (p : Nat) (v : Value) (M : Int) (S : ByteArray) (w : World) (h : PW w p v M (Lib.strCells S) 0) :
    Calls Tryd.prog 60 #[.pointer (some ⟨p, 0, none⟩)] w fun e w' => e = .returned (.tuple #[.string S, .int .i64 0]) ∧ ∃ k, w' = w.drewN k := by
  have H0 : Hid (∀ w1, w1 = w → Calls Tryd.prog 101 #[.pointer (some ⟨p, 2, none⟩)] w1 fun r w' => r = .returned (.bool false) ∧ w' = w) := fun w1 e => by rw [e]; exact any_any ⟨p, 2, none⟩ 0 w h.e
  obtain ⟨a, cap, hv⟩ := own_form h.own
  have hs := h.s
  have hcv := own_text (by have := h.own; rw [Lib.strCells_length] at this; exact this)
  rw [hv] at hs hcv
  clear h hv
  generalize (Lib.strCells S).length = n at hs hcv
  go_enter Tryd.func60, Tryd.ntmps60
  go_wp2_with fail
  refine (H0.out _ rfl).mono ?_
  rintro e w0 ⟨rfl, hw0⟩
  have hw1 := hw0.symm
  clear hw0
  subst hw1
  go_wp2
  go_ret2
  exact ⟨rfl, 0, rfl⟩

end Go.Proofs.YthnnmgiihpdblaaDoor
