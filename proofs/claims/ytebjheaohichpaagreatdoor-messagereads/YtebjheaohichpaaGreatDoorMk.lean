/- message: the fields of a message, read. -/
import Derived.Test.YtebjheaohichpaaGreatDoorMe
namespace Go.Proofs.YtebjheaohichpaaGreatDoor
open Go.RowKit
set_option maxRecDepth 4000 in
set_option maxHeartbeats 1000000 in
theorem tail_read_ok {R : World → Prop} (b i p : Nat) (N : ByteArray) (L : Int) (w : World) (hp : p < w.heap.size) (hL : 0 ≤ L) (hm : decide (L ≤ 1000 ∧ L % 4 = 0) = true)
    (HL : Hid (∀ w1, Below w.heap.size w w1 → Calls Tryz.prog 128 #[.pointer (some ⟨p, 0, none⟩)] w1 fun e w' => e = .returned (.int .i64 L) ∧ w' = w1))
    (HR : Hid (∀ w1, Below w.heap.size w w1 → Calls Tryz.prog 45 #[.pointer (some ⟨p, 0, none⟩)] w1 fun e w' => e = .returned (.string N) ∧ R w' ∧ Sole p w1 w'))
    (HC : Hid (∀ w', R w' → (∃ v, w'.cell? ⟨b, i, none⟩ = some v) ∧ w'.frozen? ⟨b, i, none⟩ = false)) :
    Calls Tryz.prog 126 #[.agg #[.pointer (some ⟨b, i, none⟩), fv 44, fv 45], .pointer (some ⟨p, 0, none⟩)] w fun e w'' => e = .returned (.tuple #[]) ∧ ∃ w', R w' ∧ w'' = w'.setCell ⟨b, i, none⟩ (.string N) := by
  unfold fv
  obtain ⟨wa, hwa⟩ : ∃ x, w.alloc (.cells #[.pointer (some ⟨b, i, none⟩), .func (.func 44) #[] #[], .func (.func 45) #[] #[]] 101) = x := ⟨_, rfl⟩
  obtain ⟨hk, hB, hz⟩ := boxed w wa _ _ hwa
  have HB := hid hB
  have a0 := hk.cell 0 rfl
  have a2 := hk.cell 2 rfl
  have HS : Hid (∀ w1 w', w1.heap[w.heap.size]? = wa.heap[w.heap.size]? → w.heap.size < w1.heap.size → Sole p w1 w' → w'.heap[w.heap.size]? = wa.heap[w.heap.size]?) := fun w1 w' e e2 h => by
    rw [h.block w.heap.size e2 (by omega), e]
  have HZ := hid hz
  have HT : Hid (∀ w, Calls Tryz.prog 127 #[.int .i64 L] w fun e w' => e = .returned (.bool true) ∧ w' = w) := fun w => by
    have := tailMay_any L w hL
    rwa [hm] at this
  clear hk hB hz hp hm hL
  go_enter Tryz.func126, Tryz.ntmps126
  go_wp2_with fail
  refine (HL.out _ HB.out).mono ?_
  rintro e w0 ⟨rfl, hw0⟩
  have hw1 := hw0.symm
  clear hw0
  subst hw1
  go_wp2_with fail
  refine (HT.out _).mono ?_
  rintro e w0 ⟨rfl, hw0⟩
  have hw1 := hw0.symm
  clear hw0
  subst hw1
  go_wp2_with fail
  go_region_with (first
    | (refine (HR.out _ (below_drew HB.out 1)).mono ?_
       rintro e w2 ⟨rfl, hR, hS⟩
       obtain ⟨⟨v, hv⟩, hf⟩ := HC.out _ hR
       have hx := HS.out _ _ (by rfl) (by show _ < wa.heap.size; have := HZ.out; omega) hS
       have b0 := (cells_same hx 0).1.trans a0
       have HX := hid hR
       clear hR hS hx))
  all_goals (
    go_wp2
    first | go_end0 | refine bodyPost_ret (results_none rfl _ _ _) rfl ?_
    exact ⟨rfl, w2, HX.out, rfl⟩)
set_option maxRecDepth 4000 in
set_option maxHeartbeats 1000000 in
theorem tail_read_bad {R Q : World → Prop} (b i p : Nat) (N : ByteArray) (L : Int) (w : World) (hp : p < w.heap.size) (hL : 0 ≤ L) (hm : decide (L ≤ 1000 ∧ L % 4 = 0) = false)
    (HL : Hid (∀ w1, Below w.heap.size w w1 → Calls Tryz.prog 128 #[.pointer (some ⟨p, 0, none⟩)] w1 fun e w' => e = .returned (.int .i64 L) ∧ w' = w1))
    (HF : Hid (∀ w1, Below w.heap.size w w1 → Calls Tryz.prog 119 #[.pointer (some ⟨p, 0, none⟩), .int .i64 121] w1 fun e w' => e = .returned (.tuple #[]) ∧ Q w' ∧ Sole p w1 w'))
    (HR : Hid (∀ w1 k, Q w1 → Calls Tryz.prog 45 #[.pointer (some ⟨p, 0, none⟩)] (w1.drewN k) fun e w' => e = .returned (.string N) ∧ R w' ∧ Sole p (w1.drewN k) w'))
    (HC : Hid (∀ w', R w' → (∃ v, w'.cell? ⟨b, i, none⟩ = some v) ∧ w'.frozen? ⟨b, i, none⟩ = false)) :
    Calls Tryz.prog 126 #[.agg #[.pointer (some ⟨b, i, none⟩), fv 44, fv 45], .pointer (some ⟨p, 0, none⟩)] w fun e w'' => e = .returned (.tuple #[]) ∧ ∃ w', R w' ∧ w'' = w'.setCell ⟨b, i, none⟩ (.string N) := by
  unfold fv
  obtain ⟨wa, hwa⟩ : ∃ x, w.alloc (.cells #[.pointer (some ⟨b, i, none⟩), .func (.func 44) #[] #[], .func (.func 45) #[] #[]] 101) = x := ⟨_, rfl⟩
  obtain ⟨hk, hB, hz⟩ := boxed w wa _ _ hwa
  have HB := hid hB
  have a0 := hk.cell 0 rfl
  have a2 := hk.cell 2 rfl
  have HS : Hid (∀ w1 w', w1.heap[w.heap.size]? = wa.heap[w.heap.size]? → w.heap.size < w1.heap.size → Sole p w1 w' → w'.heap[w.heap.size]? = wa.heap[w.heap.size]?) := fun w1 w' e e2 h => by
    rw [h.block w.heap.size e2 (by omega), e]
  have HZ := hid hz
  have HT : Hid (∀ w, Calls Tryz.prog 127 #[.int .i64 L] w fun e w' => e = .returned (.bool false) ∧ w' = w) := fun w => by
    have := tailMay_any L w hL
    rwa [hm] at this
  clear hk hB hz hp hm hL
  go_enter Tryz.func126, Tryz.ntmps126
  go_wp2_with fail
  refine (HL.out _ HB.out).mono ?_
  rintro e w0 ⟨rfl, hw0⟩
  have hw1 := hw0.symm
  clear hw0
  subst hw1
  go_wp2_with fail
  refine (HT.out _).mono ?_
  rintro e w0 ⟨rfl, hw0⟩
  have hw1 := hw0.symm
  clear hw0
  subst hw1
  go_wp2_with fail
  refine (HF.out _ HB.out).mono ?_
  rintro e w5 ⟨rfl, hQ, hS5⟩
  have hx5 := HS.out _ _ (by rfl) (by have := HZ.out; omega) hS5
  have c0 := (cells_same hx5 0).1.trans a0
  have c2 := (cells_same hx5 2).1.trans a2
  have HQ5 := hid (And.intro hQ (And.intro hx5 hS5.size))
  clear hQ hS5 hx5
  go_wp2_with fail
  go_region_with (first
    | (refine (HR.out _ 1 HQ5.out.1).mono ?_
       rintro e w2 ⟨rfl, hR, hS⟩
       obtain ⟨⟨v, hv⟩, hf⟩ := HC.out _ hR
       have hx := HS.out _ _ (by exact HQ5.out.2.1) (by show _ < w5.heap.size; have := HZ.out; have := HQ5.out.2.2; omega) hS
       have b0 := (cells_same hx 0).1.trans a0
       have HX := hid hR
       clear hR hS hx))
  all_goals (
    go_wp2
    first | go_end0 | refine bodyPost_ret (results_none rfl _ _ _) rfl ?_
    exact ⟨rfl, w2, HX.out, rfl⟩)
end Go.Proofs.YtebjheaohichpaaGreatDoor
