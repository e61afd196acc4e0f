/- message: the fields of a message, read. message: the fields of a message, read. message: the fields of a message, read. message: the fields of a message, read. -/
import Derived.Test.YtfcbjcebkahehaaGreatDoorZaw
namespace Go.Proofs.YtfcbjcebkahehaaGreatDoor
open Go.RowKit
set_option maxRecDepth 4000 in
set_option maxHeartbeats 1000000 in
theorem word_read {R : World → Prop} (b i p : Nat) (N : Int) (w : World) (hp : p < w.heap.size)
    (HR : Hid (∀ w1, Below w.heap.size w w1 → Calls Tryz.prog 117 #[.pointer (some ⟨p, 0, none⟩)] w1 fun e w' => e = .returned (.int .i64 N) ∧ R w' ∧ Sole p w1 w'))
    (HC : Hid (∀ w', R w' → (∃ v, w'.cell? ⟨b, i, none⟩ = some v) ∧ w'.frozen? ⟨b, i, none⟩ = false)) :
    Calls Tryz.prog 225 #[.agg #[.pointer (some ⟨b, i, none⟩), fv 116, fv 117], .pointer (some ⟨p, 0, none⟩)] w fun e w'' => e = .returned (.tuple #[]) ∧ ∃ w', R w' ∧ w'' = w'.setCell ⟨b, i, none⟩ (.int .i64 N) := by
  unfold fv
  obtain ⟨wa, hwa⟩ : ∃ x, w.alloc (.cells #[.pointer (some ⟨b, i, none⟩), .func (.func 116) #[] #[], .func (.func 117) #[] #[]] 191) = x := ⟨_, rfl⟩
  obtain ⟨hk, hB, hz⟩ := boxed w wa _ _ hwa
  have HB := hid hB
  have a0 := hk.cell 0 rfl
  have a2 := hk.cell 2 rfl
  have HS : Hid (∀ w1 w', w1.heap = wa.heap → Sole p w1 w' → w'.heap[w.heap.size]? = wa.heap[w.heap.size]?) := fun w1 w' e h => by
    rw [h.block w.heap.size (by rw [e]; omega) (by omega), e]
  clear hk hB hz hp
  go_enter Tryz.func225, Tryz.ntmps225
  go_wp2_with fail
  go_region_with (first
    | (refine (HR.out _ (below_drew HB.out 1)).mono ?_
       rintro e w2 ⟨rfl, hR, hS⟩
       obtain ⟨⟨v, hv⟩, hf⟩ := HC.out _ hR
       have hx := HS.out _ _ (by rfl) hS
       have b0 := (cells_same hx 0).1.trans a0
       have b2 := (cells_same hx 2).1.trans a2
       have HX := hid hR
       clear hR hS hx))
  all_goals (
    go_wp2
    first | go_end0 | refine bodyPost_ret (results_none rfl _ _ _) rfl ?_
    exact ⟨rfl, w2, HX.out, rfl⟩)
set_option maxRecDepth 4000 in
set_option maxHeartbeats 1000000 in
theorem flag_read {R : World → Prop} (b i p : Nat) (N : Bool) (w : World) (hp : p < w.heap.size)
    (HR : Hid (∀ w1, Below w.heap.size w w1 → Calls Tryz.prog 119 #[.pointer (some ⟨p, 0, none⟩)] w1 fun e w' => e = .returned (.bool N) ∧ R w' ∧ Sole p w1 w'))
    (HC : Hid (∀ w', R w' → (∃ v, w'.cell? ⟨b, i, none⟩ = some v) ∧ w'.frozen? ⟨b, i, none⟩ = false)) :
    Calls Tryz.prog 232 #[.agg #[.pointer (some ⟨b, i, none⟩), fv 118, fv 119], .pointer (some ⟨p, 0, none⟩)] w fun e w'' => e = .returned (.tuple #[]) ∧ ∃ w', R w' ∧ w'' = w'.setCell ⟨b, i, none⟩ (.bool N) := by
  unfold fv
  obtain ⟨wa, hwa⟩ : ∃ x, w.alloc (.cells #[.pointer (some ⟨b, i, none⟩), .func (.func 118) #[] #[], .func (.func 119) #[] #[]] 199) = x := ⟨_, rfl⟩
  obtain ⟨hk, hB, hz⟩ := boxed w wa _ _ hwa
  have HB := hid hB
  have a0 := hk.cell 0 rfl
  have a2 := hk.cell 2 rfl
  have HS : Hid (∀ w1 w', w1.heap = wa.heap → Sole p w1 w' → w'.heap[w.heap.size]? = wa.heap[w.heap.size]?) := fun w1 w' e h => by
    rw [h.block w.heap.size (by rw [e]; omega) (by omega), e]
  clear hk hB hz hp
  go_enter Tryz.func232, Tryz.ntmps232
  go_wp2_with fail
  go_region_with (first
    | (refine (HR.out _ (below_drew HB.out 1)).mono ?_
       rintro e w2 ⟨rfl, hR, hS⟩
       obtain ⟨⟨v, hv⟩, hf⟩ := HC.out _ hR
       have hx := HS.out _ _ (by rfl) hS
       have b0 := (cells_same hx 0).1.trans a0
       have b2 := (cells_same hx 2).1.trans a2
       have HX := hid hR
       clear hR hS hx))
  all_goals (
    go_wp2
    first | go_end0 | refine bodyPost_ret (results_none rfl _ _ _) rfl ?_
    exact ⟨rfl, w2, HX.out, rfl⟩)
end Go.Proofs.YtfcbjcebkahehaaGreatDoor
namespace Go.Proofs.YtfcbjcebkahehaaGreatDoor
open Go.RowKit
set_option maxRecDepth 4000 in
set_option maxHeartbeats 1000000 in
theorem small_read {R : World → Prop} (b i p : Nat) (m N : Int) (w : World) (hp : p < w.heap.size)
    (HR : Hid (∀ w1, Below w.heap.size w w1 → Calls Tryz.prog 121 #[.pointer (some ⟨p, 0, none⟩), .int .i64 m] w1 fun e w' => e = .returned (.int .i64 N) ∧ R w' ∧ Sole p w1 w'))
    (HC : Hid (∀ w', R w' → (∃ v, w'.cell? ⟨b, i, none⟩ = some v) ∧ w'.frozen? ⟨b, i, none⟩ = false)) :
    Calls Tryz.prog 236 #[.agg #[.pointer (some ⟨b, i, none⟩), .int .i64 m, fv 120, fv 121], .pointer (some ⟨p, 0, none⟩)] w fun e w'' => e = .returned (.tuple #[]) ∧ ∃ w', R w' ∧ w'' = w'.setCell ⟨b, i, none⟩ (.int .i64 N) := by
  unfold fv
  obtain ⟨wa, hwa⟩ : ∃ x, w.alloc (.cells #[.pointer (some ⟨b, i, none⟩), .int .i64 m, .func (.func 120) #[] #[], .func (.func 121) #[] #[]] 204) = x := ⟨_, rfl⟩
  obtain ⟨hk, hB, hz⟩ := boxed w wa _ _ hwa
  have HB := hid hB
  have a0 := hk.cell 0 rfl
  have a1 := hk.cell 1 rfl
  have a3 := hk.cell 3 rfl
  have HS : Hid (∀ w1 w', w1.heap = wa.heap → Sole p w1 w' → w'.heap[w.heap.size]? = wa.heap[w.heap.size]?) := fun w1 w' e h => by
    rw [h.block w.heap.size (by rw [e]; omega) (by omega), e]
  clear hk hB hz hp
  go_enter Tryz.func236, Tryz.ntmps236
  go_wp2_with fail
  go_region_with (first
    | (refine (HR.out _ (below_drew HB.out 1)).mono ?_
       rintro e w2 ⟨rfl, hR, hS⟩
       obtain ⟨⟨v, hv⟩, hf⟩ := HC.out _ hR
       have hx := HS.out _ _ (by rfl) hS
       have b0 := (cells_same hx 0).1.trans a0
       have b1 := (cells_same hx 1).1.trans a1
       have b3 := (cells_same hx 3).1.trans a3
       have HX := hid hR
       clear hR hS hx))
  all_goals (
    go_wp2
    first | go_end0 | refine bodyPost_ret (results_none rfl _ _ _) rfl ?_
    exact ⟨rfl, w2, HX.out, rfl⟩)
end Go.Proofs.YtfcbjcebkahehaaGreatDoor
namespace Go.Proofs.YtfcbjcebkahehaaGreatDoor
open Go.RowKit
set_option maxRecDepth 4000 in
set_option maxHeartbeats 1000000 in
theorem body_read {R : World → Prop} (b i p : Nat) (m : Int) (N : ByteArray) (w : World) (hp : p < w.heap.size)
    (HR : Hid (∀ w1, Below w.heap.size w w1 → Calls Tryz.prog 123 #[.pointer (some ⟨p, 0, none⟩), .int .i64 m] w1 fun e w' => e = .returned (.string N) ∧ R w' ∧ Sole p w1 w'))
    (HC : Hid (∀ w', R w' → (∃ v, w'.cell? ⟨b, i, none⟩ = some v) ∧ w'.frozen? ⟨b, i, none⟩ = false)) :
    Calls Tryz.prog 239 #[.agg #[.pointer (some ⟨b, i, none⟩), .int .i64 m, fv 122, fv 123], .pointer (some ⟨p, 0, none⟩)] w fun e w'' => e = .returned (.tuple #[]) ∧ ∃ w', R w' ∧ w'' = w'.setCell ⟨b, i, none⟩ (.string N) := by
  unfold fv
  obtain ⟨wa, hwa⟩ : ∃ x, w.alloc (.cells #[.pointer (some ⟨b, i, none⟩), .int .i64 m, .func (.func 122) #[] #[], .func (.func 123) #[] #[]] 211) = x := ⟨_, rfl⟩
  obtain ⟨hk, hB, hz⟩ := boxed w wa _ _ hwa
  have HB := hid hB
  have a0 := hk.cell 0 rfl
  have a1 := hk.cell 1 rfl
  have a3 := hk.cell 3 rfl
  have HS : Hid (∀ w1 w', w1.heap = wa.heap → Sole p w1 w' → w'.heap[w.heap.size]? = wa.heap[w.heap.size]?) := fun w1 w' e h => by
    rw [h.block w.heap.size (by rw [e]; omega) (by omega), e]
  clear hk hB hz hp
  go_enter Tryz.func239, Tryz.ntmps239
  go_wp2_with fail
  go_region_with (first
    | (refine (HR.out _ (below_drew HB.out 1)).mono ?_
       rintro e w2 ⟨rfl, hR, hS⟩
       obtain ⟨⟨v, hv⟩, hf⟩ := HC.out _ hR
       have hx := HS.out _ _ (by rfl) hS
       have b0 := (cells_same hx 0).1.trans a0
       have b1 := (cells_same hx 1).1.trans a1
       have b3 := (cells_same hx 3).1.trans a3
       have HX := hid hR
       clear hR hS hx))
  all_goals (
    go_wp2
    first | go_end0 | refine bodyPost_ret (results_none rfl _ _ _) rfl ?_
    exact ⟨rfl, w2, HX.out, rfl⟩)
end Go.Proofs.YtfcbjcebkahehaaGreatDoor
namespace Go.Proofs.YtfcbjcebkahehaaGreatDoor
open Go.RowKit
set_option maxRecDepth 4000 in
set_option maxHeartbeats 1000000 in
theorem sign_read_ok {R : World → Prop} (p : Nat) (n N : Int) (w : World) (hp : p < w.heap.size) (hn : (N != n) = false)
    (HR : Hid (∀ w1, Below w.heap.size w w1 → Calls Tryz.prog 117 #[.pointer (some ⟨p, 0, none⟩)] w1 fun e w' => e = .returned (.int .i64 N) ∧ R w' ∧ Sole p w1 w'))
    : Calls Tryz.prog 229 #[.agg #[.int .i64 n, fv 116, fv 117], .pointer (some ⟨p, 0, none⟩)] w fun e w'' => e = .returned (.tuple #[]) ∧ R w'' := by
  unfold fv
  obtain ⟨wa, hwa⟩ : ∃ x, w.alloc (.cells #[.int .i64 n, .func (.func 116) #[] #[], .func (.func 117) #[] #[]] 193) = x := ⟨_, rfl⟩
  obtain ⟨hk, hB, hz⟩ := boxed w wa _ _ hwa
  have HB := hid hB
  have a0 := hk.cell 0 rfl
  have a2 := hk.cell 2 rfl
  have HS : Hid (∀ w1 w', w1.heap = wa.heap → Sole p w1 w' → w'.heap[w.heap.size]? = wa.heap[w.heap.size]?) := fun w1 w' e h => by
    rw [h.block w.heap.size (by rw [e]; omega) (by omega), e]
  clear hk hB hz hp
  go_enter Tryz.func229, Tryz.ntmps229
  go_wp2_with fail
  go_region_with (first
    | (refine (HR.out _ (below_drew HB.out 1)).mono ?_
       rintro e w2 ⟨rfl, hR, hS⟩
       have hx := HS.out _ _ (by rfl) hS
       have b0 := (cells_same hx 0).1.trans a0
       have HX := hid hR
       clear hR hS hx))
  all_goals (
    go_wp2_with fail
    first | go_end0 | refine bodyPost_ret (results_none rfl _ _ _) rfl ?_
    exact ⟨rfl, HX.out⟩)
set_option maxRecDepth 4000 in
set_option maxHeartbeats 1000000 in
theorem sign_read_bad {R Q : World → Prop} (p : Nat) (n N : Int) (w : World) (hp : p < w.heap.size) (hn : (N != n) = true)
    (HR : Hid (∀ w1, Below w.heap.size w w1 → Calls Tryz.prog 117 #[.pointer (some ⟨p, 0, none⟩)] w1 fun e w' => e = .returned (.int .i64 N) ∧ R w' ∧ Sole p w1 w'))
    (HF : Hid (∀ w', R w' → Calls Tryz.prog 189 #[.pointer (some ⟨p, 0, none⟩), .int .i64 121] w' fun e w'' => e = .returned (.tuple #[]) ∧ Q w''))
    : Calls Tryz.prog 229 #[.agg #[.int .i64 n, fv 116, fv 117], .pointer (some ⟨p, 0, none⟩)] w fun e w'' => e = .returned (.tuple #[]) ∧ Q w'' := by
  unfold fv
  obtain ⟨wa, hwa⟩ : ∃ x, w.alloc (.cells #[.int .i64 n, .func (.func 116) #[] #[], .func (.func 117) #[] #[]] 193) = x := ⟨_, rfl⟩
  obtain ⟨hk, hB, hz⟩ := boxed w wa _ _ hwa
  have HB := hid hB
  have a0 := hk.cell 0 rfl
  have a2 := hk.cell 2 rfl
  have HS : Hid (∀ w1 w', w1.heap = wa.heap → Sole p w1 w' → w'.heap[w.heap.size]? = wa.heap[w.heap.size]?) := fun w1 w' e h => by
    rw [h.block w.heap.size (by rw [e]; omega) (by omega), e]
  clear hk hB hz hp
  go_enter Tryz.func229, Tryz.ntmps229
  go_wp2_with fail
  go_region_with (first
    | (refine (HR.out _ (below_drew HB.out 1)).mono ?_
       rintro e w2 ⟨rfl, hR, hS⟩
       have hx := HS.out _ _ (by rfl) hS
       have b0 := (cells_same hx 0).1.trans a0
       have HX := hid hR
       clear hR hS hx))
  all_goals (
    go_wp2_with fail
    refine (HF.out _ HX.out).mono ?_
    rintro e w3 ⟨rfl, hQ⟩
    go_wp2
    first | go_end0 | refine bodyPost_ret (results_none rfl _ _ _) rfl ?_
    exact ⟨rfl, hQ⟩)
end Go.Proofs.YtfcbjcebkahehaaGreatDoor
