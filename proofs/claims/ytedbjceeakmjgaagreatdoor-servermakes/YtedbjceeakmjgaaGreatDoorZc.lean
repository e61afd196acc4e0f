/- The document's New. -/
import Derived.Test.YtedbjceeakmjgaaGreatDoorZb
namespace Go.Proofs.YtedbjceeakmjgaaGreatDoor
open Go.RowKit
set_option linter.unusedSimpArgs false
theorem ref_new (w : World) (c e b r : Int) : Calls Tryz.prog 20 #[.agg #[.int .i64 c, .int .i64 e, .int .i64 b, .int .i64 r]] w fun x w' => ∃ v, x = .returned (.tuple #[v, .int .i64 (if mayB c e b r then 0 else 150)]) ∧
    (if mayB c e b r then ∃ p, v = ptr p else v = .pointer none) ∧ Below w.heap.size w w' := by
  obtain ⟨w0, hw0⟩ : ∃ w0, w.alloc (.cells #[.int .i64 c, .int .i64 e, .int .i64 b, .int .i64 r] 23) = w0 := ⟨_, rfl⟩
  have B0 : Below w.heap.size w w0 := by rw [← hw0]; exact below_box _ _
  have kb : w0.heap[w.heap.size]? = some (.cells #[.int .i64 c, .int .i64 e, .int .i64 b, .int .i64 r] 23) := by rw [← hw0]; exact (MapKept.heap_alloc w _).1
  have HB := hid B0
  obtain ⟨A0, hA⟩ : ∃ A0, w.heap.size = A0 := ⟨_, rfl⟩
  rw [hA] at kb HB ⊢
  have c0 : w0.cell? ⟨A0, 0, none⟩ = some (.int .i64 c) := by unfold World.cell?; rw [kb]; rfl
  have c1 : w0.cell? ⟨A0, 1, none⟩ = some (.int .i64 e) := by unfold World.cell?; rw [kb]; rfl
  have c2 : w0.cell? ⟨A0, 2, none⟩ = some (.int .i64 b) := by unfold World.cell?; rw [kb]; rfl
  have c3 : w0.cell? ⟨A0, 3, none⟩ = some (.int .i64 r) := by unfold World.cell?; rw [kb]; rfl
  have HF : ∀ o, Hid (Below A0 w (w0.alloc o)) := fun o => HB.out.alloc (by have := HB.out.size; omega) o
  clear kb B0
  unfold mayB inB
  by_cases h0 : 1 ≤ c
  rotate_left
  · have n0 : ¬ (1 ≤ c) := h0
    have m0 : c < 1 := by omega
    simp only [n0, decide_true, decide_false, Bool.and_false, Bool.false_and, Bool.and_self, Bool.true_and, Bool.and_true, Bool.false_eq_true, if_false]
    have d0 : decide (c < 1) = true := decide_eq_true m0
    go_enter Tryz.func20, Tryz.ntmps20
    go_wp2
    go_ret2
    exact ⟨_, rfl, rfl, HB.out⟩
  by_cases h1 : c ≤ 64
  rotate_left
  · have n1 : ¬ (c ≤ 64) := h1
    have m1 : 64 < c := by omega
    simp only [h0, n1, decide_true, decide_false, Bool.and_false, Bool.false_and, Bool.and_self, Bool.true_and, Bool.and_true, Bool.false_eq_true, if_false]
    have d1 : decide (64 < c) = true := decide_eq_true m1
    have d0 : decide (c < 1) = false := decide_eq_false (by omega)
    go_enter Tryz.func20, Tryz.ntmps20
    go_wp2
    go_ret2
    exact ⟨_, rfl, rfl, HB.out⟩
  by_cases h2 : 1 ≤ e
  rotate_left
  · have n2 : ¬ (1 ≤ e) := h2
    have m2 : e < 1 := by omega
    simp only [h0, h1, n2, decide_true, decide_false, Bool.and_false, Bool.false_and, Bool.and_self, Bool.true_and, Bool.and_true, Bool.false_eq_true, if_false]
    have d2 : decide (e < 1) = true := decide_eq_true m2
    have d0 : decide (c < 1) = false := decide_eq_false (by omega)
    have d1 : decide (64 < c) = false := decide_eq_false (by omega)
    go_enter Tryz.func20, Tryz.ntmps20
    go_wp2
    go_ret2
    exact ⟨_, rfl, rfl, HB.out⟩
  by_cases h3 : e ≤ 64
  rotate_left
  · have n3 : ¬ (e ≤ 64) := h3
    have m3 : 64 < e := by omega
    simp only [h0, h1, h2, n3, decide_true, decide_false, Bool.and_false, Bool.false_and, Bool.and_self, Bool.true_and, Bool.and_true, Bool.false_eq_true, if_false]
    have d3 : decide (64 < e) = true := decide_eq_true m3
    have d0 : decide (c < 1) = false := decide_eq_false (by omega)
    have d1 : decide (64 < c) = false := decide_eq_false (by omega)
    have d2 : decide (e < 1) = false := decide_eq_false (by omega)
    go_enter Tryz.func20, Tryz.ntmps20
    go_wp2
    go_ret2
    exact ⟨_, rfl, rfl, HB.out⟩
  by_cases h4 : 64 ≤ r
  rotate_left
  · have n4 : ¬ (64 ≤ r) := h4
    have m4 : r < 64 := by omega
    simp only [h0, h1, h2, h3, n4, decide_true, decide_false, Bool.and_false, Bool.false_and, Bool.and_self, Bool.true_and, Bool.and_true, Bool.false_eq_true, if_false]
    have d4 : decide (r < 64) = true := decide_eq_true m4
    have d0 : decide (c < 1) = false := decide_eq_false (by omega)
    have d1 : decide (64 < c) = false := decide_eq_false (by omega)
    have d2 : decide (e < 1) = false := decide_eq_false (by omega)
    have d3 : decide (64 < e) = false := decide_eq_false (by omega)
    go_enter Tryz.func20, Tryz.ntmps20
    go_wp2
    go_ret2
    exact ⟨_, rfl, rfl, HB.out⟩
  by_cases h5 : r ≤ 1100
  rotate_left
  · have n5 : ¬ (r ≤ 1100) := h5
    have m5 : 1100 < r := by omega
    simp only [h0, h1, h2, h3, h4, n5, decide_true, decide_false, Bool.and_false, Bool.false_and, Bool.and_self, Bool.true_and, Bool.and_true, Bool.false_eq_true, if_false]
    have d5 : decide (1100 < r) = true := decide_eq_true m5
    have d0 : decide (c < 1) = false := decide_eq_false (by omega)
    have d1 : decide (64 < c) = false := decide_eq_false (by omega)
    have d2 : decide (e < 1) = false := decide_eq_false (by omega)
    have d3 : decide (64 < e) = false := decide_eq_false (by omega)
    have d4 : decide (r < 64) = false := decide_eq_false (by omega)
    go_enter Tryz.func20, Tryz.ntmps20
    go_wp2
    go_ret2
    exact ⟨_, rfl, rfl, HB.out⟩
  by_cases h6 : r ≤ b
  rotate_left
  · have n6 : ¬ (r ≤ b) := h6
    have m6 : b < r := by omega
    simp only [h0, h1, h2, h3, h4, h5, n6, decide_true, decide_false, Bool.and_false, Bool.false_and, Bool.and_self, Bool.true_and, Bool.and_true, Bool.false_eq_true, if_false]
    have d6 : decide (b < r) = true := decide_eq_true m6
    have d0 : decide (c < 1) = false := decide_eq_false (by omega)
    have d1 : decide (64 < c) = false := decide_eq_false (by omega)
    have d2 : decide (e < 1) = false := decide_eq_false (by omega)
    have d3 : decide (64 < e) = false := decide_eq_false (by omega)
    have d4 : decide (r < 64) = false := decide_eq_false (by omega)
    have d5 : decide (1100 < r) = false := decide_eq_false (by omega)
    go_enter Tryz.func20, Tryz.ntmps20
    go_wp2
    go_ret2
    exact ⟨_, rfl, rfl, HB.out⟩
  by_cases h7 : b ≤ 1048576
  rotate_left
  · have n7 : ¬ (b ≤ 1048576) := h7
    have m7 : 1048576 < b := by omega
    simp only [h0, h1, h2, h3, h4, h5, h6, n7, decide_true, decide_false, Bool.and_false, Bool.false_and, Bool.and_self, Bool.true_and, Bool.and_true, Bool.false_eq_true, if_false]
    have d7 : decide (1048576 < b) = true := decide_eq_true m7
    have d0 : decide (c < 1) = false := decide_eq_false (by omega)
    have d1 : decide (64 < c) = false := decide_eq_false (by omega)
    have d2 : decide (e < 1) = false := decide_eq_false (by omega)
    have d3 : decide (64 < e) = false := decide_eq_false (by omega)
    have d4 : decide (r < 64) = false := decide_eq_false (by omega)
    have d5 : decide (1100 < r) = false := decide_eq_false (by omega)
    have d6 : decide (b < r) = false := decide_eq_false (by omega)
    go_enter Tryz.func20, Tryz.ntmps20
    go_wp2
    go_ret2
    exact ⟨_, rfl, rfl, HB.out⟩
  simp only [h0, h1, h2, h3, h4, h5, h6, h7, decide_true, Bool.and_self, if_true]
  have d0 : decide (c < 1) = false := decide_eq_false (by omega)
  have d1 : decide (64 < c) = false := decide_eq_false (by omega)
  have d2 : decide (e < 1) = false := decide_eq_false (by omega)
  have d3 : decide (64 < e) = false := decide_eq_false (by omega)
  have d4 : decide (r < 64) = false := decide_eq_false (by omega)
  have d5 : decide (1100 < r) = false := decide_eq_false (by omega)
  have d6 : decide (b < r) = false := decide_eq_false (by omega)
  have d7 : decide (1048576 < b) = false := decide_eq_false (by omega)
  go_enter Tryz.func20, Tryz.ntmps20
  go_wp2
  go_ret2
  exact ⟨_, rfl, ⟨_, rfl⟩, (HF _).out⟩
theorem ref_server (w : World) (a c e b r : Int) : Calls Tryz.prog 6 #[.agg #[.int .i64 a, .int .i64 c, .int .i64 e, .int .i64 b, .int .i64 r]] w fun x w' => ∃ v, x = .returned (.tuple #[v, .int .i64 (if inB a 1 16777215 && mayB c e b r then 0 else 200)]) ∧
    (if inB a 1 16777215 && mayB c e b r then ∃ p, v = ptr p else v = .pointer none) ∧ Below w.heap.size w w' := by
  obtain ⟨w0, hw0⟩ : ∃ w0, w.alloc (.cells #[.int .i64 a, .int .i64 c, .int .i64 e, .int .i64 b, .int .i64 r] 25) = w0 := ⟨_, rfl⟩
  have B0 : Below w.heap.size w w0 := by rw [← hw0]; exact below_box _ _
  have kb : w0.heap[w.heap.size]? = some (.cells #[.int .i64 a, .int .i64 c, .int .i64 e, .int .i64 b, .int .i64 r] 25) := by rw [← hw0]; exact (MapKept.heap_alloc w _).1
  have HB := hid B0
  have HK := hid kb
  have H := hid (ref_new w0 c e b r)
  have hlt : w.heap.size < w0.heap.size := (Array.getElem?_eq_some_iff.1 kb).1
  obtain ⟨A0, hA⟩ : ∃ A0, w.heap.size = A0 := ⟨_, rfl⟩
  rw [hA] at kb HB HK hlt ⊢
  have HL := hid hlt
  have c0 : w0.cell? ⟨A0, 0, none⟩ = some (.int .i64 a) := by unfold World.cell?; rw [kb]; rfl
  have c1 : w0.cell? ⟨A0, 1, none⟩ = some (.int .i64 c) := by unfold World.cell?; rw [kb]; rfl
  have c2 : w0.cell? ⟨A0, 2, none⟩ = some (.int .i64 e) := by unfold World.cell?; rw [kb]; rfl
  have c3 : w0.cell? ⟨A0, 3, none⟩ = some (.int .i64 b) := by unfold World.cell?; rw [kb]; rfl
  have c4 : w0.cell? ⟨A0, 4, none⟩ = some (.int .i64 r) := by unfold World.cell?; rw [kb]; rfl
  clear kb B0 hlt
  cases hm : mayB c e b r <;> rw [hm] at H
  · simp only [Bool.and_false, Bool.false_eq_true, if_false] at H ⊢
    go_enter Tryz.func6, Tryz.ntmps6
    go_wp2_with fail
    refine H.out.mono ?_
    rintro _ w1 ⟨v, rfl, rfl, hb⟩
    have HC : Hid (Below A0 w w1) := HB.out.trans (hb.mono (by have := HB.out.size; omega))
    clear hb
    go_wp2
    go_ret2
    exact ⟨_, rfl, rfl, HC.out⟩
  · simp only [Bool.and_true, if_true] at H ⊢
    have hin : inB a 1 16777215 = (decide (1 ≤ a) && decide (a ≤ 16777215)) := rfl
    rw [hin]
    by_cases h1 : 1 ≤ a
    rotate_left
    · have d1 : decide (a < 1) = true := decide_eq_true (by omega)
      simp only [h1, decide_false, Bool.false_and, Bool.false_eq_true, if_false]
      go_enter Tryz.func6, Tryz.ntmps6
      go_wp2_with fail
      refine H.out.mono ?_
      rintro _ w1 ⟨_, rfl, ⟨p, rfl⟩, hb⟩
      have HC : Hid (Below A0 w w1) := HB.out.trans (hb.mono (by have := HB.out.size; omega))
      have c0 : w1.cell? ⟨A0, 0, none⟩ = some (.int .i64 a) := by rw [hb.cell (p := ⟨A0, 0, none⟩) HL.out]; exact c0
      clear hb
      go_wp2
      go_ret2
      exact ⟨_, rfl, rfl, HC.out⟩
    have d1 : decide (a < 1) = false := decide_eq_false (by omega)
    by_cases h2 : a ≤ 16777215
    rotate_left
    · have d2 : decide (16777215 < a) = true := decide_eq_true (by omega)
      simp only [h1, h2, decide_false, Bool.and_false, Bool.false_eq_true, if_false]
      go_enter Tryz.func6, Tryz.ntmps6
      go_wp2_with fail
      refine H.out.mono ?_
      rintro _ w1 ⟨_, rfl, ⟨p, rfl⟩, hb⟩
      have HC : Hid (Below A0 w w1) := HB.out.trans (hb.mono (by have := HB.out.size; omega))
      have c0 : w1.cell? ⟨A0, 0, none⟩ = some (.int .i64 a) := by rw [hb.cell (p := ⟨A0, 0, none⟩) HL.out]; exact c0
      clear hb
      go_wp2
      go_ret2
      exact ⟨_, rfl, rfl, HC.out⟩
    have d2 : decide (16777215 < a) = false := decide_eq_false (by omega)
    simp only [h1, h2, decide_true, Bool.and_self, if_true]
    go_enter Tryz.func6, Tryz.ntmps6
    go_wp2_with fail
    refine H.out.mono ?_
    rintro _ w1 ⟨_, rfl, ⟨p, rfl⟩, hb⟩
    have HC : Hid (Below A0 w w1) := HB.out.trans (hb.mono (by have := HB.out.size; omega))
    have c0 : w1.cell? ⟨A0, 0, none⟩ = some (.int .i64 a) := by rw [hb.cell (p := ⟨A0, 0, none⟩) HL.out]; exact c0
    have c1 : w1.cell? ⟨A0, 1, none⟩ = some (.int .i64 c) := by rw [hb.cell (p := ⟨A0, 1, none⟩) HL.out]; exact c1
    have c2 : w1.cell? ⟨A0, 2, none⟩ = some (.int .i64 e) := by rw [hb.cell (p := ⟨A0, 2, none⟩) HL.out]; exact c2
    have c3 : w1.cell? ⟨A0, 3, none⟩ = some (.int .i64 b) := by rw [hb.cell (p := ⟨A0, 3, none⟩) HL.out]; exact c3
    have c4 : w1.cell? ⟨A0, 4, none⟩ = some (.int .i64 r) := by rw [hb.cell (p := ⟨A0, 4, none⟩) HL.out]; exact c4
    have HF : ∀ o, Hid (Below A0 w (w1.alloc o)) := fun o => HC.out.alloc (by have := HC.out.size; omega) o
    clear hb
    go_wp2
    go_ret2
    exact ⟨_, rfl, ⟨_, rfl⟩, (HF _).out⟩
end Go.Proofs.YtedbjceeakmjgaaGreatDoor
