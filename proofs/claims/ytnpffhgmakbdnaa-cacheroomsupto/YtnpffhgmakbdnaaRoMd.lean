/- New. -/
import Derived.Test.YtnpffhgmakbdnaaRoMc
namespace Go.Proofs.Ytnpffhgmakbdnaa
open Go.RowKit
def mayB (c e b r : Int) : Bool := inB c 1 64 && inB e 1 64 && inB r 64 1100 && inB b r 1048576
theorem mayBe_any (w : World) (c e b r : Int) : Calls Try.prog 20 #[.agg #[.int .i64 c, .int .i64 e, .int .i64 b, .int .i64 r]] w fun x w' => x = .returned (.bool (mayB c e b r)) ∧ Below w.heap.size w w' := by
  obtain ⟨w0, hw0⟩ : ∃ w0, w.alloc (.cells #[.int .i64 c, .int .i64 e, .int .i64 b, .int .i64 r] 23) = w0 := ⟨_, rfl⟩
  have HB : Hid (Below w.heap.size w w0) := by rw [← hw0]; exact below_box _ _
  have kb : w0.heap[w.heap.size]? = some (.cells #[.int .i64 c, .int .i64 e, .int .i64 b, .int .i64 r] 23) := by rw [← hw0]; exact (MapKept.heap_alloc w _).1
  obtain ⟨A0, hA⟩ : ∃ A0, w.heap.size = A0 := ⟨_, rfl⟩
  rw [hA] at kb HB ⊢
  have c0 : w0.cell? ⟨A0, 0, none⟩ = some (.int .i64 c) := by unfold World.cell?; rw [kb]; rfl
  have c1 : w0.cell? ⟨A0, 1, none⟩ = some (.int .i64 e) := by unfold World.cell?; rw [kb]; rfl
  have c2 : w0.cell? ⟨A0, 2, none⟩ = some (.int .i64 b) := by unfold World.cell?; rw [kb]; rfl
  have c3 : w0.cell? ⟨A0, 3, none⟩ = some (.int .i64 r) := by unfold World.cell?; rw [kb]; rfl
  have H1 := hid (within_any w0 c 1 64)
  have H2 := hid (within_any w0 e 1 64)
  have H3 := hid (within_any w0 r 64 1100)
  have H4 := hid (within_any w0 b r 1048576)
  clear kb
  unfold mayB
  cases h1 : inB c 1 64 <;> rw [h1] at H1
  · go_enter Try.func20, Try.ntmps20
    go_wp2_with fail
    refine H1.out.mono ?_
    rintro _ _ ⟨rfl, rfl⟩
    go_wp2
    go_ret
    exact ⟨rfl, HB.out⟩
  cases h2 : inB e 1 64 <;> rw [h2] at H2
  · go_enter Try.func20, Try.ntmps20
    go_wp2_with fail
    refine H1.out.mono ?_
    rintro _ _ ⟨rfl, rfl⟩
    go_wp2_with fail
    refine H2.out.mono ?_
    rintro _ _ ⟨rfl, rfl⟩
    go_wp2
    go_ret
    exact ⟨rfl, HB.out⟩
  cases h3 : inB r 64 1100 <;> rw [h3] at H3
  · go_enter Try.func20, Try.ntmps20
    go_wp2_with fail
    refine H1.out.mono ?_
    rintro _ _ ⟨rfl, rfl⟩
    go_wp2_with fail
    refine H2.out.mono ?_
    rintro _ _ ⟨rfl, rfl⟩
    go_wp2_with fail
    refine H3.out.mono ?_
    rintro _ _ ⟨rfl, rfl⟩
    go_wp2
    go_ret
    exact ⟨rfl, HB.out⟩
  generalize inB b r 1048576 = q at *
  go_enter Try.func20, Try.ntmps20
  go_wp2_with fail
  refine H1.out.mono ?_
  rintro _ _ ⟨rfl, rfl⟩
  go_wp2_with fail
  refine H2.out.mono ?_
  rintro _ _ ⟨rfl, rfl⟩
  go_wp2_with fail
  refine H3.out.mono ?_
  rintro _ _ ⟨rfl, rfl⟩
  go_wp2_with fail
  refine H4.out.mono ?_
  rintro _ _ ⟨rfl, rfl⟩
  go_wp2
  go_ret
  exact ⟨rfl, HB.out⟩
theorem new_bad (w : World) (c e b r : Int) (h : mayB c e b r = false) : Calls Try.prog 7 #[.agg #[.int .i64 c, .int .i64 e, .int .i64 b, .int .i64 r]] w fun x w' => x = .returned (.tuple #[.pointer none, .int .i64 150]) ∧ Below w.heap.size w w' := by
  obtain ⟨w0, hw0⟩ : ∃ w0, w.alloc (.cells #[.int .i64 c, .int .i64 e, .int .i64 b, .int .i64 r] 23) = w0 := ⟨_, rfl⟩
  have B0 : Below w.heap.size w w0 := by rw [← hw0]; exact below_box _ _
  have kb : w0.heap[w.heap.size]? = some (.cells #[.int .i64 c, .int .i64 e, .int .i64 b, .int .i64 r] 23) := by rw [← hw0]; exact (MapKept.heap_alloc w _).1
  have H := hid (mayBe_any w0 c e b r)
  rw [h] at H
  have HB := hid B0
  obtain ⟨A0, hA⟩ : ∃ A0, w.heap.size = A0 := ⟨_, rfl⟩
  rw [hA] at kb HB ⊢
  have c0 : w0.cell? ⟨A0, 0, none⟩ = some (.int .i64 c) := by unfold World.cell?; rw [kb]; rfl
  have c1 : w0.cell? ⟨A0, 1, none⟩ = some (.int .i64 e) := by unfold World.cell?; rw [kb]; rfl
  have c2 : w0.cell? ⟨A0, 2, none⟩ = some (.int .i64 b) := by unfold World.cell?; rw [kb]; rfl
  have c3 : w0.cell? ⟨A0, 3, none⟩ = some (.int .i64 r) := by unfold World.cell?; rw [kb]; rfl
  clear kb B0 h
  go_enter Try.func7, Try.ntmps7
  go_wp2_with fail
  refine H.out.mono ?_
  rintro _ w1 ⟨rfl, h1⟩
  have HC : Hid (Below A0 w w1) := HB.out.trans (h1.mono (by have := HB.out.size; omega))
  clear h1
  go_wp2
  go_ret2
  exact ⟨rfl, HC.out⟩
theorem new_good (w : World) (g : Cf) (h : CfOk g) : Calls Try.prog 7 #[cfV g] w fun x w' => ∃ p mm, x = .returned (.tuple #[ptr p, .int .i64 0]) ∧ PC w' p g mm [] ∧ Below w.heap.size w w' ∧ w.heap.size ≤ p ∧ w.heap.size ≤ mm := by
  obtain ⟨c, e, b, r⟩ := g
  have hm : mayB (c : Int) e b r = true := by
    have h1 := h.c; have h2 := h.e; have h3 := h.r; have h4 := h.b
    simp only at h1 h2 h3 h4
    unfold mayB inB
    simp
    omega
  obtain ⟨w0, hw0⟩ : ∃ w0, w.alloc (.cells #[.int .i64 c, .int .i64 e, .int .i64 b, .int .i64 r] 23) = w0 := ⟨_, rfl⟩
  have B0 : Below w.heap.size w w0 := by rw [← hw0]; exact below_box _ _
  have kb : w0.heap[w.heap.size]? = some (.cells #[.int .i64 c, .int .i64 e, .int .i64 b, .int .i64 r] 23) := by rw [← hw0]; exact (MapKept.heap_alloc w _).1
  have hs0 : w.heap.size < w0.heap.size := (Array.getElem?_eq_some_iff.1 kb).1
  have H := hid (mayBe_any w0 c e b r)
  rw [hm] at H
  have HB := hid B0
  have HO := hid h
  have HK := hid kb
  have HS := hid hs0
  obtain ⟨A0, hA⟩ : ∃ A0, w.heap.size = A0 := ⟨_, rfl⟩
  rw [hA] at kb HB HK HS ⊢
  have c0 : w0.cell? ⟨A0, 0, none⟩ = some (.int .i64 c) := by unfold World.cell?; rw [kb]; rfl
  have c1 : w0.cell? ⟨A0, 1, none⟩ = some (.int .i64 e) := by unfold World.cell?; rw [kb]; rfl
  have c2 : w0.cell? ⟨A0, 2, none⟩ = some (.int .i64 b) := by unfold World.cell?; rw [kb]; rfl
  have c3 : w0.cell? ⟨A0, 3, none⟩ = some (.int .i64 r) := by unfold World.cell?; rw [kb]; rfl
  have hmk : ∀ w : World, (Instr.makeMap 65 none).run Try.prog w = .ok (.map (some w.heap.size)) (w.alloc (.map #[] 0)) := fun _ => rfl
  clear kb B0 h hm hs0
  go_enter Try.func7, Try.ntmps7
  go_wp2_with fail
  refine H.out.mono ?_
  rintro _ w1 ⟨rfl, h1⟩
  have hk1 : w1.heap[A0]? = _ := (h1.block A0 HS.out).trans HK.out
  have d0 : w1.cell? ⟨A0, 0, none⟩ = some (.int .i64 c) := by unfold World.cell?; rw [hk1]; rfl
  have d1 : w1.cell? ⟨A0, 1, none⟩ = some (.int .i64 e) := by unfold World.cell?; rw [hk1]; rfl
  have d2 : w1.cell? ⟨A0, 2, none⟩ = some (.int .i64 b) := by unfold World.cell?; rw [hk1]; rfl
  have d3 : w1.cell? ⟨A0, 3, none⟩ = some (.int .i64 r) := by unfold World.cell?; rw [hk1]; rfl
  have HC : Hid (Below A0 w w1) := HB.out.trans (h1.mono (by have := HB.out.size; omega))
  obtain ⟨w2, hw2⟩ : ∃ w2, w1.alloc (.map #[] 0) = w2 := ⟨_, rfl⟩
  obtain ⟨m1, hm1⟩ : ∃ m1, w1.heap.size = m1 := ⟨_, rfl⟩
  obtain ⟨p1, hp1⟩ : ∃ p1, w2.heap.size = p1 := ⟨_, rfl⟩
  obtain ⟨w3, hw3⟩ : ∃ w3, w2.alloc (.cells #[.int .i64 c, .int .i64 e, .int .i64 b, .int .i64 r, .map (some m1)] 67) = w3 := ⟨_, rfl⟩
  have HR : Hid (PC w3 p1 ⟨c, e, b, r⟩ m1 [] ∧ Below A0 w w3 ∧ A0 ≤ p1 ∧ A0 ≤ m1) := by
    have s1 := HC.out.size
    have s2 : m1 < w2.heap.size := by rw [← hw2, ← hm1]; simp
    refine ⟨⟨?_, HO.out, ⟨#[], 0, ?_, by simp, by simp, by simp⟩, fun c hc => by simp at hc, ⟨fun c hc => by simp at hc, by simp, by simp, by simp [tot]⟩, by simp, by simp⟩, ?_, ?_, ?_⟩
    · rw [← hw3, ← hp1]; exact (MapKept.heap_alloc w2 _).1
    · rw [← hw3, heap_alloc_old w2 _ s2, ← hw2, ← hm1]; exact (MapKept.heap_alloc w1 _).1
    · rw [← hw3, ← hw2]
      have q1 := HC.out.alloc (o := .map #[] 0) (by omega)
      exact q1.alloc (by rw [hw2]; omega) _
    · omega
    · omega
  clear h1 hk1
  go_wp2
  go_ret2
  exact ⟨p1, m1, rfl, HR.out⟩
end Go.Proofs.Ytnpffhgmakbdnaa
