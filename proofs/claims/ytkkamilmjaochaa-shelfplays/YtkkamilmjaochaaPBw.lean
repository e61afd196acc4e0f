/- ShelfPlays: the book. Tags: 1 the book's block, 2 what its lists must be, 6 the free ones, 7 what they must be, 8 all that were marked, 1000 + j the j-th list that came out. -/
import Derived.Test.YtkkamilmjaochaaPBv
namespace Go.Proofs.Ytkkamilmjaochaa
open Go.RowKit
def TO (t : Nat) : Prop := t = 1 ∨ t = 6 ∨ t = 7 ∨ t = 8 ∨ 1000 ≤ t
abbrev bkB (vf vw va : Value) (N : Nat) : Obj := .cells #[vf, vw, va, .int .i64 (N : Int)] 43
/-- the book: N lists were marked, FL are free, and must be WL -/
structure BK (K : Nat → Nat) (w : World) (B bb N : Nat) (vf vw va : Value) (FL WL AL : List Sl) : Prop where
  blk : TB K w 1 bb (bkB vf vw va N)
  f : RW 109 1 slC K w B 6 vf FL
  g : RW 109 1 slC K w B 7 vw WL
  a : RW 109 1 slC K w B 8 va AL
  lw : WL.length = FL.length
  la : AL.length = 6 * N
  ent : ∀ j s, FL[j]? = some s → ∃ u l, WL[j]? = some u ∧ RW 32 2 kcK K w B (1000 + (N + j)) (slV s) l ∧ RW 32 2 kcK K w B 2 (slV u) l ∧ l.length ≤ 1048576
  all : ∀ t s, AL[t]? = some s → s.n ≤ 1048582 ∧ ME K w (1000 + t / 6) (slV s) (t / 6) s.n
  hB : B ≤ w.heap.size
section
variable {K K' : Nat → Nat} {w w' : World} {B bb N : Nat} {vf vw va : Value} {FL WL AL : List Sl}
theorem BK.mv {T : Nat → Prop} (h : BK K w B bb N vf vw va FL WL AL) (m : Mv T w w' K K') (ht : ∀ t, T t → ¬ TO t ∧ t ≠ 2) : BK K' w' B bb N vf vw va FL WL AL := by
  have n : ∀ t, TO t ∨ t = 2 → ¬ T t := fun t h1 h2 => h1.elim (ht t h2).1 (ht t h2).2
  refine ⟨h.blk.mv m (n 1 (by unfold TO; omega)), h.f.mv m (n 6 (by unfold TO; omega)), h.g.mv m (n 7 (by unfold TO; omega)), h.a.mv m (n 8 (by unfold TO; omega)), h.lw, h.la, fun j s hs => ?_, fun t s hs => ?_, Nat.le_trans h.hB m.size⟩
  · obtain ⟨u, l, e1, e2, e3, e4⟩ := h.ent j s hs
    exact ⟨u, l, e1, e2.mv m (n _ (by unfold TO; omega)), e3.mv m (n 2 (by omega)), e4⟩
  · obtain ⟨e1, e2⟩ := h.all t s hs
    exact ⟨e1, e2.mv m (n _ (by unfold TO; omega))⟩
theorem BK.c (h : BK K w B bb N vf vw va FL WL AL) : w.cell? ⟨bb, 0, none⟩ = some vf ∧ w.cell? ⟨bb, 1, none⟩ = some vw ∧ w.cell? ⟨bb, 2, none⟩ = some va ∧ w.cell? ⟨bb, 3, none⟩ = some (.int .i64 (N : Int)) := by
  unfold World.cell?; rw [h.blk.at_]; exact ⟨rfl, rfl, rfl, rfl⟩
theorem TB.set43 {K : Nat → Nat} {w : World} {bb : Nat} {a b c d : Value} (h : TB K w 1 bb (.cells #[a, b, c, d] 43)) (v : Value) :
    TB K (w.setCell ⟨bb, 0, none⟩ v) 1 bb (.cells #[v, b, c, d] 43) ∧ TB K (w.setCell ⟨bb, 1, none⟩ v) 1 bb (.cells #[a, v, c, d] 43) ∧ TB K (w.setCell ⟨bb, 2, none⟩ v) 1 bb (.cells #[a, b, v, d] 43) ∧ TB K (w.setCell ⟨bb, 3, none⟩ v) 1 bb (.cells #[a, b, c, v] 43) := by
  refine ⟨⟨?_, h.k⟩, ⟨?_, h.k⟩, ⟨?_, h.k⟩, ⟨?_, h.k⟩⟩ <;> (unfold World.setCell; simp [Array.getElem?_modify, h.at_])
theorem BK.fz (h : BK K w B bb N vf vw va FL WL AL) (i : Nat) : w.frozen? ⟨bb, i, none⟩ = false := by unfold World.frozen?; rw [h.blk.at_]; rfl
theorem bls41 (w : World) (s : Sl) : (Instr.buildSlice 41 1 #[(0, .slice s.oa s.n s.c)]).run Try.prog w = .ok (.slice (some ⟨w.heap.size, 0, none⟩) 1 1) (w.alloc (.cells #[.slice s.oa s.n s.c] 109)) := by kernel_rfl
/-- a list of lists grown by one -/
theorem RW.put {t : Nat} {v : Value} {l : List Sl} (h : RW 109 1 slC K w B t v l) (hB : B ≤ w.heap.size) {b : Nat} {s : Sl} (hb : w.heap[b]? = some (.cells #[slV s] 109 (0, 0))) (hl : l.length ≤ 100000000000) :
    ∃ oa c w' K', (∀ r, (Builtin.append_ #[41, 41] r #[v, .slice (some ⟨b, 0, none⟩) 1 1]).run Try.prog w = .ok (.slice oa (l.length + 1) c) w') ∧ RW 109 1 slC K' w' B t (.slice oa (l.length + 1) c) (l ++ [s]) ∧ Mv (fun x => x = t) w w' K K' := by
  obtain ⟨i, hi, hz, hs, hby⟩ := info109
  obtain ⟨v', w', K', q1, q2, q3⟩ := RW.app (ty := 41) Try.underlying41 hi hz hs hby rfl (by omega) slL slO h hB (N := b) (x := s) (cs := #[slV s]) rfl hb (by omega) (by omega)
  obtain ⟨oa, c, e, _, _⟩ := q2.form
  rw [List.length_append, List.length_singleton] at e
  subst e
  exact ⟨oa, c, w', K', q1, q2, q3⟩
/-- a list that came out is put into the book, and what it must be -/
theorem BK.free (h : BK K w B bb N vf vw va FL WL AL) {s u : Sl} {l : List KeyP} (hs : RW 32 2 kcK K w B (1000 + (N + FL.length)) (slV s) l) (hu : RW 32 2 kcK K w B 2 (slV u) l) (hl : l.length ≤ 1048576) (hn : FL.length ≤ 10000000000) {S1 : Nat} {w1 : World} (hS1 : w.heap.size = S1) (hw1 : w.alloc (.cells #[slV s] 109) = w1) :
    ∃ oa c w2 w3, (∀ r, (Builtin.append_ #[41, 41] r #[vf, .slice (some ⟨S1, 0, none⟩) 1 1]).run Try.prog w1 = .ok (.slice oa (FL.length + 1) c) w2) ∧ w2.cell? ⟨bb, 0, none⟩ = some vf ∧ w2.frozen? ⟨bb, 0, none⟩ = false ∧ w2.setCell ⟨bb, 0, none⟩ (.slice oa (FL.length + 1) c) = w3 ∧ w3.cell? ⟨bb, 1, none⟩ = some vw ∧
      ∀ S3 w4, w3.heap.size = S3 → w3.alloc (.cells #[slV u] 109) = w4 → ∃ ob d w5 w6 K', (∀ r, (Builtin.append_ #[41, 41] r #[vw, .slice (some ⟨S3, 0, none⟩) 1 1]).run Try.prog w4 = .ok (.slice ob (FL.length + 1) d) w5) ∧ w5.cell? ⟨bb, 1, none⟩ = some vw ∧ w5.frozen? ⟨bb, 1, none⟩ = false ∧ w5.setCell ⟨bb, 1, none⟩ (.slice ob (FL.length + 1) d) = w6 ∧
        BK K' w6 B bb N (.slice oa (FL.length + 1) c) (.slice ob (FL.length + 1) d) va (FL ++ [s]) (WL ++ [u]) AL ∧ Mv (fun t => t = 1 ∨ t = 6 ∨ t = 7) w w6 K K' := by
  have m1 : Mv (fun _ => False) w w1 K (ext w K (fun _ => 3)) := by rw [← hw1]; exact Mv.alloc _ _ _ _
  have h1 := h.mv m1 (fun _ h => h.elim)
  have hs1 := hs.mv m1 id
  have hu1 := hu.mv m1 id
  obtain ⟨oa, c, w2, K2, q1, q2, m2⟩ := h1.f.put h1.hB (b := S1) (s := s) (by rw [← hw1, ← hS1]; exact (MapKept.heap_alloc w _).1) (by omega)
  have b2 := h1.blk.mv m2 (by omega)
  obtain ⟨w3, hw3⟩ : ∃ w3, w2.setCell ⟨bb, 0, none⟩ (.slice oa (FL.length + 1) c) = w3 := ⟨_, rfl⟩
  have m3 : Mv (fun t => t = 1) w2 w3 K2 K2 := by rw [← hw3]; exact Mv.of_set w2 K2 ⟨bb, 0, none⟩ _ b2.k
  have b3 : TB K2 w3 1 bb (bkB (.slice oa (FL.length + 1) c) vw va N) := by rw [← hw3]; exact (b2.set43 _).1
  refine ⟨oa, c, w2, w3, q1, ?_, ?_, hw3, ?_, fun S3 w4 hS3 hw4 => ?_⟩
  · unfold World.cell?; rw [b2.at_]; rfl
  · unfold World.frozen?; rw [b2.at_]; rfl
  · unfold World.cell?; rw [b3.at_]; rfl
  · have m4 : Mv (fun _ => False) w3 w4 K2 (ext w3 K2 (fun _ => 3)) := by rw [← hw4]; exact Mv.alloc _ _ _ _
    have g4 := ((h1.g.mv m2 (by omega)).mv m3 (by omega)).mv m4 id
    have hB4 : B ≤ w4.heap.size := Nat.le_trans h1.hB (Nat.le_trans m2.size (Nat.le_trans m3.size m4.size))
    obtain ⟨ob, d, w5, K5, q5, g5, m5⟩ := g4.put hB4 (b := S3) (s := u) (by rw [← hw4, ← hS3]; exact (MapKept.heap_alloc w3 _).1) (by rw [h.lw]; omega)
    rw [h.lw] at q5 g5
    have b5 := (b3.mv m4 id).mv m5 (by omega)
    obtain ⟨w6, hw6⟩ : ∃ w6, w5.setCell ⟨bb, 1, none⟩ (.slice ob (FL.length + 1) d) = w6 := ⟨_, rfl⟩
    have m6 : Mv (fun t => t = 1) w5 w6 K5 K5 := by rw [← hw6]; exact Mv.of_set w5 K5 ⟨bb, 1, none⟩ _ b5.k
    have b6 : TB K5 w6 1 bb (bkB (.slice oa (FL.length + 1) c) (.slice ob (FL.length + 1) d) va N) := by rw [← hw6]; exact (b5.set43 _).2.1
    have m16 : Mv (fun t => t = 1 ∨ t = 6 ∨ t = 7) w1 w6 (ext w K (fun _ => 3)) K5 := (((m2.mono (fun t h => by omega)).trans (m3.mono (fun t h => by omega))).trans (m4.mono (fun t h => h.elim))).trans ((m5.mono (fun t h => by omega)).trans (m6.mono (fun t h => by omega)))
    refine ⟨ob, d, w5, w6, K5, q5, ?_, ?_, hw6, ⟨b6, ?_, g5.mv m6 (by omega), h1.a.mv m16 (by omega), by rw [List.length_append, List.length_append, h.lw]; rfl, h.la, fun j s' hs' => ?_, fun t s' hs' => ?_, Nat.le_trans h1.hB m16.size⟩, (m1.mono (fun t h => h.elim)).trans m16⟩
    · unfold World.cell?; rw [b5.at_]; rfl
    · unfold World.frozen?; rw [b5.at_]; rfl
    · exact (((q2.mv m3 (by omega)).mv m4 id).mv m5 (by omega)).mv m6 (by omega)
    · rcases Nat.lt_or_ge j FL.length with hj | hj
      · rw [List.getElem?_append_left hj] at hs'
        obtain ⟨u', l', e1, e2, e3, e4⟩ := h1.ent j s' hs'
        exact ⟨u', l', by rw [List.getElem?_append_left (by rw [h.lw]; exact hj)]; exact e1, e2.mv m16 (by omega), e3.mv m16 (by omega), e4⟩
      · have hj2 := (List.getElem?_eq_some_iff.1 hs').1
        rw [List.length_append, List.length_singleton] at hj2
        obtain rfl : j = FL.length := by omega
        rw [List.getElem?_append_right (Nat.le_refl _), Nat.sub_self] at hs'
        cases hs'
        exact ⟨u, l, by rw [List.getElem?_append_right (by rw [h.lw]; exact Nat.le_refl _), h.lw, Nat.sub_self]; rfl, hs1.mv m16 (by omega), hu1.mv m16 (by omega), hl⟩
    · obtain ⟨e1, e2⟩ := h1.all t s' hs'
      exact ⟨e1, e2.mv m16 (by omega)⟩
end
end Go.Proofs.Ytkkamilmjaochaa
