/- ShelfPlays: the book while its lists are marked and grown. -/
import Derived.Test.YtkkamilmjaochaaPBw
namespace Go.Proofs.Ytkkamilmjaochaa
open Go.RowKit
def TS3 (t : Nat) : Prop := t = 1 ∨ t = 8 ∨ 1000 ≤ t
structure LB (K0 : Nat → Nat) (w0 : World) (K : Nat → Nat) (w : World) (B bb N : Nat) (vf vw va : Value) (FL AL : List Sl) : Prop where
  blk : TB K w 1 bb (bkB vf vw va N)
  f : RW 109 1 slC K w B 6 vf FL
  a : RW 109 1 slC K w B 8 va AL
  hB : B ≤ w.heap.size
  mv : Mv TS3 w0 w K0 K
/-- what was marked ahead -/
def Olds (K : Nat → Nat) (w : World) (AL : List Sl) : Prop := ∀ t s, AL[t]? = some s → s.n ≤ 1048582 ∧ ME K w (1000 + t / 6) (slV s) (t / 6) s.n
/-- lists ahead of i are marked, of the i-th k elements -/
def MKd (K : Nat → Nat) (w : World) (B N : Nat) (FL : List Sl) (i k : Nat) : Prop := ∀ j s, FL[j]? = some s → s.n ≤ 1048576 ∧ ∃ q l, RW 32 2 kcK K w B (1000 + (N + j)) (slV s) (mks (N + j) q ++ l) ∧ q + l.length = s.n ∧ (j < i → q = s.n) ∧ (j = i → q = k) ∧ (i < j → q = 0)
theorem own_fz {w : World} {B g n c n' : Nat} {xs : List Value} (h : w.ownsRow B 32 2 (.slice (some ⟨g, 0, none⟩) n c) n' xs) (o : Nat) : w.frozen? ⟨g, o, none⟩ = false := by
  rcases h.2 with ⟨h1, _⟩ | ⟨g2, c2, cur, h1, h2, h3, _⟩
  · cases h1
  · injection h1 with e1 _ e2
    injection e1 with e1
    injection e1 with e1
    subst e1 e2
    unfold World.frozen?
    rw [h3]
    simp
section
variable {K0 K K' : Nat → Nat} {w0 w w' : World} {B bb N : Nat} {vf vw va : Value} {FL AL : List Sl}
theorem LB.to {T : Nat → Prop} (h : LB K0 w0 K w B bb N vf vw va FL AL) (m : Mv T w w' K K') (ht : ∀ t, T t → 1000 ≤ t) : LB K0 w0 K' w' B bb N vf vw va FL AL :=
  have n : ∀ t, t < 1000 → ¬ T t := fun t h1 h2 => by have := ht t h2; omega
  ⟨h.blk.mv m (n 1 (by omega)), h.f.mv m (n 6 (by omega)), h.a.mv m (n 8 (by omega)), Nat.le_trans h.hB m.size, h.mv.trans (m.mono (fun t h => .inr (.inr (ht t h))))⟩
theorem Olds.mv {T : Nat → Prop} (h : Olds K w AL) (m : Mv T w w' K K') (ht : ∀ t, t < AL.length → ¬ T (1000 + t / 6)) : Olds K' w' AL := fun t s hs => ⟨(h t s hs).1, (h t s hs).2.mv m (ht t (List.getElem?_eq_some_iff.1 hs).1)⟩
theorem LB.c (h : LB K0 w0 K w B bb N vf vw va FL AL) : w.cell? ⟨bb, 0, none⟩ = some vf ∧ w.cell? ⟨bb, 2, none⟩ = some va ∧ w.cell? ⟨bb, 3, none⟩ = some (.int .i64 (N : Int)) := by
  unfold World.cell?; rw [h.blk.at_]; exact ⟨rfl, rfl, rfl⟩
theorem LB.fz (h : LB K0 w0 K w B bb N vf vw va FL AL) (i : Nat) : w.frozen? ⟨bb, i, none⟩ = false := by unfold World.frozen?; rw [h.blk.at_]; rfl
theorem RW.cell1 {t : Nat} {g n c : Nat} {l : List Sl} (h : RW 109 1 slC K w B t (.slice (some ⟨g, 0, none⟩) n c) l) (hn : l.length = n) {i : Nat} {s : Sl} (hs : l[i]? = some s) : w.cell? ⟨g, i, none⟩ = some (.slice s.oa s.n s.c) := by
  have := h.cell slL hn hs 0 (by omega)
  rw [Nat.mul_one, Nat.add_zero] at this
  exact this
theorem RW.slen {t : Nat} {s : Sl} {l : List KeyP} (h : RW 32 2 kcK K w B t (slV s) l) : s.n = l.length := by
  obtain ⟨oa, c, e, _, _⟩ := h.form
  injection e
theorem BK.lb {WL : List Sl} (h : BK K w B bb N vf vw va FL WL AL) : LB K w K w B bb N vf vw va FL AL ∧ Olds K w AL ∧ MKd K w B N FL 0 0 := by
  refine ⟨⟨h.blk, h.f, h.a, h.hB, Mv.refl _ _ _⟩, h.all, fun j s hs => ?_⟩
  obtain ⟨u, l, e1, e2, e3, e4⟩ := h.ent j s hs
  have := e2.slen
  exact ⟨by omega, 0, l, e2, by omega, fun h => by omega, fun _ => rfl, fun _ => rfl⟩
theorem MKd.below {i k : Nat} (h : MKd K w B N FL i k) {T : Nat → Prop} (m : Mv T w w' K K') (ht : ∀ t, ¬ T t) : MKd K' w' B N FL i k := fun j s hs => by
  obtain ⟨e0, q, l, e1, e2⟩ := h j s hs
  exact ⟨e0, q, l, e1.mv m (ht _), e2⟩
theorem mark_step {i k : Nat} {s : Sl} (h : LB K0 w0 K w B bb N vf vw va FL AL) (hm : MKd K w B N FL i k) (ho : Olds K w AL) (hla : AL.length = 6 * N) (hs : FL[i]? = some s) (hk : k < s.n) :
    ∃ g, s.oa = some ⟨g, 0, none⟩ ∧ K g = 1000 + (N + i) ∧ (∃ u, w.cell? ⟨g, k * 2, none⟩ = some u) ∧ (∃ u, w.cell? ⟨g, k * 2 + 1, none⟩ = some u) ∧ (∀ o, w.frozen? ⟨g, o, none⟩ = false) ∧
      LB K0 w0 K ((w.setCell ⟨g, k * 2, none⟩ (.string ⟨#[109, 97, 114, 107]⟩)).setCell ⟨g, k * 2 + 1, none⟩ (.int .i64 ((N + i : Nat) : Int))) B bb N vf vw va FL AL ∧ MKd K ((w.setCell ⟨g, k * 2, none⟩ (.string ⟨#[109, 97, 114, 107]⟩)).setCell ⟨g, k * 2 + 1, none⟩ (.int .i64 ((N + i : Nat) : Int))) B N FL i (k + 1) ∧ Olds K ((w.setCell ⟨g, k * 2, none⟩ (.string ⟨#[109, 97, 114, 107]⟩)).setCell ⟨g, k * 2 + 1, none⟩ (.int .i64 ((N + i : Nat) : Int))) AL := by
  obtain ⟨e0, q, l, e1, e2, _, e4, _⟩ := hm i s hs
  obtain rfl := e4 rfl
  cases l with
  | nil => simp at e2; omega
  | cons x l =>
    have hln : (mks (N + i) q ++ x :: l).length = s.n := by rw [List.length_append, mks_len]; exact e2
    obtain ⟨oa, c, e, _, hg⟩ := e1.form
    obtain ⟨g, rfl⟩ := hg (by rw [hln]; omega)
    obtain ⟨so, sn, sc⟩ := s
    injection e with a1 a2 a3
    simp only at a1 a2 a3 e2 hln hk e0
    subst a1 a3
    obtain ⟨r1, m1⟩ := e1.mark e2
    have hx : (mks (N + i) q ++ x :: l)[q]? = some x := by rw [List.getElem?_append_right (by rw [mks_len]; exact Nat.le_refl _), mks_len, Nat.sub_self]; rfl
    refine ⟨g, rfl, e1.k g rfl, ⟨_, e1.cell kcL hln hx 0 (by omega)⟩, ⟨_, e1.cell kcL hln hx 1 (by omega)⟩, fun o => own_fz e1.own o, h.to m1 (fun t h => by omega), fun j s' hs' => ?_, ho.mv m1 (fun t ht => by omega)⟩
    by_cases hj : j = i
    · subst hj
      rw [hs] at hs'
      cases hs'
      exact ⟨e0, q + 1, l, r1, by simp only [List.length_cons] at e2 ⊢; omega, fun h => by omega, fun _ => rfl, fun h => by omega⟩
    · obtain ⟨f0, q', l', f1, f2, f3, f4, f5⟩ := hm j s' hs'
      exact ⟨f0, q', l', f1.mv m1 (by omega), f2, f3, fun h => absurd h hj, f5⟩
/-- between two lists: those from i on are marked and not grown -/
structure PQ (K0 : Nat → Nat) (w0 : World) (K : Nat → Nat) (w : World) (B bb N : Nat) (vf vw va : Value) (FL AL : List Sl) (i : Nat) : Prop where
  lb : LB K0 w0 K w B bb N vf vw va FL AL
  la : AL.length = 6 * (N + i)
  all : Olds K w AL
  rest : ∀ j s, FL[j]? = some s → i ≤ j → s.n ≤ 1048576 ∧ RW 32 2 kcK K w B (1000 + (N + j)) (slV s) (mks (N + j) s.n)
theorem MKd.over {n : Nat} (h : LB K0 w0 K w B bb N vf vw va FL AL) (hm : MKd K w B N FL n 0) (ho : Olds K w AL) (hla : AL.length = 6 * N) (hn : FL.length = n) : PQ K0 w0 K w B bb N vf vw va FL AL 0 := by
  refine ⟨h, by omega, ho, fun j s hs _ => ?_⟩
  have hj := (List.getElem?_eq_some_iff.1 hs).1
  obtain ⟨e0, q, l, e1, e2, e3, _, _⟩ := hm j s hs
  obtain rfl := e3 (by omega)
  obtain rfl := List.eq_nil_of_length_eq_zero (show l.length = 0 by omega)
  rw [List.append_nil] at e1
  exact ⟨e0, e1⟩
/-- the i-th list is grown: it has x now, kk were put -/
structure PB (K0 : Nat → Nat) (w0 : World) (K : Nat → Nat) (w : World) (B bb N : Nat) (vf vw va : Value) (FL AL : List Sl) (i kk : Nat) (x : Sl) : Prop where
  lb : LB K0 w0 K w B bb N vf vw va FL AL
  la : AL.length = 6 * (N + i) + kk
  all : Olds K w AL
  rel : ∀ t s, AL[t]? = some s → t / 6 = N + i → Rel (slV s) (slV x) s.n x.n
  rest : ∀ j s, FL[j]? = some s → i < j → s.n ≤ 1048576 ∧ RW 32 2 kcK K w B (1000 + (N + j)) (slV s) (mks (N + j) s.n)
  x : RW 32 2 kcK K w B (1000 + (N + i)) (slV x) (mks (N + i) x.n)
theorem PQ.begin {i : Nat} {s : Sl} (h : PQ K0 w0 K w B bb N vf vw va FL AL i) (hs : FL[i]? = some s) : s.n ≤ 1048576 ∧ PB K0 w0 K w B bb N vf vw va FL AL i 0 s := by
  obtain ⟨e0, e1⟩ := h.rest i s hs (Nat.le_refl _)
  refine ⟨e0, h.lb, by rw [h.la]; rfl, h.all, fun t s' hs' ht => ?_, fun j s' hs' hj => h.rest j s' hs' (by omega), e1⟩
  have := (List.getElem?_eq_some_iff.1 hs').1
  have := h.la
  omega
theorem PB.done {i : Nat} {x : Sl} (h : PB K0 w0 K w B bb N vf vw va FL AL i 6 x) : PQ K0 w0 K w B bb N vf vw va FL AL (i + 1) :=
  ⟨h.lb, by rw [h.la]; omega, h.all, fun j s hs hj => h.rest j s hs (by omega)⟩
theorem PB.below {i kk : Nat} {x : Sl} {T : Nat → Prop} (h : PB K0 w0 K w B bb N vf vw va FL AL i kk x) (m : Mv T w w' K K') (ht : ∀ t, ¬ T t) : PB K0 w0 K' w' B bb N vf vw va FL AL i kk x :=
  ⟨h.lb.to m (fun t h => (ht t h).elim), h.la, h.all.mv m (fun _ _ => ht _), h.rel, fun j s hs hj => ⟨(h.rest j s hs hj).1, (h.rest j s hs hj).2.mv m (ht _)⟩, h.x.mv m (ht _)⟩
theorem PB.put {i kk : Nat} {x : Sl} (h : PB K0 w0 K w B bb N vf vw va FL AL i kk x) (hx : x.n ≤ 1048582) (hkk : kk < 6) (hN : N + i ≤ 10000000000) {S1 : Nat} {w1 : World} (hS1 : w.heap.size = S1) (hw1 : w.alloc (.cells #[slV x] 109) = w1) :
    ∃ oa c w2 w3 K3, (∀ r, (Builtin.append_ #[41, 41] r #[va, .slice (some ⟨S1, 0, none⟩) 1 1]).run Try.prog w1 = .ok (.slice oa (AL.length + 1) c) w2) ∧ w2.cell? ⟨bb, 2, none⟩ = some va ∧ w2.frozen? ⟨bb, 2, none⟩ = false ∧ w2.setCell ⟨bb, 2, none⟩ (.slice oa (AL.length + 1) c) = w3 ∧ PB K0 w0 K3 w3 B bb N vf vw (.slice oa (AL.length + 1) c) FL (AL ++ [x]) i (kk + 1) x := by
  have m1 : Mv (fun _ => False) w w1 K (ext w K (fun _ => 3)) := by rw [← hw1]; exact Mv.alloc _ _ _ _
  have h1 := h.below m1 (fun _ => id)
  have hla := h.la
  obtain ⟨oa, c, w2, K2, q1, q2, m2⟩ := h1.lb.a.put h1.lb.hB (b := S1) (s := x) (by rw [← hw1, ← hS1]; exact (MapKept.heap_alloc w _).1) (by omega)
  have b2 := h1.lb.blk.mv m2 (by omega)
  obtain ⟨w3, hw3⟩ : ∃ w3, w2.setCell ⟨bb, 2, none⟩ (.slice oa (AL.length + 1) c) = w3 := ⟨_, rfl⟩
  have m3 : Mv (fun t => t = 1) w2 w3 K2 K2 := by rw [← hw3]; exact Mv.of_set w2 K2 ⟨bb, 2, none⟩ _ b2.k
  have b3 : TB K2 w3 1 bb (bkB vf vw (.slice oa (AL.length + 1) c) N) := by rw [← hw3]; exact (b2.set43 _).2.2.1
  have m13 : Mv (fun t => t = 1 ∨ t = 8) w1 w3 (ext w K (fun _ => 3)) K2 := (m2.mono (fun t h => by omega)).trans (m3.mono (fun t h => by omega))
  have hx3 := h1.x.mv m13 (by omega)
  refine ⟨oa, c, w2, w3, K2, q1, ?_, ?_, hw3, ⟨b3, h1.lb.f.mv m13 (by omega), q2.mv m3 (by omega), Nat.le_trans h1.lb.hB m13.size, h1.lb.mv.trans (m13.mono (fun t h => by unfold TS3; omega))⟩, by rw [List.length_append, hla]; rfl, fun t s hs => ?_, fun t s hs ht => ?_, fun j s hs hj => ⟨(h1.rest j s hs hj).1, (h1.rest j s hs hj).2.mv m13 (by omega)⟩, hx3⟩
  · unfold World.cell?; rw [b2.at_]; rfl
  · unfold World.frozen?; rw [b2.at_]; rfl
  · rcases Nat.lt_or_ge t AL.length with ht | ht
    · rw [List.getElem?_append_left ht] at hs
      exact ⟨(h1.all t s hs).1, (h1.all t s hs).2.mv m13 (by omega)⟩
    · have ht2 := (List.getElem?_eq_some_iff.1 hs).1
      rw [List.length_append, List.length_singleton] at ht2
      obtain rfl : t = AL.length := by omega
      rw [List.getElem?_append_right (Nat.le_refl _), Nat.sub_self] at hs
      cases hs
      have e : AL.length / 6 = N + i := by omega
      rw [e]
      exact ⟨hx, hx3.me⟩
  · rcases Nat.lt_or_ge t AL.length with ht1 | ht1
    · rw [List.getElem?_append_left ht1] at hs
      exact h1.rel t s hs ht
    · have ht2 := (List.getElem?_eq_some_iff.1 hs).1
      rw [List.length_append, List.length_singleton] at ht2
      obtain rfl : t = AL.length := by omega
      rw [List.getElem?_append_right (Nat.le_refl _), Nat.sub_self] at hs
      cases hs
      exact fun _ _ _ => Nat.le_refl _
theorem PB.grow {i kk M : Nat} {x : Sl} (h : PB K0 w0 K w B bb N vf vw va FL AL i kk x) (hM : N + i = M) (hx : x.n ≤ 1048582) {S1 : Nat} {w1 : World} (hS1 : w.heap.size = S1) (hw1 : w.alloc (.cells #[.string ⟨#[109, 97, 114, 107]⟩, .int .i64 (M : Int)] 32) = w1) :
    ∃ g c w2 K2, (∀ ty, (Builtin.append_ #[109, 109] ty #[slV x, .slice (some ⟨S1, 0, none⟩) 1 1]).run Try.prog w1 = .ok (.slice (some ⟨g, 0, none⟩) (x.n + 1) c) w2) ∧ PB K0 w0 K2 w2 B bb N vf vw va FL AL i kk ⟨some ⟨g, 0, none⟩, x.n + 1, c⟩ := by
  subst hM
  have m1 : Mv (fun _ => False) w w1 K (ext w K (fun _ => 3)) := by rw [← hw1]; exact Mv.alloc _ _ _ _
  have h1 := h.below m1 (fun _ => id)
  obtain ⟨g, c, w2, K2, q1, q2, m2, q3⟩ := h1.x.grow (b := S1) (by rw [← hw1, ← hS1]; exact (MapKept.heap_alloc w _).1) (by omega) h1.lb.hB
  refine ⟨g, c, w2, K2, q1, h1.lb.to m2 (fun t h => by omega), h1.la, fun t s hs => ⟨(h1.all t s hs).1, ?_⟩, fun t s hs ht => ?_, fun j s hs hj => ⟨(h1.rest j s hs hj).1, (h1.rest j s hs hj).2.mv m2 (by omega)⟩, q2⟩
  · by_cases e : t / 6 = N + i
    · rw [e]
      have e2 := (h1.all t s hs).2
      rw [e] at e2
      exact (q3 _ _ e2 (h1.rel t s hs e)).1
    · exact (h1.all t s hs).2.mv m2 (by omega)
  · have e2 := (h1.all t s hs).2
    rw [ht] at e2
    exact (q3 _ _ e2 (h1.rel t s hs ht)).2
/-- the end -/
theorem PQ.over {n M : Nat} (h : PQ K0 w0 K w B bb N vf vw va FL AL n) (hM : N + n = M) :
    BK K (((w.setCell ⟨bb, 3, none⟩ (.int .i64 (M : Int))).setCell ⟨bb, 0, none⟩ (.slice none 0 0)).setCell ⟨bb, 1, none⟩ (.slice none 0 0)) B bb M (.slice none 0 0) (.slice none 0 0) va [] [] AL ∧ Mv TS3 w0 (((w.setCell ⟨bb, 3, none⟩ (.int .i64 (M : Int))).setCell ⟨bb, 0, none⟩ (.slice none 0 0)).setCell ⟨bb, 1, none⟩ (.slice none 0 0)) K0 K := by
  subst hM
  obtain ⟨w1, hw1⟩ : ∃ w1, w.setCell ⟨bb, 3, none⟩ (.int .i64 ((N + n : Nat) : Int)) = w1 := ⟨_, rfl⟩
  have b1 : TB K w1 1 bb (.cells #[vf, vw, va, .int .i64 ((N + n : Nat) : Int)] 43) := by rw [← hw1]; exact (h.lb.blk.set43 _).2.2.2
  have m1 : Mv (fun t => t = 1) w w1 K K := by rw [← hw1]; exact Mv.of_set w K ⟨bb, 3, none⟩ _ h.lb.blk.k
  rw [hw1]
  obtain ⟨w2, hw2⟩ : ∃ w2, w1.setCell ⟨bb, 0, none⟩ (.slice none 0 0) = w2 := ⟨_, rfl⟩
  have b2 : TB K w2 1 bb (.cells #[.slice none 0 0, vw, va, .int .i64 ((N + n : Nat) : Int)] 43) := by rw [← hw2]; exact (b1.set43 _).1
  have m2 : Mv (fun t => t = 1) w1 w2 K K := by rw [← hw2]; exact Mv.of_set w1 K ⟨bb, 0, none⟩ _ b1.k
  rw [hw2]
  have b3 := (b2.set43 (.slice none 0 0)).2.1
  have m3 : Mv (fun t => t = 1) w2 _ K K := Mv.of_set w2 K ⟨bb, 1, none⟩ (.slice none 0 0) b2.k
  have m := (m1.trans m2).trans m3
  exact ⟨⟨b3, RW.nil _ _ _ _ _ _ _, RW.nil _ _ _ _ _ _ _, h.lb.a.mv m (by omega), rfl, h.la, fun j s hs => by simp at hs, fun t s hs => ⟨(h.all t s hs).1, (h.all t s hs).2.mv m (by omega)⟩, Nat.le_trans h.lb.hB m.size⟩, h.lb.mv.trans (m.mono (fun t h => .inl h))⟩
end
end Go.Proofs.Ytkkamilmjaochaa
