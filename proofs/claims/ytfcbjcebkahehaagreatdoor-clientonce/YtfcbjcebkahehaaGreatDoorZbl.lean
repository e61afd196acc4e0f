/- The client: a call more. The client: a call that is new, in memory. -/
import Derived.Test.YtfcbjcebkahehaaGreatDoorZbk
namespace Go.Proofs.YtfcbjcebkahehaaGreatDoor.Cl
open Go.RowKit
theorem three (W : World) (a b d : Obj) : (((W.alloc a).alloc b).alloc d).heap[W.heap.size]? = some a ∧ (((W.alloc a).alloc b).alloc d).heap[W.heap.size + 1]? = some b ∧ (((W.alloc a).alloc b).alloc d).heap[W.heap.size + 1 + 1]? = some d := by
  have s1 : (W.alloc a).heap.size = W.heap.size + 1 := by simp
  have s2 : ((W.alloc a).alloc b).heap.size = W.heap.size + 1 + 1 := by simp
  have h1 := (MapKept.heap_alloc W a).1
  have h2 := (MapKept.heap_alloc (W.alloc a) b).1
  have h3 := (MapKept.heap_alloc ((W.alloc a).alloc b) d).1
  rw [s1] at h2
  rw [s2] at h3
  exact ⟨(Below.heap_alloc _ _ _ (by omega)).trans ((Below.heap_alloc _ _ _ (by omega)).trans h1), (Below.heap_alloc _ _ _ (by omega)).trans h2, h3⟩
theorem info109 : ∃ i : TypeInfo, Tryz.prog.info? 109 = some i ∧ i.zero = some (.pointer none) ∧ i.size = 1 ∧ i.bytes = 8 :=
  ⟨(Tryz.prog.info? 109).getD default, by kernel_rfl, by kernel_rfl, by kernel_rfl, by kernel_rfl⟩
theorem app94 {K : Nat → Nat} {w : World} {B t : Nat} {v : Value} {l : List Nat} (h : RW 109 1 ptrC K w B t v l) (hB : B ≤ w.heap.size) {N x : Nat} (hb : w.heap[N]? = some (.cells #[ptr x] 109 (0, 0))) (hl : l.length ≤ 100000000) :
    ∃ oa c w' K', (∀ r, (Builtin.append_ #[94, 94] r #[v, .slice (some ⟨N, 0, none⟩) 1 1]).run Tryz.prog w = .ok (.slice oa (l.length + 1) c) w') ∧ RW 109 1 ptrC K' w' B t (.slice oa (l.length + 1) c) (l ++ [x]) ∧ Mv (fun x => x = t) w w' K K' := by
  obtain ⟨i, hi, hz, hs, hby⟩ := info109
  obtain ⟨v', w', K', q1, q2, q3⟩ := RW.app (ty := 94) Tryz.underlying94 hi hz hs hby rfl (by omega) ptrL ptrO h hB (N := N) (x := x) (cs := #[ptr x]) rfl hb (by omega) (by omega)
  obtain ⟨oa, c, e, _, _⟩ := q2.form
  rw [List.length_append, List.length_singleton] at e
  subst e
  exact ⟨oa, c, w', K', q1, q2, q3⟩
section
variable {K K' : Nat → Nat} {w w' : World} {B t p : Nat} {c : Cf} {oa : Option Addr} {cap : Nat} {next now : Int} {L : List Wt} {D : List Oc} {vw vd : Value} {q : Mq}
/-- a call more, its list appended to and stored -/
theorem PC.add {v : Value} {x : Wt} (h : PC K w B t p c oa cap next now L D vw vd q) (hx : WtAt K w t c oa cap x) (hn : ∀ y ∈ L, y.b ≠ x.b) (R : RW 109 1 ptrC K' w' B (t + 1) v (L.map Wt.b ++ [x.b])) (m : Mv (fun u => u = t + 1) w w' K K') :
    PC K' (w'.setCell ⟨p, 14, none⟩ v) B t p c oa cap next now (L ++ [x]) D v vd q ∧ Mv (fun u => u = t ∨ u = t + 1) w (w'.setCell ⟨p, 14, none⟩ v) K K' := by
  have cl := h.cl.mv m (by omega)
  have m2 : Mv (fun u => u = t) w' (w'.setCell ⟨p, 14, none⟩ v) K' K' := Mv.of_set w' K' ⟨p, 14, none⟩ v cl.k
  have mm : Mv (fun u => u = t ∨ u = t + 1) w (w'.setCell ⟨p, 14, none⟩ v) K K' := (m.mono (fun u e => .inr e)).trans (m2.mono (fun u e => .inl e))
  have me := h.me
  refine ⟨⟨⟨set_at cl.at_ 14 _, cl.k⟩, ?_, h.dn.mv mm (by omega), fun y hy => ?_, ?_, me.mv mm (by omega), h.gs.mv mm (by omega), h.gl, h.ok, Nat.le_trans h.hB mm.size, h.er mm (fun t' e => by omega), h.h0' mm, h.b1⟩, mm⟩
  · rw [List.map_append]
    exact R.mv m2 (by omega)
  · rcases List.mem_append.1 hy with e | e
    · exact (h.cs y e).mv mm (by omega) (by omega)
    · simp at e
      subst e
      exact hx.mv mm (by omega) (by omega)
  · rw [List.map_append, List.map_singleton]
    refine List.nodup_append.2 ⟨h.nd, by simp, fun a ha b hb => ?_⟩
    simp at hb
    subst hb
    obtain ⟨y, hy, rfl⟩ := List.mem_map.1 ha
    exact hn y hy
/-- one call written over -/
theorem PC.upd {A R : List Wt} {x x' : Wt} (h : PC K w B t p c oa cap next now (A ++ x :: R) D vw vd q) (hs : x'.b = x.b ∧ x'.bx = x.bx ∧ x'.bc = x.bc ∧ x'.bt = x.bt ∧ x'.bxB = x.bxB ∧ x'.dst = x.dst) (hb : w'.heap[x.b]? = some x'.blk) (hg : w.grownBy w' (some x.b)) :
    PC (ext w K (fun _ => t + 7)) w' B t p c oa cap next now (A ++ x' :: R) D vw vd q ∧ Mv (fun u => u = t + 3) w w' K (ext w K (fun _ => t + 7)) := by
  have hx := h.cs x (by simp)
  have m : Mv (fun u => u = t + 3) w w' K (ext w K (fun _ => t + 7)) := Mv.of_grown hg K _ hx.me.k
  have me := h.me
  have hmap : (A ++ x' :: R).map Wt.b = (A ++ x :: R).map Wt.b := by simp [hs.1]
  have hnd := h.nd
  refine ⟨⟨h.cl.mv m (by omega), by rw [hmap]; exact h.wr.mv m (by omega), h.dn.mv m (by omega), fun y hy => ?_, by rw [hmap]; exact h.nd, me.mv m (by omega), h.gs.mv m (by omega), h.gl, h.ok, Nat.le_trans h.hB m.size, h.er m (fun t' e => by omega), h.h0' m, h.b1⟩, m⟩
  have old : ∀ y ∈ A ++ x :: R, y.b ≠ x.b → WtAt (ext w K (fun _ => t + 7)) w' t c oa cap y := fun y hy hne => by
    have hy' := h.cs y hy
    exact ⟨⟨(hg.block y.b hy'.me.lt (by simpa using hne)).trans hy'.me.at_, (m.old _ hy'.me.lt).trans hy'.me.k⟩, hy'.bx.mv m (by omega), hy'.bc.mv m (by omega), hy'.bt.mv m (by omega)⟩
  rw [List.map_append, List.map_cons] at hnd
  have hnd2 := List.nodup_append.1 hnd
  rcases List.mem_append.1 hy with e | e
  · refine old y (List.mem_append.2 (.inl e)) (fun e2 => ?_)
    exact hnd2.2.2 y.b (List.mem_map.2 ⟨y, e, rfl⟩) x.b (by simp) e2
  · rcases List.mem_cons.1 e with e | e
    · subst e
      obtain ⟨h1, h2, h3, h4, h5, h6⟩ := hs
      refine ⟨⟨by rw [h1]; exact hb, by rw [h1]; exact (m.old _ hx.me.lt).trans hx.me.k⟩, ?_, ?_, ?_⟩
      · rw [h2, h5]; exact hx.bx.mv m (by omega)
      · rw [h3]; exact hx.bc.mv m (by omega)
      · rw [h4, h6]; exact hx.bt.mv m (by omega)
    · refine old y (List.mem_append.2 (.inr (List.mem_cons_of_mem _ e))) (fun e2 => ?_)
      have := (List.nodup_cons.1 hnd2.2.1).1
      exact this (e2 ▸ List.mem_map.2 ⟨y, e, rfl⟩)
end
end Go.Proofs.YtfcbjcebkahehaaGreatDoor.Cl
namespace Go.Proofs.YtfcbjcebkahehaaGreatDoor.Cl
open Go.RowKit
section
variable {K : Nat → Nat} {w : World} {B t p : Nat} {c : Cf} {oa : Option Addr} {cap : Nat} {next now : Int} {L : List Wt} {D : List Oc} {vw vd : Value} {q : Mq}
theorem PC.called (h : PC K w B t p c oa cap next now L D vw vd q) (x : Wt) {w7 w8 w9 : World} {A : Nat} (b7 : Below w.heap.size w w7) (hc : x.bc = w.heap.size ∧ x.bt = w.heap.size + 1 ∧ x.bx = w.heap.size + 1 + 1) (k0 : w7.heap[x.bc]? = some (cfB c oa cap)) (k1 : w7.heap[x.bt]? = some (.cells #[.int .i64 x.dst] 3)) (k2 : w7.heap[x.bx]? = some x.bxB)
    (hP : w7.heap.size = x.b) (hw8 : w7.alloc x.blk = w8) {N9 : Nat} (hN : w8.heap.size = N9) (hw9 : w8.alloc (.cells #[ptr x.b] 109) = w9) (hl : L.length ≤ 100000000) (hA : A < w.heap.size ∧ K A = t + 7) :
    ∃ o c10 w10 K10, (∀ r, (Builtin.append_ #[94, 94] r #[vw, .slice (some ⟨N9, 0, none⟩) 1 1]).run Tryz.prog w9 = .ok (.slice o (L.length + 1) c10) w10) ∧ w10.heap[p]? = some (clB c oa cap next now vw vd q) ∧ w10.heap[A]? = w.heap[A]? ∧ A ≠ p ∧
      PC K10 (w10.setCell ⟨p, 14, none⟩ (.slice o (L.length + 1) c10)) B t p c oa cap next now (L ++ [x]) D (.slice o (L.length + 1) c10) vd q ∧ Mv (fun u => u = t ∨ u = t + 1) w (w10.setCell ⟨p, 14, none⟩ (.slice o (L.length + 1) c10)) K K10 := by
  have hbx : x.bx < w7.heap.size := (Array.getElem?_eq_some_iff.1 k2).1
  have b8 : Below w7.heap.size w7 w8 := by rw [← hw8]; exact (Below.refl _ _).alloc (Nat.le_refl _) _
  have b9 : Below w7.heap.size w7 w9 := by rw [← hw9]; exact b8.alloc b8.size _
  have bw9 : Below w.heap.size w w9 := b7.trans (b9.mono b7.size)
  obtain ⟨NF, hNF⟩ : ∃ NF : Nat → Nat, NF = fun b => if b = x.b then t + 3 else if b < x.b then t + 4 else t + 7 := ⟨_, rfl⟩
  have h9 := h.below bw9 NF
  have m9 := Mv.of_below bw9 K NF
  have kx : w9.heap[x.b]? = some x.blk := by
    have e1 : w8.heap[x.b]? = some x.blk := by rw [← hw8, ← hP]; exact (MapKept.heap_alloc w7 _).1
    rw [← hw9]
    exact (Below.heap_alloc _ _ _ (Array.getElem?_eq_some_iff.1 e1).1).trans e1
  have hx : WtAt (ext w K NF) w9 t c oa cap x := by
    have hz := b7.size
    refine ⟨⟨kx, ?_⟩, ⟨(b9.block _ hbx).trans k2, ?_⟩, ⟨(b9.block _ (by omega)).trans k0, ?_⟩, ⟨(b9.block _ (by omega)).trans k1, ?_⟩⟩
    · rw [ext_new (by omega), hNF]; simp
    · rw [ext_new (by omega), hNF]; simp only; rw [if_neg (by omega), if_pos (by omega)]
    · rw [ext_new (by omega), hNF]; simp only; rw [if_neg (by omega), if_pos (by omega)]
    · rw [ext_new (by omega), hNF]; simp only; rw [if_neg (by omega), if_pos (by omega)]
  obtain ⟨o, c10, w10, K10, r10, R10, m10⟩ := app94 h9.wr h9.hB (N := N9) (x := x.b) (by rw [← hw9, ← hN]; exact (MapKept.heap_alloc w8 _).1) (by rw [List.length_map]; exact hl)
  rw [List.length_map] at r10 R10
  have hz := b7.size
  obtain ⟨P10, mm⟩ := h9.add hx (fun y hy e => by have := (h.cs y hy).me.lt; omega) R10 m10
  refine ⟨o, c10, w10, K10, r10, (h9.cl.mv m10 (by omega)).at_, ?_, fun e => ?_, P10, (m9.mono (fun _ e => e.elim)).trans mm⟩
  · exact (m10.kept A (Nat.lt_of_lt_of_le hA.1 bw9.size) (by rw [ext_old hA.1, hA.2]; omega)).trans (bw9.block A hA.1)
  · have h1 := hA.2
    have h2 := h.cl.k
    rw [e] at h1
    omega
end
end Go.Proofs.YtfcbjcebkahehaaGreatDoor.Cl
