/- The document's cache in memory. -/
import Derived.Test.YtnpffhgmakbdnaaPlOe
namespace Go.Proofs.Ytnpffhgmakbdnaa
open Go.RowKit
structure Kn where
  a : Int
  i : Int
  water : Int
def knC (x : Kn) : List Value := [.int .i64 x.a, .int .i64 x.i, .int .i64 x.water]
theorem fm_len {α : Type} {cf : α → List Value} {sz : Nat} (hcf : ∀ x, (cf x).length = sz) (l : List α) : (l.flatMap cf).length = l.length * sz := by
  induction l with
  | nil => simp
  | cons x l ih => simp only [List.flatMap_cons, List.length_append, ih, hcf, List.length_cons, Nat.succ_mul]; omega
theorem fm_get {α : Type} {cf : α → List Value} {sz : Nat} (hcf : ∀ x, (cf x).length = sz) : ∀ (l : List α) (j k : Nat) (x : α), k < sz → l[j]? = some x → (l.flatMap cf)[j * sz + k]? = (cf x)[k]?
  | [], j, k, x, _, hj => by simp at hj
  | y :: l, 0, k, x, hk, hj => by
    simp at hj
    subst hj
    rw [List.flatMap_cons, Nat.zero_mul, Nat.zero_add, List.getElem?_append_left (by rw [hcf]; exact hk)]
  | y :: l, j + 1, k, x, hk, hj => by
    have e : (j + 1) * sz + k - (cf y).length = j * sz + k := by rw [hcf, Nat.succ_mul]; omega
    rw [List.flatMap_cons, List.getElem?_append_right (by rw [hcf, Nat.succ_mul]; omega), e]
    exact fm_get hcf l j k x hk (by simpa using hj)
theorem fm_set {α : Type} {cf : α → List Value} {sz : Nat} (hcf : ∀ x, (cf x).length = sz) (A B : List α) (x x' : α) (k : Nat) (u : Value) (hk : k < sz) (hx : (cf x).set k u = cf x') : ((A ++ x :: B).flatMap cf).set (A.length * sz + k) u = (A ++ x' :: B).flatMap cf := by
  rw [List.flatMap_append, List.flatMap_append, List.set_append_right _ _ (by rw [fm_len hcf]; omega), fm_len hcf, show A.length * sz + k - A.length * sz = k by omega, List.flatMap_cons, List.flatMap_cons, List.set_append_left _ _ (by rw [hcf]; exact hk), hx]
/-- a row of one's own -/
structure RW {α : Type} (e sz : Nat) (cf : α → List Value) (K : Nat → Nat) (w : World) (B t : Nat) (v : Value) (l : List α) : Prop where
  own : w.ownsRow B e sz v l.length (l.flatMap cf)
  k : ∀ g, v.ownBlock = some g → K g = t
section
variable {α : Type} {e sz : Nat} {cf : α → List Value} {K K' : Nat → Nat} {w w' : World} {B t : Nat} {v : Value} {l : List α}
theorem RW.mv {T : Nat → Prop} (h : RW e sz cf K w B t v l) (m : Mv T w w' K K') (ht : ¬ T t) : RW e sz cf K' w' B t v l :=
  ⟨own_block h.own (fun g hg => m.kept g (h.own.lt g hg).2 (by rw [h.k g hg]; exact ht)), fun g hg => (m.old g (h.own.lt g hg).2).trans (h.k g hg)⟩
theorem RW.nil (e sz : Nat) (cf : α → List Value) (K : Nat → Nat) (w : World) (B t : Nat) : RW e sz cf K w B t (.slice none 0 0) [] := ⟨⟨by simp, .inl ⟨rfl, rfl⟩⟩, fun g hg => by cases hg⟩
theorem RW.form (h : RW e sz cf K w B t v l) : ∃ oa cap, v = .slice oa l.length cap ∧ l.length ≤ cap ∧ (0 < l.length → ∃ g, oa = some ⟨g, 0, none⟩) := by
  rcases h.own.2 with ⟨e1, e2⟩ | ⟨g, cap, _, e1, _, _, e4, _⟩
  · exact ⟨none, 0, by rw [e2]; exact e1, by omega, fun h => by omega⟩
  · exact ⟨_, cap, e1, e4, fun _ => ⟨g, rfl⟩⟩
theorem RW.cell (hcf : ∀ x, (cf x).length = sz) {g cap n : Nat} (h : RW e sz cf K w B t (.slice (some ⟨g, 0, none⟩) n cap) l) (hn : l.length = n) {j : Nat} {x : α} (hx : l[j]? = some x) (k : Nat) (hk : k < sz) : w.cell? ⟨g, j * sz + k, none⟩ = (cf x)[k]? := by
  have hj : j < l.length := (List.getElem?_eq_some_iff.1 hx).1
  have ho := h.own
  subst hn
  rw [ho.cellAt (j * sz + k) (by have := Nat.mul_le_mul_right sz (show j + 1 ≤ l.length by omega); rw [Nat.succ_mul] at this; omega), fm_get hcf l j k x hk hx]
theorem RW.app {ty : TypeId} {i : TypeInfo} {z : Value} {bytes : Nat} (hty : Try.prog.underlying ty = some (.slice e)) (hi : Try.prog.info? e = some i) (hz : i.zero = some z) (hs : i.size = sz) (hby : i.bytes = bytes) (hzs : z.cells.size = sz) (hsz : 0 < sz) (hcf : ∀ x, (cf x).length = sz) (h1 : ∀ x, ∀ u ∈ cf x, u.oneCell' = true)
    (h : RW e sz cf K w B t v l) (hB : B ≤ w.heap.size) {N : Nat} {x : α} {cs : Array Value} (hcs : cs.toList = cf x) (hb : w.heap[N]? = some (.cells cs e (0, 0))) (hm : (l.length + 1) * bytes ≤ 140737488355328) (hm2 : l.length + 1 ≤ 1000000000000) :
    ∃ v' w' K', (∀ r, (Builtin.append_ #[ty, ty] r #[v, .slice (some ⟨N, 0, none⟩) 1 1]).run Try.prog w = .ok v' w') ∧ RW e sz cf K' w' B t v' (l ++ [x]) ∧ Mv (fun x => x = t) w w' K K' := by
  obtain ⟨v', w', hr, ho, hg, _, hat⟩ := run_append_own_at (P := Try.prog) w B ty 0 e i z sz bytes hty hi hz hs hby hzs hsz v l.length (l.flatMap cf) h.own ⟨N, 0, none⟩ 1 1 (cf x) (by rw [hcf, Nat.one_mul]) (by rw [← hcs]; exact World.news_of_block hb) (h1 x) (by unfold maxLen; omega) hm hB
  refine ⟨v', w', ext w K (fun _ => t), fun r => hr, ⟨?_, fun g hg2 => ?_⟩, ⟨hg.os, hg.tape, hg.output, hg.size, fun _ hb => ext_old hb, fun b hb ht => hg.block b hb (fun e2 => ht (h.k b e2.symm))⟩⟩
  · rw [List.flatMap_append]
    simpa using ho
  · rcases hat with e2 | e2
    · rw [e2] at hg2
      have := (h.own.lt g hg2).2
      rw [ext_old this]; exact h.k g hg2
    · rw [e2] at hg2
      cases hg2
      exact ext_new (Nat.le_refl _)
theorem RW.set1 (hcf : ∀ x, (cf x).length = sz) {g cap n : Nat} {L1 L2 : List α} {x x' : α} (h : RW e sz cf K w B t (.slice (some ⟨g, 0, none⟩) n cap) (L1 ++ x :: L2)) (hn : (L1 ++ x :: L2).length = n) (k : Nat) (u : Value) (hk : k < sz) (hx : (cf x).set k u = cf x') :
    RW e sz cf K (w.setCell ⟨g, L1.length * sz + k, none⟩ u) B t (.slice (some ⟨g, 0, none⟩) n cap) (L1 ++ x' :: L2) ∧ Mv (fun y => y = t) w (w.setCell ⟨g, L1.length * sz + k, none⟩ u) K K := by
  have ho := h.own
  subst hn
  have s1 := ho.stored (L1.length * sz + k) u
  refine ⟨⟨?_, h.k⟩, Mv.of_set w K _ _ (h.k g rfl)⟩
  have := s1.1
  rw [fm_set hcf L1 L2 x x' k u hk hx] at this
  simpa using this
end
theorem knL (x : Kn) : (knC x).length = 3 := rfl
theorem snL (x : Sn) : (snC x).length = 5 := rfl
theorem info88 : ∃ i : TypeInfo, Try.prog.info? 88 = some i ∧ i.zero = some (.agg #[.int .i64 0, .int .i64 0, .int .i64 0]) ∧ i.size = 3 ∧ i.bytes = 24 :=
  ⟨(Try.prog.info? 88).getD default, by kernel_rfl, by kernel_rfl, by kernel_rfl, by kernel_rfl⟩
theorem info92 : ∃ i : TypeInfo, Try.prog.info? 92 = some i ∧ i.zero = some (.agg #[.int .i64 0, .int .i64 0, .int .i64 0, .bool false, .string ⟨#[]⟩]) ∧ i.size = 5 ∧ i.bytes = 48 :=
  ⟨(Try.prog.info? 92).getD default, by kernel_rfl, by kernel_rfl, by kernel_rfl, by kernel_rfl⟩
/-- the document's cache: its block has the tag t, its two rows t + 1, t + 2 -/
structure DC (K : Nat → Nat) (w : World) (B t x : Nat) (g : Cf) (v1 v2 : Value) (L : List Kn) (I : List Sn) : Prop where
  me : TB K w t x (.cells #[.int .i64 g.cl, .int .i64 g.en, .int .i64 g.by_, .int .i64 g.rs, v1, v2] 71 (0, 0))
  l : RW 88 3 knC K w B (t + 1) v1 L
  i : RW 92 5 snC K w B (t + 2) v2 I
section
variable {K K' : Nat → Nat} {w w' : World} {B t x : Nat} {g : Cf} {v1 v2 : Value} {L : List Kn} {I : List Sn}
theorem DC.mv {T : Nat → Prop} (h : DC K w B t x g v1 v2 L I) (m : Mv T w w' K K') (t0 : ¬ T t) (t1 : ¬ T (t + 1)) (t2 : ¬ T (t + 2)) : DC K' w' B t x g v1 v2 L I := ⟨h.me.mv m t0, h.l.mv m t1, h.i.mv m t2⟩
theorem DC.c0 (h : DC K w B t x g v1 v2 L I) : w.cell? ⟨x, 0, none⟩ = some (.int .i64 g.cl) := by unfold World.cell?; rw [h.me.at_]; rfl
theorem DC.c1 (h : DC K w B t x g v1 v2 L I) : w.cell? ⟨x, 1, none⟩ = some (.int .i64 g.en) := by unfold World.cell?; rw [h.me.at_]; rfl
theorem DC.c2 (h : DC K w B t x g v1 v2 L I) : w.cell? ⟨x, 2, none⟩ = some (.int .i64 g.by_) := by unfold World.cell?; rw [h.me.at_]; rfl
theorem DC.c3 (h : DC K w B t x g v1 v2 L I) : w.cell? ⟨x, 3, none⟩ = some (.int .i64 g.rs) := by unfold World.cell?; rw [h.me.at_]; rfl
theorem DC.c4 (h : DC K w B t x g v1 v2 L I) : w.cell? ⟨x, 4, none⟩ = some v1 := by unfold World.cell?; rw [h.me.at_]; rfl
theorem DC.c5 (h : DC K w B t x g v1 v2 L I) : w.cell? ⟨x, 5, none⟩ = some v2 := by unfold World.cell?; rw [h.me.at_]; rfl
theorem DC.f (h : DC K w B t x g v1 v2 L I) (n : Nat) : w.frozen? ⟨x, n, none⟩ = false := by unfold World.frozen?; rw [h.me.at_]; rfl
end
/-- the first that is meant, or -1 -/
def FK {α : Type} (q : α → Prop) (l : List α) (v : Int) : Prop := (v = -1 ∧ ∀ x ∈ l, ¬ q x) ∨ ∃ L1 L2 x, l = L1 ++ x :: L2 ∧ v = (L1.length : Nat) ∧ q x ∧ ∀ y ∈ L1, ¬ q y
def NoK {α : Type} (q : α → Prop) (l : List α) (j : Nat) : Prop := ∀ k x, k < j → l[k]? = some x → ¬ q x
theorem NoK.step {α : Type} {q : α → Prop} {l : List α} {j : Nat} (h : NoK q l j) {x : α} (hx : l[j]? = some x) (hn : ¬ q x) : NoK q l (j + 1) := fun k y hk hy => by
  by_cases e : k = j
  · subst e; rw [hx] at hy; cases hy; exact hn
  · exact h k y (by omega) hy
theorem NoK.all {α : Type} {q : α → Prop} {l : List α} (h : NoK q l l.length) : FK q l (-1) := by
  refine .inl ⟨rfl, fun x hx => ?_⟩
  obtain ⟨k, hk, e⟩ := List.getElem_of_mem hx
  exact h k x hk (by rw [List.getElem?_eq_getElem hk, e])
theorem NoK.hit {α : Type} {q : α → Prop} {l : List α} {j : Nat} (h : NoK q l j) {x : α} (hx : l[j]? = some x) (hq : q x) : FK q l (j : Nat) := by
  obtain ⟨hk, e⟩ := List.getElem?_eq_some_iff.1 hx
  refine .inr ⟨l.take j, l.drop (j + 1), x, ?_, by simp; omega, hq, fun y hy => ?_⟩
  · rw [← e, ← List.drop_eq_getElem_cons hk, List.take_append_drop]
  · obtain ⟨k, hk2, e2⟩ := List.getElem_of_mem hy
    simp at hk2 e2
    exact h k y (by omega) (by rw [List.getElem?_eq_getElem (by omega), e2])
end Go.Proofs.Ytnpffhgmakbdnaa
