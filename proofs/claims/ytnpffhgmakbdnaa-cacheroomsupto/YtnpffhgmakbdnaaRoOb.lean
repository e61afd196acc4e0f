/- CacheOnce: the book's row in memory; what holds at each step. -/
import Derived.Test.YtnpffhgmakbdnaaRoOa
namespace Go.Proofs.Ytnpffhgmakbdnaa
open Go.RowKit
/-- a region that draws its order, whose operations yield the same in every world of a class -/
theorem wp_region_class {P : Program} {Z : Type} (f : Z → World) {id : Nat} {Q : Exit → Act → World → Prop} {a : Act} {w : World} {l : List Oper} (hm : P.follows .mixedOrders = true) (hB : Region.lexB .any l.toArray = true) (hC : ∃ z, w.drew = f z)
    (h : wpQuiet P l.toArray (fun w' => ∃ z, w' = f z) (fun a' => ∀ w', (∃ z, w' = f z) → Q .normal a' w') l a) : (Code.region id l.toArray true).wp P Q a w :=
  wp_region_quiet (C := fun w' => ∃ z, w' = f z) hm hB hC (by simpa using h)
def snC (x : Sn) : List Value := [.int .i64 x.a, .int .i64 x.i, .int .i64 x.seq, .bool x.dn, .string x.rep]
def flat (l : List Sn) : List Value := l.flatMap snC
theorem flat_len (l : List Sn) : (flat l).length = l.length * 5 := by
  induction l with
  | nil => rfl
  | cons x l ih => simp [flat, snC] at ih ⊢; omega
theorem flat_get : ∀ (l : List Sn) (j k : Nat) (_ : k < 5) (hj : j < l.length), (flat l)[j * 5 + k]? = (snC (l[j]'hj))[k]?
  | [], j, k, hk, hj => by simp at hj
  | x :: l, 0, k, hk, hj => by
    show (snC x ++ flat l)[0 * 5 + k]? = _
    rw [Nat.zero_mul, Nat.zero_add, List.getElem?_append_left (by simp [snC]; omega)]
    rfl
  | x :: l, j + 1, k, hk, hj => by
    show (snC x ++ flat l)[(j + 1) * 5 + k]? = _
    rw [List.getElem?_append_right (by simp [snC]; omega), show (j + 1) * 5 + k - (snC x).length = j * 5 + k by simp [snC]; omega, flat_get l j k hk (by simpa using hj)]
    rfl
theorem flat_app (l l2 : List Sn) : flat (l ++ l2) = flat l ++ flat l2 := by simp [flat]
theorem flat_set (L1 L2 : List Sn) (x : Sn) (rep : ByteArray) : ((flat (L1 ++ x :: L2)).set (L1.length * 5 + 3) (.bool true)).set (L1.length * 5 + 4) (.string rep) = flat (L1 ++ { x with dn := true, rep := rep } :: L2) := by
  rw [flat_app, flat_app, List.set_append_right _ _ (by rw [flat_len]; omega), flat_len, List.set_append_right _ _ (by rw [flat_len]; omega), flat_len, show L1.length * 5 + 3 - L1.length * 5 = 3 by omega, show L1.length * 5 + 4 - L1.length * 5 = 4 by omega]
  rfl
theorem info48 : ∃ i : TypeInfo, Try.prog.info? 48 = some i ∧ i.zero = some (.agg #[.int .i64 0, .int .i64 0, .int .i64 0, .bool false, .string ⟨#[]⟩]) ∧ i.size = 5 ∧ i.bytes = 48 :=
  ⟨(Try.prog.info? 48).getD default, by kernel_rfl, by kernel_rfl, by kernel_rfl, by kernel_rfl⟩
/-- the book's row, its block with a tag -/
structure RT (K : Nat → Nat) (w : World) (B t : Nat) (v : Value) (l : List Sn) : Prop where
  own : w.ownsRow B 48 5 v l.length (flat l)
  k : ∀ g, v.ownBlock = some g → K g = t
section
variable {K K' : Nat → Nat} {w w' : World} {B t : Nat} {v : Value} {l : List Sn}
theorem RT.mv {T : Nat → Prop} (h : RT K w B t v l) (m : Mv T w w' K K') (ht : ¬ T t) : RT K' w' B t v l :=
  ⟨own_block h.own (fun g hg => m.kept g (h.own.lt g hg).2 (by rw [h.k g hg]; exact ht)), fun g hg => (m.old g (h.own.lt g hg).2).trans (h.k g hg)⟩
theorem RT.nil (K : Nat → Nat) (w : World) (B t : Nat) : RT K w B t (.slice none 0 0) [] := ⟨⟨rfl, .inl ⟨rfl, rfl⟩⟩, fun g hg => by cases hg⟩
theorem RT.form (h : RT K w B t v l) : ∃ oa cap, v = .slice oa l.length cap ∧ l.length ≤ cap ∧ (0 < l.length → ∃ g, oa = some ⟨g, 0, none⟩) := by
  rcases h.own.2 with ⟨e1, e2⟩ | ⟨g, cap, _, e1, _, _, e4, _⟩
  · exact ⟨none, 0, by rw [e2]; exact e1, by omega, fun h => by omega⟩
  · exact ⟨_, cap, e1, e4, fun _ => ⟨g, rfl⟩⟩
theorem RT.cell {g cap n : Nat} (h : RT K w B t (.slice (some ⟨g, 0, none⟩) n cap) l) (hn : l.length = n) {j : Nat} {x : Sn} (hx : l[j]? = some x) (k : Nat) (hk : k < 5) : w.cell? ⟨g, j * 5 + k, none⟩ = (snC x)[k]? := by
  have hj : j < l.length := (List.getElem?_eq_some_iff.1 hx).1
  have ho := h.own
  subst hn
  rw [ho.cellAt (j * 5 + k) (by omega), flat_get l j k hk hj, (List.getElem?_eq_some_iff.1 hx).2]
theorem RT.app (h : RT K w B t v l) (hB : B ≤ w.heap.size) {N : Nat} {a i seq : Int} (hb : w.heap[N]? = some (.cells #[.int .i64 a, .int .i64 i, .int .i64 seq, .bool false, .string ⟨#[]⟩] 48 (0, 0))) (hm : (l.length + 1) * 48 ≤ 140737488355328) :
    ∃ v' w' K', (∀ r, (Builtin.append_ #[44, 44] r #[v, .slice (some ⟨N, 0, none⟩) 1 1]).run Try.prog w = .ok v' w') ∧ RT K' w' B t v' (l ++ [⟨a, i, seq, false, ⟨#[]⟩⟩]) ∧ Mv (fun x => x = t) w w' K K' := by
  obtain ⟨i', hi, hz, hs, hby⟩ := info48
  obtain ⟨v', w', hr, ho, hg, _, hat⟩ := run_append_own_at (P := Try.prog) w B 44 0 48 i' _ 5 48 Try.underlying44 hi hz hs hby rfl (by omega) v l.length (flat l) h.own ⟨N, 0, none⟩ 1 1 (snC ⟨a, i, seq, false, ⟨#[]⟩⟩) rfl (World.news_of_block hb) (fun u hu => by simp [snC] at hu; rcases hu with rfl | rfl | rfl | rfl | rfl <;> rfl) (by unfold maxLen; omega) hm hB
  refine ⟨v', w', ext w K (fun _ => t), fun r => hr, ⟨?_, fun g hg2 => ?_⟩, ⟨hg.os, hg.tape, hg.output, hg.size, fun _ hb => ext_old hb, fun b hb ht => hg.block b hb (fun e2 => ht (h.k b e2.symm))⟩⟩
  · rw [flat_app]
    simpa [flat] using ho
  · rcases hat with e2 | e2
    · rw [e2] at hg2
      have := (h.own.lt g hg2).2
      rw [ext_old this]; exact h.k g hg2
    · rw [e2] at hg2
      cases hg2
      exact ext_new (Nat.le_refl _)
theorem RT.set {g cap n : Nat} {L1 L2 : List Sn} {x : Sn} (h : RT K w B t (.slice (some ⟨g, 0, none⟩) n cap) (L1 ++ x :: L2)) (hn : (L1 ++ x :: L2).length = n) (rep : ByteArray) :
    RT K ((w.setCell ⟨g, L1.length * 5 + 3, none⟩ (.bool true)).setCell ⟨g, L1.length * 5 + 4, none⟩ (.string rep)) B t (.slice (some ⟨g, 0, none⟩) n cap) (L1 ++ { x with dn := true, rep := rep } :: L2) ∧ Mv (fun y => y = t) w ((w.setCell ⟨g, L1.length * 5 + 3, none⟩ (.bool true)).setCell ⟨g, L1.length * 5 + 4, none⟩ (.string rep)) K K := by
  have ho := h.own
  subst hn
  have s1 := ho.stored (L1.length * 5 + 3) (.bool true)
  have s2 := s1.1.stored (L1.length * 5 + 4) (.string rep)
  refine ⟨⟨?_, h.k⟩, (Mv.of_set w K _ _ (h.k g rfl)).trans (Mv.of_set _ K _ _ (h.k g rfl))⟩
  have := s2.1
  rw [flat_set] at this
  simpa using this
end
/-- a script that lies in memory -/
structure OpsAt (w : World) (b off len : Nat) (O : Nat → OpR) : Prop where
  c : ∀ i, i < len → ∀ k, k < 9 → w.cell? ⟨b, off + i * 9 + k, none⟩ = (opC (O i))[k]?
  ok : ∀ i, i < len → OpOk (O i)
theorem OpsAt.lt {w : World} {b off len : Nat} {O : Nat → OpR} (h : OpsAt w b off len O) (hl : 0 < len) : b < w.heap.size := by
  have h1 := h.c 0 hl 0 (by omega)
  have h2 : w.cell? ⟨b, off + 0 * 9 + 0, none⟩ = some (.bool (O 0).other) := h1
  exact World.block_lt_of_cell? w ⟨b, off + 0 * 9 + 0, none⟩ h2
theorem OpsAt.below {w w' : World} {b off len : Nat} {O : Nat → OpR} (h : OpsAt w b off len O) (hB : Below w.heap.size w w') : OpsAt w' b off len O := by
  refine ⟨fun i hi k hk => ?_, h.ok⟩
  exact (World.cell?_of_block (a := ⟨b, off + i * 9 + k, none⟩) (hB.block b (h.lt (by omega)))).trans (h.c i hi k hk)
structure SO (W : World) (g : Cf) (p mm Ag : Nat) (K : Nat → Nat) (w : World) (v9 : Value) (n : Int) (C : List Cl) (l : List Sn) : Prop where
  bs : BS W w K
  tc : TC K w 1 p g mm C
  gb : TB K w 2 Ag (.cells #[.int .i64 g.cl, .int .i64 g.en, .int .i64 g.by_, .int .i64 g.rs] 23 (0, 0))
  rt : RT K w W.heap.size 3 v9 l
  bk : BK C l
  nc : n ≤ C.length
section
variable {W w w' : World} {g : Cf} {p mm Ag : Nat} {K K' : Nat → Nat} {v9 : Value} {n : Int} {C C' : List Cl} {l : List Sn}
theorem SO.mv {T : Nat → Prop} (h : SO W g p mm Ag K w v9 n C l) (m : Mv T w w' K K') (t0 : ¬ T 0) (t1 : ¬ T 1) (t2 : ¬ T 2) (t3 : ¬ T 3) : SO W g p mm Ag K' w' v9 n C l :=
  ⟨h.bs.mv m t0, h.tc.mv m t1, h.gb.mv m t2, h.rt.mv m t3, h.bk, h.nc⟩
theorem SO.below (h : SO W g p mm Ag K w v9 n C l) (hB : Below w.heap.size w w') (N : Nat → Nat) : SO W g p mm Ag (ext w K N) w' v9 n C l := h.mv (Mv.of_below hB K N) id id id id
theorem SO.g0 (h : SO W g p mm Ag K w v9 n C l) : w.cell? ⟨Ag, 0, none⟩ = some (.int .i64 g.cl) := by unfold World.cell?; rw [h.gb.at_]; rfl
theorem SO.g1 (h : SO W g p mm Ag K w v9 n C l) : w.cell? ⟨Ag, 1, none⟩ = some (.int .i64 g.en) := by unfold World.cell?; rw [h.gb.at_]; rfl
theorem SO.g2 (h : SO W g p mm Ag K w v9 n C l) : w.cell? ⟨Ag, 2, none⟩ = some (.int .i64 g.by_) := by unfold World.cell?; rw [h.gb.at_]; rfl
theorem SO.g3 (h : SO W g p mm Ag K w v9 n C l) : w.cell? ⟨Ag, 3, none⟩ = some (.int .i64 g.rs) := by unfold World.cell?; rw [h.gb.at_]; rfl
/-- behind a call of the cache -/
theorem SO.cache (h : SO W g p mm Ag K w v9 n C l) (s : PC w' p g mm C') (c : Chg (foot p mm C) (foot p mm C') w w') :
    ∃ K', Mv (fun x => x = 1) w w' K K' ∧ BS W w' K' ∧ TC K' w' 1 p g mm C' ∧ TB K' w' 2 Ag (.cells #[.int .i64 g.cl, .int .i64 g.en, .int .i64 g.by_, .int .i64 g.rs] 23 (0, 0)) ∧ RT K' w' W.heap.size 3 v9 l := by
  obtain ⟨K', t, m⟩ := h.tc.chg s c
  exact ⟨K', m, h.bs.mv m (by omega), t, h.gb.mv m (by omega), h.rt.mv m (by omega)⟩
end
/-- which one the search told, of the first j -/
def FA (l : List Sn) (a i seq : Int) (j : Nat) (v : Int) : Prop := (v = -1 ∧ ∀ k x, k < j → l[k]? = some x → ¬ x.is a i seq) ∨ ∃ k x, v = (k : Nat) ∧ k < j ∧ l[k]? = some x ∧ x.is a i seq
theorem FA.no {l : List Sn} {a i seq : Int} {v : Int} {j : Nat} (h : FA l a i seq j v) {x : Sn} (hx : l[j]? = some x) (hn : ¬ x.is a i seq) : FA l a i seq (j + 1) v := by
  rcases h with ⟨h1, h2⟩ | ⟨k, y, h1, h2, h3⟩
  · refine .inl ⟨h1, fun k y hk hy => ?_⟩
    by_cases e : k = j
    · subst e; rw [hx] at hy; cases hy; exact hn
    · exact h2 k y (by omega) hy
  · exact .inr ⟨k, y, h1, by omega, h3⟩
theorem FA.all {l : List Sn} {a i seq : Int} {v : Int} (h : FA l a i seq l.length v) : (v = -1 ∧ ∀ x ∈ l, ¬ x.is a i seq) ∨ ∃ L1 L2 x, l = L1 ++ x :: L2 ∧ v = (L1.length : Nat) ∧ x.is a i seq := by
  rcases h with ⟨h1, h2⟩ | ⟨k, x, h1, h2, h3, h4⟩
  · refine .inl ⟨h1, fun x hx => ?_⟩
    obtain ⟨k, hk, e⟩ := List.getElem_of_mem hx
    exact h2 k x hk (by rw [List.getElem?_eq_getElem hk, e])
  · refine .inr ⟨l.take k, l.drop (k + 1), x, ?_, by rw [h1]; simp; omega, h4⟩
    obtain ⟨hk, e⟩ := List.getElem?_eq_some_iff.1 h3
    rw [← e, ← List.drop_eq_getElem_cons hk, List.take_append_drop]
end Go.Proofs.Ytnpffhgmakbdnaa
