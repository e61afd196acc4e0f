/- The document's shelf: rows, keys compared. -/
import Derived.Test.YtkkamilmjaochaaPJk
import Derived.Test.YtkkamilmjaochaaPAd
namespace Go.Proofs.Ytkkamilmjaochaa
open Go.RowKit
theorem fm_len {α : Type} {cf : α → List Value} {sz : Nat} (hcf : ∀ x, (cf x).length = sz) (l : List α) : (l.flatMap cf).length = l.length * sz := by
  induction l with
  | nil => simp
  | cons x l ih => simp only [List.flatMap_cons, List.length_append, ih, hcf, List.length_cons, Nat.succ_mul]; omega
theorem fm_get {α : Type} {cf : α → List Value} {sz : Nat} (hcf : ∀ x, (cf x).length = sz) : ∀ (l : List α) (j k : Nat) (x : α), k < sz → l[j]? = some x → (l.flatMap cf)[j * sz + k]? = (cf x)[k]?
  | [], j, k, x, _, hj => by simp at hj
  | y :: l, 0, k, x, hk, hj => by
    simp at hj
    subst hj
    rw [List.flatMap_cons, Nat.zero_mul, Nat.zero_add, List.getElem?_append_left (by rw [hcf]; exact hk)]
  | y :: l, j + 1, k, x, hk, hj => by
    have e : (j + 1) * sz + k - (cf y).length = j * sz + k := by rw [hcf, Nat.succ_mul]; omega
    rw [List.flatMap_cons, List.getElem?_append_right (by rw [hcf, Nat.succ_mul]; omega), e]
    exact fm_get hcf l j k x hk (by simpa using hj)
theorem fm_set {α : Type} {cf : α → List Value} {sz : Nat} (hcf : ∀ x, (cf x).length = sz) (A B : List α) (x x' : α) (k : Nat) (u : Value) (hk : k < sz) (hx : (cf x).set k u = cf x') : ((A ++ x :: B).flatMap cf).set (A.length * sz + k) u = (A ++ x' :: B).flatMap cf := by
  rw [List.flatMap_append, List.flatMap_append, List.set_append_right _ _ (by rw [fm_len hcf]; omega), fm_len hcf, show A.length * sz + k - A.length * sz = k by omega, List.flatMap_cons, List.flatMap_cons, List.set_append_left _ _ (by rw [hcf]; exact hk), hx]
/-- a row of one's own -/
structure RW {α : Type} (e sz : Nat) (cf : α → List Value) (K : Nat → Nat) (w : World) (B t : Nat) (v : Value) (l : List α) : Prop where
  own : w.ownsRow B e sz v l.length (l.flatMap cf)
  k : ∀ g, v.ownBlock = some g → K g = t
section
variable {α : Type} {e sz : Nat} {cf : α → List Value} {K K' : Nat → Nat} {w w' : World} {B t : Nat} {v : Value} {l : List α}
theorem RW.mv {T : Nat → Prop} (h : RW e sz cf K w B t v l) (m : Mv T w w' K K') (ht : ¬ T t) : RW e sz cf K' w' B t v l :=
  ⟨own_block h.own (fun g hg => m.kept g (h.own.lt g hg).2 (by rw [h.k g hg]; exact ht)), fun g hg => (m.old g (h.own.lt g hg).2).trans (h.k g hg)⟩
theorem RW.nil (e sz : Nat) (cf : α → List Value) (K : Nat → Nat) (w : World) (B t : Nat) : RW e sz cf K w B t (.slice none 0 0) [] := ⟨⟨by simp, .inl ⟨rfl, rfl⟩⟩, fun g hg => by cases hg⟩
theorem RW.form (h : RW e sz cf K w B t v l) : ∃ oa cap, v = .slice oa l.length cap ∧ l.length ≤ cap ∧ (0 < l.length → ∃ g, oa = some ⟨g, 0, none⟩) := by
  rcases h.own.2 with ⟨e1, e2⟩ | ⟨g, cap, _, e1, _, _, e4, _⟩
  · exact ⟨none, 0, by rw [e2]; exact e1, by omega, fun h => by omega⟩
  · exact ⟨_, cap, e1, e4, fun _ => ⟨g, rfl⟩⟩
theorem RW.cell (hcf : ∀ x, (cf x).length = sz) {g cap n : Nat} (h : RW e sz cf K w B t (.slice (some ⟨g, 0, none⟩) n cap) l) (hn : l.length = n) {j : Nat} {x : α} (hx : l[j]? = some x) (k : Nat) (hk : k < sz) : w.cell? ⟨g, j * sz + k, none⟩ = (cf x)[k]? := by
  have hj : j < l.length := (List.getElem?_eq_some_iff.1 hx).1
  have ho := h.own
  subst hn
  rw [ho.cellAt (j * sz + k) (by have := Nat.mul_le_mul_right sz (show j + 1 ≤ l.length by omega); rw [Nat.succ_mul] at this; omega), fm_get hcf l j k x hk hx]
theorem RW.app {ty : TypeId} {i : TypeInfo} {z : Value} {bytes : Nat} (hty : Try.prog.underlying ty = some (.slice e)) (hi : Try.prog.info? e = some i) (hz : i.zero = some z) (hs : i.size = sz) (hby : i.bytes = bytes) (hzs : z.cells.size = sz) (hsz : 0 < sz) (hcf : ∀ x, (cf x).length = sz) (h1 : ∀ x, ∀ u ∈ cf x, u.oneCell' = true)
    (h : RW e sz cf K w B t v l) (hB : B ≤ w.heap.size) {N : Nat} {x : α} {cs : Array Value} (hcs : cs.toList = cf x) (hb : w.heap[N]? = some (.cells cs e (0, 0))) (hm : (l.length + 1) * bytes ≤ 140737488355328) (hm2 : l.length + 1 ≤ 1000000000000) :
    ∃ v' w' K', (∀ r, (Builtin.append_ #[ty, ty] r #[v, .slice (some ⟨N, 0, none⟩) 1 1]).run Try.prog w = .ok v' w') ∧ RW e sz cf K' w' B t v' (l ++ [x]) ∧ Mv (fun x => x = t) w w' K K' := by
  obtain ⟨v', w', hr, ho, hg, _, hat⟩ := run_append_own_at (P := Try.prog) w B ty 0 e i z sz bytes hty hi hz hs hby hzs hsz v l.length (l.flatMap cf) h.own ⟨N, 0, none⟩ 1 1 (cf x) (by rw [hcf, Nat.one_mul]) (by rw [← hcs]; exact World.news_of_block hb) (h1 x) (by unfold maxLen; omega) hm hB
  refine ⟨v', w', ext w K (fun _ => t), fun r => hr, ⟨?_, fun g hg2 => ?_⟩, ⟨hg.os, hg.tape, hg.output, hg.size, fun _ hb => ext_old hb, fun b hb ht => hg.block b hb (fun e2 => ht (h.k b e2.symm))⟩⟩
  · rw [List.flatMap_append]
    simpa using ho
  · rcases hat with e2 | e2
    · rw [e2] at hg2
      have := (h.own.lt g hg2).2
      rw [ext_old this]; exact h.k g hg2
    · rw [e2] at hg2
      cases hg2
      exact ext_new (Nat.le_refl _)
theorem RW.set1 (hcf : ∀ x, (cf x).length = sz) {g cap n : Nat} {L1 L2 : List α} {x x' : α} (h : RW e sz cf K w B t (.slice (some ⟨g, 0, none⟩) n cap) (L1 ++ x :: L2)) (hn : (L1 ++ x :: L2).length = n) (k : Nat) (u : Value) (hk : k < sz) (hx : (cf x).set k u = cf x') :
    RW e sz cf K (w.setCell ⟨g, L1.length * sz + k, none⟩ u) B t (.slice (some ⟨g, 0, none⟩) n cap) (L1 ++ x' :: L2) ∧ Mv (fun y => y = t) w (w.setCell ⟨g, L1.length * sz + k, none⟩ u) K K := by
  have ho := h.own
  subst hn
  have s1 := ho.stored (L1.length * sz + k) u
  refine ⟨⟨?_, h.k⟩, Mv.of_set w K _ _ (h.k g rfl)⟩
  have := s1.1
  rw [fm_set hcf L1 L2 x x' k u hk hx] at this
  simpa using this
end
/-- the first that is meant, or -1 -/
def FK {α : Type} (q : α → Prop) (l : List α) (v : Int) : Prop := (v = -1 ∧ ∀ x ∈ l, ¬ q x) ∨ ∃ L1 L2 x, l = L1 ++ x :: L2 ∧ v = (L1.length : Nat) ∧ q x ∧ ∀ y ∈ L1, ¬ q y
def NoK {α : Type} (q : α → Prop) (l : List α) (j : Nat) : Prop := ∀ k x, k < j → l[k]? = some x → ¬ q x
theorem NoK.step {α : Type} {q : α → Prop} {l : List α} {j : Nat} (h : NoK q l j) {x : α} (hx : l[j]? = some x) (hn : ¬ q x) : NoK q l (j + 1) := fun k y hk hy => by
  by_cases e : k = j
  · subst e; rw [hx] at hy; cases hy; exact hn
  · exact h k y (by omega) hy
theorem NoK.all {α : Type} {q : α → Prop} {l : List α} (h : NoK q l l.length) : FK q l (-1) := by
  refine .inl ⟨rfl, fun x hx => ?_⟩
  obtain ⟨k, hk, e⟩ := List.getElem_of_mem hx
  exact h k x hk (by rw [List.getElem?_eq_getElem hk, e])
theorem NoK.hit {α : Type} {q : α → Prop} {l : List α} {j : Nat} (h : NoK q l j) {x : α} (hx : l[j]? = some x) (hq : q x) : FK q l (j : Nat) := by
  obtain ⟨hk, e⟩ := List.getElem?_eq_some_iff.1 hx
  refine .inr ⟨l.take j, l.drop (j + 1), x, ?_, by simp; omega, hq, fun y hy => ?_⟩
  · rw [← e, ← List.drop_eq_getElem_cons hk, List.take_append_drop]
  · obtain ⟨k, hk2, e2⟩ := List.getElem_of_mem hy
    simp at hk2 e2
    exact h k y (by omega) (by rw [List.getElem?_eq_getElem (by omega), e2])
theorem fields32 : Try.prog.underlying 32 = some (.struct (Try.prog.fieldsOf 32)) := by kernel_rfl
theorem fieldsOf32 : (Try.prog.fieldsOf 32).toList = [⟨ "S", 9, 0, false, "", "", 0⟩, ⟨ "N", 3, 1, false, "", "", 16⟩] := by unfold Program.fieldsOf; rw [Try.underlying32]
theorem stood32 : Try.prog.stoodInHeld 32 = false := by kernel_rfl
theorem guard32 : Try.prog.eqGuardType Try.prog.depth 32 = false := by kernel_rfl
theorem part3 (w : World) (xs : Array Value) (o : Nat) (v : Value) (h : xs[o]? = some v) : (part 3 xs o).run Try.prog w = .ok v w := by
  unfold part isAgg
  simp [run_underlying Try.underlying3, h]
theorem part9 (w : World) (xs : Array Value) (o : Nat) (v : Value) (h : xs[o]? = some v) : (part 9 xs o).run Try.prog w = .ok v w := by
  unfold part isAgg
  simp [run_underlying Try.underlying9, h]
abbrev keyV (k : KeyP) : Value := .agg #[.string k.s, .int .i64 k.n]
def keyEq (x y : KeyP) : Bool := x.s.toList == y.s.toList && x.n == y.n
theorem keyEq_is (x y : KeyP) : keyEq x y = true ↔ x = y := by
  unfold keyEq
  obtain ⟨⟨a⟩, n⟩ := x
  obtain ⟨⟨b⟩, m⟩ := y
  constructor
  · intro h
    rw [ByteArray.toList_eq, ByteArray.toList_eq] at h
    simp at h
    rw [h.1, h.2]
  · intro h
    rw [h]; simp
theorem equalIn32 (w : World) (x y : KeyP) : (Op.equalIn 10000 32 (keyV x) (keyV y)).run Try.prog w = .ok (keyEq x y) w := by
  rw [run_equalIn_agg (ht := fields32) (hp := stood32), fieldsOf32]
  have ek : ∀ x y : Int, (Op.equalIn 9999 3 (.int .i64 x) (.int .i64 y)).run Try.prog w = .ok (x == y) w := fun (x y : Int) => run_equalIn_int (P := Try.prog) w 9998 3 .i64 .i64 x y Try.underlying3
  have es : ∀ x y : ByteArray, (Op.equalIn 9999 9 (.string x) (.string y)).run Try.prog w = .ok (x.toList == y.toList) w := fun x y => run_equalIn_string (P := Try.prog) w 9998 9 x y Try.underlying9
  have n1 : "S" ≠ "_" := by decide
  have n2 : "N" ≠ "_" := by decide
  simp only [Op.eqFields, if_pos n1, if_pos n2, Sem.run_bind]
  rw [part9 w _ 0 (.string x.s) rfl]
  simp only [Result.andThen_ok]
  rw [part9 w _ 0 (.string y.s) rfl]
  simp only [Result.andThen_ok]
  rw [es]
  simp only [Result.andThen_ok]
  unfold keyEq
  cases x.s.toList == y.s.toList
  · rfl
  simp only [Bool.not_true, Bool.false_eq_true, if_false, Sem.run_bind]
  rw [part3 w _ 1 (.int .i64 x.n) rfl]
  simp only [Result.andThen_ok]
  rw [part3 w _ 1 (.int .i64 y.n) rfl]
  simp only [Result.andThen_ok]
  rw [ek]
  simp only [Result.andThen_ok]
  cases x.n == y.n
  · rfl
  · rfl
theorem eql32 (w : World) (x y : KeyP) : (binOp .eql 32 (keyV x) (keyV y)).run Try.prog w = .ok (.bool (keyEq x y)) w := by
  rw [run_eql_struct, equalIn32]; rfl
theorem neq32 (w : World) (x y : KeyP) : (binOp .neq 32 (keyV x) (keyV y)).run Try.prog w = .ok (.bool (!keyEq x y)) w := by
  rw [run_neq_struct, equalIn32]; rfl
theorem guard32n (w : World) (op : BinOp) (x y : Operand) (xs ys : Array Value) : (eqGuard op 32 x y (.agg xs) (.agg ys)).run Try.prog w = .ok () w := run_eqGuard_agg w op 32 x y xs ys guard32
end Go.Proofs.Ytkkamilmjaochaa
