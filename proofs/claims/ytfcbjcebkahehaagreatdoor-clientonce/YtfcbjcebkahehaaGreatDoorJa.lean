/- The client: memory by tags, rows of one's own. -/
import Derived.Test.YtfcbjcebkahehaaGreatDoorZam
import Derived.Test.YtfcbjcebkahehaaGreatDoorPw
import Derived.Deep.RegionHeld3
import Derived.Carry
import Derived.Deep.AppendLies
import Derived.Deep.RegionLaw
import Derived.BigRegion
import Derived.Laws.IdiomStrings
import Derived.Laws.StructEq
import Derived.Maps.Keyed
import Derived.Deep.QuietTactic
import Derived.BigQuiet
import Derived.Deep.CutBlock
import Derived.Deep.CutRange
import Derived.Deep.DeepCutAuto
namespace Go.Proofs.YtfcbjcebkahehaaGreatDoor.Cl
open Go.RowKit
abbrev ptr (b : Nat) : Value := .pointer (some ⟨b, 0, none⟩)
abbrev I64 (n : Int) : Prop := -9223372036854775808 ≤ n ∧ n ≤ 9223372036854775807
theorem wrap64_in (x : Int) : I64 (wrap64 x) := by unfold wrap64 I64; omega
theorem meas {n j : Nat} {q : Int} (hq : q = (j : Int) + 1) (hj : (j : Int) < (n : Int)) : n - (intOf (.int .i64 q)).toNat < n - (intOf (.int .i64 (j : Int))).toNat := by
  show n - q.toNat < n - (j : Int).toNat
  omega
/-- append in a region that draws, its run being known -/
theorem step_app {P : Program} {ops : Array Oper} {o : Oper} {a : Act} {w : World} {K : Act → World → Prop} {Q : Exit → Act → World → Prop} {E : Prop}
    (hg : o.guard = none) (s x : Operand) (t : TypeId) (hop : o.op = Op.call { callee := Callee.builtin Builtin.append, args := #[s, x], argTypes := #[t, t] })
    (v1 v2 r : Value) (w' : World) (hs : a.eval s = v1) (hx : a.eval x = v2) (hrun : (Builtin.append_ #[t, t] o.type #[v1, v2]).run P w = .ok r w') (hK : K (a.put o.dst r) w') :
    if Region.wanted o (yielded ops a.tmps) = true then Oper.wp P o a w K Q else E := by
  have hw : Region.wanted o (yielded ops a.tmps) = true := by simp [Region.wanted, hg]
  rw [if_pos hw]
  unfold Oper.wp
  simp [execOp, hop, resolve, invoke, builtin, hs, hx, hrun, Result.andThen]
  exact hK
theorem wpList_app {P : Program} {ops : Array Oper} {rest : List Oper} {o : Oper} {a : Act} {Q : Exit → Act → World → Prop} {w : World} (hgd : o.guard = none) (s x : Operand) (t : TypeId)
    (ho : o.op = .call { callee := .builtin .append, args := #[s, x], argTypes := #[t, t] }) (v1 v2 r : Value) (w' : World) (hs : a.eval s = v1) (hx : a.eval x = v2) (hrun : (Builtin.append_ #[t, t] o.type #[v1, v2]).run P w = .ok r w')
    (h : wpList P ops Q rest (a.put o.dst r) w') : wpList P ops Q (o :: rest) a w := by
  refine wpList_plain hgd fun K hK => ?_
  unfold Oper.wp execOp
  simp only [ho, resolve, invoke, builtin, Sem.run_bind, Sem.run_pure, Result.andThen_ok, List.map_toArray, List.map_cons, List.map_nil, hs, hx, hrun]
  exact hK _ _ h
theorem step_calls {P : Program} {ops : Array Oper} {o : Oper} {a : Act} {w : World} {K : Act → World → Prop} {Q : Exit → Act → World → Prop} {E : Prop} (hg : o.guard = none) (f : FuncId) (args : Array Value)
    (hrun : (execOp a.eval o).run P w = .ok (.enter f args) w) (post : Ending → World → Prop) (hC : Calls P f args w post) (h : ∀ e w', post e w' → ∃ v, e = .returned v ∧ K (a.put o.dst v) w') :
    if Region.wanted o (yielded ops a.tmps) = true then Oper.wp P o a w K Q else E := by
  have hw : Region.wanted o (yielded ops a.tmps) = true := by simp [Region.wanted, hg]
  rw [if_pos hw]
  unfold Oper.wp
  rw [hrun, Oper.upon_enter]
  refine hC.mono fun e w' hp => ?_
  obtain ⟨v, rfl, hk⟩ := h e w' hp
  exact hk

theorem run_call {P : Program} {o : Oper} {a : Act} {w : World} (f : FuncId) (xs : Array Operand) (ts : Array TypeId) (hop : o.op = Op.call { callee := .value (.func f), args := xs, argTypes := ts }) (args : Array Value) (ha : xs.map a.eval = args)
   (hcf : ∀ ys w, (callFunc f ys).run P w = .ok (.enter f ys) w) : (execOp a.eval o).run P w = .ok (.enter f args) w := by
  subst ha
  simp [execOp, hop, resolve, invoke, Act.eval, Deferred.ofValue, hcf]
/-- the same, told by its operands -/
theorem step_call {P : Program} {ops : Array Oper} {o : Oper} {a : Act} {w : World} {K : Act → World → Prop} {Q : Exit → Act → World → Prop} {E : Prop} (hg : o.guard = none) (f : FuncId) (xs : Array Operand) (ts : Array TypeId)
    (hop : o.op = Op.call { callee := .value (.func f), args := xs, argTypes := ts }) (args : Array Value) (ha : xs.map a.eval = args) (hcf : ∀ ys w, (callFunc f ys).run P w = .ok (.enter f ys) w) (post : Ending → World → Prop) (hC : Calls P f args w post) (h : ∀ e w', post e w' → ∃ v, e = .returned v ∧ K (a.put o.dst v) w') :
    if Region.wanted o (yielded ops a.tmps) = true then Oper.wp P o a w K Q else E := step_calls hg f args (run_call f xs ts hop args ha hcf) post hC h
theorem step_call3 {P : Program} {ops : Array Oper} {o : Oper} {a : Act} {w : World} {K : Act → World → Prop} {Q : Exit → Act → World → Prop} {E : Prop} (hg : o.guard = none) (f : FuncId) (x y z : Operand) (ts : Array TypeId)
    (hop : o.op = Op.call { callee := .value (.func f), args := #[x, y, z], argTypes := ts }) (u v t : Value) (hx : a.eval x = u) (hy : a.eval y = v) (hz : a.eval z = t) (hcf : ∀ ys w, (callFunc f ys).run P w = .ok (.enter f ys) w) (post : Ending → World → Prop) (hC : Calls P f #[u, v, t] w post) (h : ∀ e w', post e w' → ∃ v, e = .returned v ∧ K (a.put o.dst v) w') :
    if Region.wanted o (yielded ops a.tmps) = true then Oper.wp P o a w K Q else E := step_call hg f _ ts hop #[u, v, t] (by simp [hx, hy, hz]) hcf post hC h
theorem own_block {w w' : World} {base : Nat} {e : TypeId} {size : Nat} {v : Value} {n : Nat} {xs : List Value} (h : w.ownsRow base e size v n xs) (hb : ∀ g, v.ownBlock = some g → w'.heap[g]? = w.heap[g]?) : w'.ownsRow base e size v n xs := by
  refine ⟨h.1, ?_⟩
  rcases h.2 with hn | ⟨g, cap, cur, rfl, h1, h2, h3⟩
  · exact .inl hn
  · exact .inr ⟨g, cap, cur, rfl, h1, (hb g rfl).trans h2, h3⟩
theorem own_mono {w : World} {base base' : Nat} {e : TypeId} {size : Nat} {v : Value} {n : Nat} {xs : List Value} (h : w.ownsRow base e size v n xs) (hb : base' ≤ base) : w.ownsRow base' e size v n xs := by
  refine ⟨h.1, ?_⟩
  rcases h.2 with hn | ⟨g, cap, cur, rfl, h1, h2⟩
  · exact .inl hn
  · exact .inr ⟨g, cap, cur, rfl, Nat.le_trans hb h1, h2⟩
structure Mv (T : Nat → Prop) (w w' : World) (K K' : Nat → Nat) : Prop where
  os : w'.os = w.os
  tape : w'.tape = w.tape
  output : w'.output = w.output
  size : w.heap.size ≤ w'.heap.size
  old : ∀ b, b < w.heap.size → K' b = K b
  kept : ∀ b, b < w.heap.size → ¬ T (K b) → w'.heap[b]? = w.heap[b]?
theorem Mv.refl (T : Nat → Prop) (w : World) (K : Nat → Nat) : Mv T w w K K := ⟨rfl, rfl, rfl, Nat.le_refl _, fun _ _ => rfl, fun _ _ _ => rfl⟩
theorem Mv.trans {T : Nat → Prop} {a b c : World} {K K' K'' : Nat → Nat} (h : Mv T a b K K') (k : Mv T b c K' K'') : Mv T a c K K'' :=
  ⟨k.os.trans h.os, k.tape.trans h.tape, k.output.trans h.output, Nat.le_trans h.size k.size, fun i hi => (k.old i (Nat.lt_of_lt_of_le hi h.size)).trans (h.old i hi), fun i hi ht => (k.kept i (Nat.lt_of_lt_of_le hi h.size) (by rw [h.old i hi]; exact ht)).trans (h.kept i hi ht)⟩
theorem Mv.mono {T T' : Nat → Prop} {a b : World} {K K' : Nat → Nat} (h : Mv T a b K K') (ht : ∀ t, T t → T' t) : Mv T' a b K K' := ⟨h.os, h.tape, h.output, h.size, h.old, fun i hi h2 => h.kept i hi (fun h3 => h2 (ht _ h3))⟩
/-- the old tags, and one for the new blocks -/
def ext (w : World) (K : Nat → Nat) (N : Nat → Nat) : Nat → Nat := fun b => if b < w.heap.size then K b else N b
theorem ext_old {w : World} {K N : Nat → Nat} {b : Nat} (h : b < w.heap.size) : ext w K N b = K b := if_pos h
theorem ext_new {w : World} {K N : Nat → Nat} {b : Nat} (h : w.heap.size ≤ b) : ext w K N b = N b := if_neg (by omega)
theorem Mv.of_below {w w' : World} (h : Below w.heap.size w w') (K N : Nat → Nat) : Mv (fun _ => False) w w' K (ext w K N) := ⟨h.os, h.tape, h.output, h.size, fun _ hb => ext_old hb, fun b hb _ => h.block b hb⟩
theorem Mv.of_grown {w w' : World} {p t : Nat} (h : w.grownBy w' (some p)) (K N : Nat → Nat) (hp : K p = t) : Mv (fun x => x = t) w w' K (ext w K N) :=
  ⟨h.os, h.tape, h.output, h.size, fun _ hb => ext_old hb, fun b hb ht => h.block b hb (fun e => ht (by cases e; exact hp))⟩
theorem Mv.of_set (w : World) (K : Nat → Nat) (a : Addr) (v : Value) {t : Nat} (hp : K a.block = t) : Mv (fun x => x = t) w (w.setCell a v) K K :=
  ⟨rfl, rfl, rfl, by simp [World.setCell], fun _ _ => rfl, fun b _ ht => Below.heap_setCell _ _ _ _ (fun e => ht (by rw [e]; exact hp))⟩
theorem Mv.drew (T : Nat → Prop) (w : World) (K : Nat → Nat) : Mv T w w.drew K K := ⟨rfl, rfl, rfl, Nat.le_refl _, fun _ _ => rfl, fun _ _ _ => rfl⟩
/-- all that was there at first stays, and bears the tag 0 -/
structure BS (W w : World) (K : Nat → Nat) : Prop where
  be : Below W.heap.size W w
  k0 : ∀ b, b < W.heap.size → K b = 0
theorem BS.mv {T : Nat → Prop} {W w w' : World} {K K' : Nat → Nat} (h : BS W w K) (m : Mv T w w' K K') (ht : ¬ T 0) : BS W w' K' :=
  ⟨⟨m.os.trans h.be.os, m.tape.trans h.be.tape, m.output.trans h.be.output, Nat.le_trans h.be.size m.size, fun b hb => (m.kept b (Nat.lt_of_lt_of_le hb h.be.size) (by rw [h.k0 b hb]; exact ht)).trans (h.be.block b hb)⟩, fun b hb => (m.old b (Nat.lt_of_lt_of_le hb h.be.size)).trans (h.k0 b hb)⟩
theorem BS.first (W : World) : BS W W (fun _ => 0) := ⟨Below.refl _ _, fun _ _ => rfl⟩
/-- a block with its tag -/
structure TB (K : Nat → Nat) (w : World) (t b : Nat) (o : Obj) : Prop where
  at_ : w.heap[b]? = some o
  k : K b = t
theorem TB.lt {K : Nat → Nat} {w : World} {t b : Nat} {o : Obj} (h : TB K w t b o) : b < w.heap.size := (Array.getElem?_eq_some_iff.1 h.at_).1
theorem TB.mv {T : Nat → Prop} {K K' : Nat → Nat} {w w' : World} {t b : Nat} {o : Obj} (h : TB K w t b o) (m : Mv T w w' K K') (ht : ¬ T t) : TB K' w' t b o :=
  ⟨(m.kept b h.lt (by rw [h.k]; exact ht)).trans h.at_, (m.old b h.lt).trans h.k⟩
theorem TB.new (w : World) (K N : Nat → Nat) (o : Obj) {t : Nat} (ht : N w.heap.size = t) : TB (ext w K N) (w.alloc o) t w.heap.size o := ⟨(MapKept.heap_alloc w o).1, (ext_new (Nat.le_refl _)).trans ht⟩
theorem Mv.alloc (w : World) (K N : Nat → Nat) (o : Obj) : Mv (fun _ => False) w (w.alloc o) K (ext w K N) := Mv.of_below ((Below.refl _ _).alloc (Nat.le_refl _) _) K N
theorem fm_len {α : Type} {cf : α → List Value} {sz : Nat} (hcf : ∀ x, (cf x).length = sz) (l : List α) : (l.flatMap cf).length = l.length * sz := by
  induction l with
  | nil => simp
  | cons x l ih => simp only [List.flatMap_cons, List.length_append, ih, hcf, List.length_cons, Nat.succ_mul]; omega
theorem fm_get {α : Type} {cf : α → List Value} {sz : Nat} (hcf : ∀ x, (cf x).length = sz) : ∀ (l : List α) (j k : Nat) (x : α), k < sz → l[j]? = some x → (l.flatMap cf)[j * sz + k]? = (cf x)[k]?
  | [], j, k, x, _, hj => by simp at hj
  | y :: l, 0, k, x, hk, hj => by
    simp at hj
    subst hj
    rw [List.flatMap_cons, Nat.zero_mul, Nat.zero_add, List.getElem?_append_left (by rw [hcf]; exact hk)]
  | y :: l, j + 1, k, x, hk, hj => by
    have e : (j + 1) * sz + k - (cf y).length = j * sz + k := by rw [hcf, Nat.succ_mul]; omega
    rw [List.flatMap_cons, List.getElem?_append_right (by rw [hcf, Nat.succ_mul]; omega), e]
    exact fm_get hcf l j k x hk (by simpa using hj)
theorem fm_set {α : Type} {cf : α → List Value} {sz : Nat} (hcf : ∀ x, (cf x).length = sz) (A B : List α) (x x' : α) (k : Nat) (u : Value) (hk : k < sz) (hx : (cf x).set k u = cf x') : ((A ++ x :: B).flatMap cf).set (A.length * sz + k) u = (A ++ x' :: B).flatMap cf := by
  rw [List.flatMap_append, List.flatMap_append, List.set_append_right _ _ (by rw [fm_len hcf]; omega), fm_len hcf, show A.length * sz + k - A.length * sz = k by omega, List.flatMap_cons, List.flatMap_cons, List.set_append_left _ _ (by rw [hcf]; exact hk), hx]
/-- a row of one's own -/
structure RW {α : Type} (e sz : Nat) (cf : α → List Value) (K : Nat → Nat) (w : World) (B t : Nat) (v : Value) (l : List α) : Prop where
  own : w.ownsRow B e sz v l.length (l.flatMap cf)
  k : ∀ g, v.ownBlock = some g → K g = t
section
variable {α : Type} {e sz : Nat} {cf : α → List Value} {K K' : Nat → Nat} {w w' : World} {B t : Nat} {v : Value} {l : List α}
theorem RW.mv {T : Nat → Prop} (h : RW e sz cf K w B t v l) (m : Mv T w w' K K') (ht : ¬ T t) : RW e sz cf K' w' B t v l :=
  ⟨own_block h.own (fun g hg => m.kept g (h.own.lt g hg).2 (by rw [h.k g hg]; exact ht)), fun g hg => (m.old g (h.own.lt g hg).2).trans (h.k g hg)⟩
theorem RW.nil (e sz : Nat) (cf : α → List Value) (K : Nat → Nat) (w : World) (B t : Nat) : RW e sz cf K w B t (.slice none 0 0) [] := ⟨⟨by simp, .inl ⟨rfl, rfl⟩⟩, fun g hg => by cases hg⟩
theorem RW.form (h : RW e sz cf K w B t v l) : ∃ oa cap, v = .slice oa l.length cap ∧ l.length ≤ cap ∧ (0 < l.length → ∃ g, oa = some ⟨g, 0, none⟩) := by
  rcases h.own.2 with ⟨e1, e2⟩ | ⟨g, cap, _, e1, _, _, e4, _⟩
  · exact ⟨none, 0, by rw [e2]; exact e1, by omega, fun h => by omega⟩
  · exact ⟨_, cap, e1, e4, fun _ => ⟨g, rfl⟩⟩
theorem RW.cell (hcf : ∀ x, (cf x).length = sz) {g cap n : Nat} (h : RW e sz cf K w B t (.slice (some ⟨g, 0, none⟩) n cap) l) (hn : l.length = n) {j : Nat} {x : α} (hx : l[j]? = some x) (k : Nat) (hk : k < sz) : w.cell? ⟨g, j * sz + k, none⟩ = (cf x)[k]? := by
  have hj : j < l.length := (List.getElem?_eq_some_iff.1 hx).1
  have ho := h.own
  subst hn
  rw [ho.cellAt (j * sz + k) (by have := Nat.mul_le_mul_right sz (show j + 1 ≤ l.length by omega); rw [Nat.succ_mul] at this; omega), fm_get hcf l j k x hk hx]
theorem RW.app {ty : TypeId} {i : TypeInfo} {z : Value} {bytes : Nat} (hty : Tryz.prog.underlying ty = some (.slice e)) (hi : Tryz.prog.info? e = some i) (hz : i.zero = some z) (hs : i.size = sz) (hby : i.bytes = bytes) (hzs : z.cells.size = sz) (hsz : 0 < sz) (hcf : ∀ x, (cf x).length = sz) (h1 : ∀ x, ∀ u ∈ cf x, u.oneCell' = true)
    (h : RW e sz cf K w B t v l) (hB : B ≤ w.heap.size) {N : Nat} {x : α} {cs : Array Value} (hcs : cs.toList = cf x) (hb : w.heap[N]? = some (.cells cs e (0, 0))) (hm : (l.length + 1) * bytes ≤ 140737488355328) (hm2 : l.length + 1 ≤ 1000000000000) :
    ∃ v' w' K', (∀ r, (Builtin.append_ #[ty, ty] r #[v, .slice (some ⟨N, 0, none⟩) 1 1]).run Tryz.prog w = .ok v' w') ∧ RW e sz cf K' w' B t v' (l ++ [x]) ∧ Mv (fun x => x = t) w w' K K' := by
  obtain ⟨v', w', hr, ho, hg, _, hat⟩ := run_append_own_at (P := Tryz.prog) w B ty 0 e i z sz bytes hty hi hz hs hby hzs hsz v l.length (l.flatMap cf) h.own ⟨N, 0, none⟩ 1 1 (cf x) (by rw [hcf, Nat.one_mul]) (by rw [← hcs]; exact World.news_of_block hb) (h1 x) (by unfold maxLen; omega) hm hB
  refine ⟨v', w', ext w K (fun _ => t), fun r => hr, ⟨?_, fun g hg2 => ?_⟩, ⟨hg.os, hg.tape, hg.output, hg.size, fun _ hb => ext_old hb, fun b hb ht => hg.block b hb (fun e2 => ht (h.k b e2.symm))⟩⟩
  · rw [List.flatMap_append]
    simpa using ho
  · rcases hat with e2 | e2
    · rw [e2] at hg2
      have := (h.own.lt g hg2).2
      rw [ext_old this]; exact h.k g hg2
    · rw [e2] at hg2
      cases hg2
      exact ext_new (Nat.le_refl _)
theorem RW.set1 (hcf : ∀ x, (cf x).length = sz) {g cap n : Nat} {L1 L2 : List α} {x x' : α} (h : RW e sz cf K w B t (.slice (some ⟨g, 0, none⟩) n cap) (L1 ++ x :: L2)) (hn : (L1 ++ x :: L2).length = n) (k : Nat) (u : Value) (hk : k < sz) (hx : (cf x).set k u = cf x') :
    RW e sz cf K (w.setCell ⟨g, L1.length * sz + k, none⟩ u) B t (.slice (some ⟨g, 0, none⟩) n cap) (L1 ++ x' :: L2) ∧ Mv (fun y => y = t) w (w.setCell ⟨g, L1.length * sz + k, none⟩ u) K K := by
  have ho := h.own
  subst hn
  have s1 := ho.stored (L1.length * sz + k) u
  refine ⟨⟨?_, h.k⟩, Mv.of_set w K _ _ (h.k g rfl)⟩
  have := s1.1
  rw [fm_set hcf L1 L2 x x' k u hk hx] at this
  simpa using this
end
theorem mv_drewN (w : World) (K : Nat → Nat) (m : Nat) : Mv (fun _ => False) w (w.drewN m) K K := ⟨rfl, rfl, rfl, Nat.le_refl _, fun _ _ => rfl, fun _ _ _ => rfl⟩
theorem wrapS {j : Nat} (h : j ≤ 100000000000) : wrap64 ((j : Int) + 1) = (j : Int) + 1 := by unfold wrap64; omega
end Go.Proofs.YtfcbjcebkahehaaGreatDoor.Cl
