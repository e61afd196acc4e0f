/- The client: memory by tags, rows of one's own. The client: small functions. The client: a config that may be. The client: numbers cloned; a meter made. The client: New. -/
import Derived.Test.YtfcbjcebkahehaaGreatDoorZai
import Derived.Test.YtfcbjcebkahehaaGreatDoorZaj
import Derived.Deep.RegionHeld3
import Derived.Carry
import Derived.Deep.AppendLies
import Derived.Deep.RegionLaw
import Derived.BigRegion
import Derived.Laws.IdiomStrings
import Derived.Laws.StructEq
import Derived.Maps.Keyed
import Derived.Deep.QuietTactic
import Derived.BigQuiet
import Derived.Deep.CutBlock
import Derived.Deep.CutRange
import Derived.Deep.DeepCutAuto
import Derived.Test.YtfcbjcebkahehaaGreatDoorZac
namespace Go.Proofs.YtfcbjcebkahehaaGreatDoor.Cl
open Go.RowKit
abbrev ptr (b : Nat) : Value := .pointer (some ⟨b, 0, none⟩)
abbrev I64 (n : Int) : Prop := -9223372036854775808 ≤ n ∧ n ≤ 9223372036854775807
theorem wrap64_in (x : Int) : I64 (wrap64 x) := by unfold wrap64 I64; omega
theorem meas {n j : Nat} {q : Int} (hq : q = (j : Int) + 1) (hj : (j : Int) < (n : Int)) : n - (intOf (.int .i64 q)).toNat < n - (intOf (.int .i64 (j : Int))).toNat := by
  show n - q.toNat < n - (j : Int).toNat
  omega
/-- append in a region that draws, its run being known -/
theorem step_app {P : Program} {ops : Array Oper} {o : Oper} {a : Act} {w : World} {K : Act → World → Prop} {Q : Exit → Act → World → Prop} {E : Prop}
    (hg : o.guard = none) (s x : Operand) (t : TypeId) (hop : o.op = Op.call { callee := Callee.builtin Builtin.append, args := #[s, x], argTypes := #[t, t] })
    (v1 v2 r : Value) (w' : World) (hs : a.eval s = v1) (hx : a.eval x = v2) (hrun : (Builtin.append_ #[t, t] o.type #[v1, v2]).run P w = .ok r w') (hK : K (a.put o.dst r) w') :
    if Region.wanted o (yielded ops a.tmps) = true then Oper.wp P o a w K Q else E := by
  have hw : Region.wanted o (yielded ops a.tmps) = true := by simp [Region.wanted, hg]
  rw [if_pos hw]
  unfold Oper.wp
  simp [execOp, hop, resolve, invoke, builtin, hs, hx, hrun, Result.andThen]
  exact hK
theorem wpList_app {P : Program} {ops : Array Oper} {rest : List Oper} {o : Oper} {a : Act} {Q : Exit → Act → World → Prop} {w : World} (hgd : o.guard = none) (s x : Operand) (t : TypeId)
    (ho : o.op = .call { callee := .builtin .append, args := #[s, x], argTypes := #[t, t] }) (v1 v2 r : Value) (w' : World) (hs : a.eval s = v1) (hx : a.eval x = v2) (hrun : (Builtin.append_ #[t, t] o.type #[v1, v2]).run P w = .ok r w')
    (h : wpList P ops Q rest (a.put o.dst r) w') : wpList P ops Q (o :: rest) a w := by
  refine wpList_plain hgd fun K hK => ?_
  unfold Oper.wp execOp
  simp only [ho, resolve, invoke, builtin, Sem.run_bind, Sem.run_pure, Result.andThen_ok, List.map_toArray, List.map_cons, List.map_nil, hs, hx, hrun]
  exact hK _ _ h
theorem step_calls {P : Program} {ops : Array Oper} {o : Oper} {a : Act} {w : World} {K : Act → World → Prop} {Q : Exit → Act → World → Prop} {E : Prop} (hg : o.guard = none) (f : FuncId) (args : Array Value)
    (hrun : (execOp a.eval o).run P w = .ok (.enter f args) w) (post : Ending → World → Prop) (hC : Calls P f args w post) (h : ∀ e w', post e w' → ∃ v, e = .returned v ∧ K (a.put o.dst v) w') :
    if Region.wanted o (yielded ops a.tmps) = true then Oper.wp P o a w K Q else E := by
  have hw : Region.wanted o (yielded ops a.tmps) = true := by simp [Region.wanted, hg]
  rw [if_pos hw]
  unfold Oper.wp
  rw [hrun, Oper.upon_enter]
  refine hC.mono fun e w' hp => ?_
  obtain ⟨v, rfl, hk⟩ := h e w' hp
  exact hk

theorem run_call {P : Program} {o : Oper} {a : Act} {w : World} (f : FuncId) (xs : Array Operand) (ts : Array TypeId) (hop : o.op = Op.call { callee := .value (.func f), args := xs, argTypes := ts }) (args : Array Value) (ha : xs.map a.eval = args)
   (hcf : ∀ ys w, (callFunc f ys).run P w = .ok (.enter f ys) w) : (execOp a.eval o).run P w = .ok (.enter f args) w := by
  subst ha
  simp [execOp, hop, resolve, invoke, Act.eval, Deferred.ofValue, hcf]
/-- the same, told by its operands -/
theorem step_call {P : Program} {ops : Array Oper} {o : Oper} {a : Act} {w : World} {K : Act → World → Prop} {Q : Exit → Act → World → Prop} {E : Prop} (hg : o.guard = none) (f : FuncId) (xs : Array Operand) (ts : Array TypeId)
    (hop : o.op = Op.call { callee := .value (.func f), args := xs, argTypes := ts }) (args : Array Value) (ha : xs.map a.eval = args) (hcf : ∀ ys w, (callFunc f ys).run P w = .ok (.enter f ys) w) (post : Ending → World → Prop) (hC : Calls P f args w post) (h : ∀ e w', post e w' → ∃ v, e = .returned v ∧ K (a.put o.dst v) w') :
    if Region.wanted o (yielded ops a.tmps) = true then Oper.wp P o a w K Q else E := step_calls hg f args (run_call f xs ts hop args ha hcf) post hC h
theorem step_call3 {P : Program} {ops : Array Oper} {o : Oper} {a : Act} {w : World} {K : Act → World → Prop} {Q : Exit → Act → World → Prop} {E : Prop} (hg : o.guard = none) (f : FuncId) (x y z : Operand) (ts : Array TypeId)
    (hop : o.op = Op.call { callee := .value (.func f), args := #[x, y, z], argTypes := ts }) (u v t : Value) (hx : a.eval x = u) (hy : a.eval y = v) (hz : a.eval z = t) (hcf : ∀ ys w, (callFunc f ys).run P w = .ok (.enter f ys) w) (post : Ending → World → Prop) (hC : Calls P f #[u, v, t] w post) (h : ∀ e w', post e w' → ∃ v, e = .returned v ∧ K (a.put o.dst v) w') :
    if Region.wanted o (yielded ops a.tmps) = true then Oper.wp P o a w K Q else E := step_call hg f _ ts hop #[u, v, t] (by simp [hx, hy, hz]) hcf post hC h
theorem own_block {w w' : World} {base : Nat} {e : TypeId} {size : Nat} {v : Value} {n : Nat} {xs : List Value} (h : w.ownsRow base e size v n xs) (hb : ∀ g, v.ownBlock = some g → w'.heap[g]? = w.heap[g]?) : w'.ownsRow base e size v n xs := by
  refine ⟨h.1, ?_⟩
  rcases h.2 with hn | ⟨g, cap, cur, rfl, h1, h2, h3⟩
  · exact .inl hn
  · exact .inr ⟨g, cap, cur, rfl, h1, (hb g rfl).trans h2, h3⟩
theorem own_mono {w : World} {base base' : Nat} {e : TypeId} {size : Nat} {v : Value} {n : Nat} {xs : List Value} (h : w.ownsRow base e size v n xs) (hb : base' ≤ base) : w.ownsRow base' e size v n xs := by
  refine ⟨h.1, ?_⟩
  rcases h.2 with hn | ⟨g, cap, cur, rfl, h1, h2⟩
  · exact .inl hn
  · exact .inr ⟨g, cap, cur, rfl, Nat.le_trans hb h1, h2⟩
structure Mv (T : Nat → Prop) (w w' : World) (K K' : Nat → Nat) : Prop where
  os : w'.os = w.os
  tape : w'.tape = w.tape
  output : w'.output = w.output
  size : w.heap.size ≤ w'.heap.size
  old : ∀ b, b < w.heap.size → K' b = K b
  kept : ∀ b, b < w.heap.size → ¬ T (K b) → w'.heap[b]? = w.heap[b]?
theorem Mv.refl (T : Nat → Prop) (w : World) (K : Nat → Nat) : Mv T w w K K := ⟨rfl, rfl, rfl, Nat.le_refl _, fun _ _ => rfl, fun _ _ _ => rfl⟩
theorem Mv.trans {T : Nat → Prop} {a b c : World} {K K' K'' : Nat → Nat} (h : Mv T a b K K') (k : Mv T b c K' K'') : Mv T a c K K'' :=
  ⟨k.os.trans h.os, k.tape.trans h.tape, k.output.trans h.output, Nat.le_trans h.size k.size, fun i hi => (k.old i (Nat.lt_of_lt_of_le hi h.size)).trans (h.old i hi), fun i hi ht => (k.kept i (Nat.lt_of_lt_of_le hi h.size) (by rw [h.old i hi]; exact ht)).trans (h.kept i hi ht)⟩
theorem Mv.mono {T T' : Nat → Prop} {a b : World} {K K' : Nat → Nat} (h : Mv T a b K K') (ht : ∀ t, T t → T' t) : Mv T' a b K K' := ⟨h.os, h.tape, h.output, h.size, h.old, fun i hi h2 => h.kept i hi (fun h3 => h2 (ht _ h3))⟩
/-- the old tags, and one for the new blocks -/
def ext (w : World) (K : Nat → Nat) (N : Nat → Nat) : Nat → Nat := fun b => if b < w.heap.size then K b else N b
theorem ext_old {w : World} {K N : Nat → Nat} {b : Nat} (h : b < w.heap.size) : ext w K N b = K b := if_pos h
theorem ext_new {w : World} {K N : Nat → Nat} {b : Nat} (h : w.heap.size ≤ b) : ext w K N b = N b := if_neg (by omega)
theorem Mv.of_below {w w' : World} (h : Below w.heap.size w w') (K N : Nat → Nat) : Mv (fun _ => False) w w' K (ext w K N) := ⟨h.os, h.tape, h.output, h.size, fun _ hb => ext_old hb, fun b hb _ => h.block b hb⟩
theorem Mv.of_grown {w w' : World} {p t : Nat} (h : w.grownBy w' (some p)) (K N : Nat → Nat) (hp : K p = t) : Mv (fun x => x = t) w w' K (ext w K N) :=
  ⟨h.os, h.tape, h.output, h.size, fun _ hb => ext_old hb, fun b hb ht => h.block b hb (fun e => ht (by cases e; exact hp))⟩
theorem Mv.of_set (w : World) (K : Nat → Nat) (a : Addr) (v : Value) {t : Nat} (hp : K a.block = t) : Mv (fun x => x = t) w (w.setCell a v) K K :=
  ⟨rfl, rfl, rfl, by simp [World.setCell], fun _ _ => rfl, fun b _ ht => Below.heap_setCell _ _ _ _ (fun e => ht (by rw [e]; exact hp))⟩
theorem Mv.drew (T : Nat → Prop) (w : World) (K : Nat → Nat) : Mv T w w.drew K K := ⟨rfl, rfl, rfl, Nat.le_refl _, fun _ _ => rfl, fun _ _ _ => rfl⟩
/-- all that was there at first stays, and bears the tag 0 -/
structure BS (W w : World) (K : Nat → Nat) : Prop where
  be : Below W.heap.size W w
  k0 : ∀ b, b < W.heap.size → K b = 0
theorem BS.mv {T : Nat → Prop} {W w w' : World} {K K' : Nat → Nat} (h : BS W w K) (m : Mv T w w' K K') (ht : ¬ T 0) : BS W w' K' :=
  ⟨⟨m.os.trans h.be.os, m.tape.trans h.be.tape, m.output.trans h.be.output, Nat.le_trans h.be.size m.size, fun b hb => (m.kept b (Nat.lt_of_lt_of_le hb h.be.size) (by rw [h.k0 b hb]; exact ht)).trans (h.be.block b hb)⟩, fun b hb => (m.old b (Nat.lt_of_lt_of_le hb h.be.size)).trans (h.k0 b hb)⟩
theorem BS.first (W : World) : BS W W (fun _ => 0) := ⟨Below.refl _ _, fun _ _ => rfl⟩
/-- a block with its tag -/
structure TB (K : Nat → Nat) (w : World) (t b : Nat) (o : Obj) : Prop where
  at_ : w.heap[b]? = some o
  k : K b = t
theorem TB.lt {K : Nat → Nat} {w : World} {t b : Nat} {o : Obj} (h : TB K w t b o) : b < w.heap.size := (Array.getElem?_eq_some_iff.1 h.at_).1
theorem TB.mv {T : Nat → Prop} {K K' : Nat → Nat} {w w' : World} {t b : Nat} {o : Obj} (h : TB K w t b o) (m : Mv T w w' K K') (ht : ¬ T t) : TB K' w' t b o :=
  ⟨(m.kept b h.lt (by rw [h.k]; exact ht)).trans h.at_, (m.old b h.lt).trans h.k⟩
theorem TB.new (w : World) (K N : Nat → Nat) (o : Obj) {t : Nat} (ht : N w.heap.size = t) : TB (ext w K N) (w.alloc o) t w.heap.size o := ⟨(MapKept.heap_alloc w o).1, (ext_new (Nat.le_refl _)).trans ht⟩
theorem Mv.alloc (w : World) (K N : Nat → Nat) (o : Obj) : Mv (fun _ => False) w (w.alloc o) K (ext w K N) := Mv.of_below ((Below.refl _ _).alloc (Nat.le_refl _) _) K N
theorem fm_len {α : Type} {cf : α → List Value} {sz : Nat} (hcf : ∀ x, (cf x).length = sz) (l : List α) : (l.flatMap cf).length = l.length * sz := by
  induction l with
  | nil => simp
  | cons x l ih => simp only [List.flatMap_cons, List.length_append, ih, hcf, List.length_cons, Nat.succ_mul]; omega
theorem fm_get {α : Type} {cf : α → List Value} {sz : Nat} (hcf : ∀ x, (cf x).length = sz) : ∀ (l : List α) (j k : Nat) (x : α), k < sz → l[j]? = some x → (l.flatMap cf)[j * sz + k]? = (cf x)[k]?
  | [], j, k, x, _, hj => by simp at hj
  | y :: l, 0, k, x, hk, hj => by
    simp at hj
    subst hj
    rw [List.flatMap_cons, Nat.zero_mul, Nat.zero_add, List.getElem?_append_left (by rw [hcf]; exact hk)]
  | y :: l, j + 1, k, x, hk, hj => by
    have e : (j + 1) * sz + k - (cf y).length = j * sz + k := by rw [hcf, Nat.succ_mul]; omega
    rw [List.flatMap_cons, List.getElem?_append_right (by rw [hcf, Nat.succ_mul]; omega), e]
    exact fm_get hcf l j k x hk (by simpa using hj)
theorem fm_set {α : Type} {cf : α → List Value} {sz : Nat} (hcf : ∀ x, (cf x).length = sz) (A B : List α) (x x' : α) (k : Nat) (u : Value) (hk : k < sz) (hx : (cf x).set k u = cf x') : ((A ++ x :: B).flatMap cf).set (A.length * sz + k) u = (A ++ x' :: B).flatMap cf := by
  rw [List.flatMap_append, List.flatMap_append, List.set_append_right _ _ (by rw [fm_len hcf]; omega), fm_len hcf, show A.length * sz + k - A.length * sz = k by omega, List.flatMap_cons, List.flatMap_cons, List.set_append_left _ _ (by rw [hcf]; exact hk), hx]
/-- a row of one's own -/
structure RW {α : Type} (e sz : Nat) (cf : α → List Value) (K : Nat → Nat) (w : World) (B t : Nat) (v : Value) (l : List α) : Prop where
  own : w.ownsRow B e sz v l.length (l.flatMap cf)
  k : ∀ g, v.ownBlock = some g → K g = t
section
variable {α : Type} {e sz : Nat} {cf : α → List Value} {K K' : Nat → Nat} {w w' : World} {B t : Nat} {v : Value} {l : List α}
theorem RW.mv {T : Nat → Prop} (h : RW e sz cf K w B t v l) (m : Mv T w w' K K') (ht : ¬ T t) : RW e sz cf K' w' B t v l :=
  ⟨own_block h.own (fun g hg => m.kept g (h.own.lt g hg).2 (by rw [h.k g hg]; exact ht)), fun g hg => (m.old g (h.own.lt g hg).2).trans (h.k g hg)⟩
theorem RW.nil (e sz : Nat) (cf : α → List Value) (K : Nat → Nat) (w : World) (B t : Nat) : RW e sz cf K w B t (.slice none 0 0) [] := ⟨⟨by simp, .inl ⟨rfl, rfl⟩⟩, fun g hg => by cases hg⟩
theorem RW.form (h : RW e sz cf K w B t v l) : ∃ oa cap, v = .slice oa l.length cap ∧ l.length ≤ cap ∧ (0 < l.length → ∃ g, oa = some ⟨g, 0, none⟩) := by
  rcases h.own.2 with ⟨e1, e2⟩ | ⟨g, cap, _, e1, _, _, e4, _⟩
  · exact ⟨none, 0, by rw [e2]; exact e1, by omega, fun h => by omega⟩
  · exact ⟨_, cap, e1, e4, fun _ => ⟨g, rfl⟩⟩
theorem RW.cell (hcf : ∀ x, (cf x).length = sz) {g cap n : Nat} (h : RW e sz cf K w B t (.slice (some ⟨g, 0, none⟩) n cap) l) (hn : l.length = n) {j : Nat} {x : α} (hx : l[j]? = some x) (k : Nat) (hk : k < sz) : w.cell? ⟨g, j * sz + k, none⟩ = (cf x)[k]? := by
  have hj : j < l.length := (List.getElem?_eq_some_iff.1 hx).1
  have ho := h.own
  subst hn
  rw [ho.cellAt (j * sz + k) (by have := Nat.mul_le_mul_right sz (show j + 1 ≤ l.length by omega); rw [Nat.succ_mul] at this; omega), fm_get hcf l j k x hk hx]
theorem RW.app {ty : TypeId} {i : TypeInfo} {z : Value} {bytes : Nat} (hty : Tryz.prog.underlying ty = some (.slice e)) (hi : Tryz.prog.info? e = some i) (hz : i.zero = some z) (hs : i.size = sz) (hby : i.bytes = bytes) (hzs : z.cells.size = sz) (hsz : 0 < sz) (hcf : ∀ x, (cf x).length = sz) (h1 : ∀ x, ∀ u ∈ cf x, u.oneCell' = true)
    (h : RW e sz cf K w B t v l) (hB : B ≤ w.heap.size) {N : Nat} {x : α} {cs : Array Value} (hcs : cs.toList = cf x) (hb : w.heap[N]? = some (.cells cs e (0, 0))) (hm : (l.length + 1) * bytes ≤ 140737488355328) (hm2 : l.length + 1 ≤ 1000000000000) :
    ∃ v' w' K', (∀ r, (Builtin.append_ #[ty, ty] r #[v, .slice (some ⟨N, 0, none⟩) 1 1]).run Tryz.prog w = .ok v' w') ∧ RW e sz cf K' w' B t v' (l ++ [x]) ∧ Mv (fun x => x = t) w w' K K' := by
  obtain ⟨v', w', hr, ho, hg, _, hat⟩ := run_append_own_at (P := Tryz.prog) w B ty 0 e i z sz bytes hty hi hz hs hby hzs hsz v l.length (l.flatMap cf) h.own ⟨N, 0, none⟩ 1 1 (cf x) (by rw [hcf, Nat.one_mul]) (by rw [← hcs]; exact World.news_of_block hb) (h1 x) (by unfold maxLen; omega) hm hB
  refine ⟨v', w', ext w K (fun _ => t), fun r => hr, ⟨?_, fun g hg2 => ?_⟩, ⟨hg.os, hg.tape, hg.output, hg.size, fun _ hb => ext_old hb, fun b hb ht => hg.block b hb (fun e2 => ht (h.k b e2.symm))⟩⟩
  · rw [List.flatMap_append]
    simpa using ho
  · rcases hat with e2 | e2
    · rw [e2] at hg2
      have := (h.own.lt g hg2).2
      rw [ext_old this]; exact h.k g hg2
    · rw [e2] at hg2
      cases hg2
      exact ext_new (Nat.le_refl _)
theorem RW.set1 (hcf : ∀ x, (cf x).length = sz) {g cap n : Nat} {L1 L2 : List α} {x x' : α} (h : RW e sz cf K w B t (.slice (some ⟨g, 0, none⟩) n cap) (L1 ++ x :: L2)) (hn : (L1 ++ x :: L2).length = n) (k : Nat) (u : Value) (hk : k < sz) (hx : (cf x).set k u = cf x') :
    RW e sz cf K (w.setCell ⟨g, L1.length * sz + k, none⟩ u) B t (.slice (some ⟨g, 0, none⟩) n cap) (L1 ++ x' :: L2) ∧ Mv (fun y => y = t) w (w.setCell ⟨g, L1.length * sz + k, none⟩ u) K K := by
  have ho := h.own
  subst hn
  have s1 := ho.stored (L1.length * sz + k) u
  refine ⟨⟨?_, h.k⟩, Mv.of_set w K _ _ (h.k g rfl)⟩
  have := s1.1
  rw [fm_set hcf L1 L2 x x' k u hk hx] at this
  simpa using this
end
theorem mv_drewN (w : World) (K : Nat → Nat) (m : Nat) : Mv (fun _ => False) w (w.drewN m) K K := ⟨rfl, rfl, rfl, Nat.le_refl _, fun _ _ => rfl, fun _ _ _ => rfl⟩
theorem wrapS {j : Nat} (h : j ≤ 100000000000) : wrap64 ((j : Int) + 1) = (j : Int) + 1 := by unfold wrap64; omega
end Go.Proofs.YtfcbjcebkahehaaGreatDoor.Cl
namespace Go.Proofs.YtfcbjcebkahehaaGreatDoor.Cl
open Go.RowKit
def inB (n l h : Int) : Bool := decide (l ≤ n) && decide (n ≤ h)
theorem within_any (w : World) (n l h : Int) : Calls Tryz.prog 73 #[.int .i64 n, .int .i64 l, .int .i64 h] w fun e w' => e = .returned (.bool (inB n l h)) ∧ w' = w := by
  unfold inB
  cases h1 : decide (l ≤ n) <;> cases h2 : decide (n ≤ h)
  all_goals (
    go_enter Tryz.func73, Tryz.ntmps73
    go_wp2
    go_ret
    exact ⟨rfl, rfl⟩)
theorem address_any (w : World) (n : Int) : Calls Tryz.prog 72 #[.int .i64 n] w fun e w' => e = .returned (.bool (inB n 1 16777215)) ∧ w' = w := by
  have H := hid (within_any w n 1 16777215)
  generalize inB n 1 16777215 = b at *
  go_enter Tryz.func72, Tryz.ntmps72
  go_wp2_with fail
  refine H.out.mono ?_
  rintro _ w' ⟨rfl, hw'⟩
  subst hw'
  go_wp2
  go_ret
  exact ⟨rfl, rfl⟩
theorem word_any (w : World) (n : Int) : Calls Tryz.prog 92 #[.int .i64 n] w fun e w' => e = .returned (.bool (inB n 0 4294967295)) ∧ w' = w := by
  have H := hid (within_any w n 0 4294967295)
  generalize inB n 0 4294967295 = b at *
  go_enter Tryz.func92, Tryz.ntmps92
  go_wp2_with fail
  refine H.out.mono ?_
  rintro _ w' ⟨rfl, hw'⟩
  subst hw'
  go_wp2
  go_ret
  exact ⟨rfl, rfl⟩
end Go.Proofs.YtfcbjcebkahehaaGreatDoor.Cl
namespace Go.Proofs.YtfcbjcebkahehaaGreatDoor.Cl
open Go.RowKit
structure Cf where
  ad : Int
  inst : Int
  first : Int
  win : Int
  pb : Int
  pc : Int
  pt : Int
  sys : SysP
abbrev cfA (c : Cf) (oa : Option Addr) (cap : Nat) : Array Value := #[.int .i64 c.ad, .int .i64 c.inst, .int .i64 c.first, .int .i64 c.win, .int .i64 c.pb, .int .i64 c.pc, .int .i64 c.pt, .int .i64 c.sys.stamp, .string ⟨c.sys.machine.toArray⟩, .int .i64 c.sys.user, .int .i64 c.sys.group, .slice oa c.sys.groups.length cap]
def okC (c : Cf) : Bool := decide c.sys.may && (inB c.ad 1 16777215 && (inB c.inst 1 4611686018427387904 && (inB c.first 1 4294967295 && (inB c.win 1 64 && Pc.rightP c.pb c.pc c.pt))))
theorem prS_is (s : SysP) : ∃ fl bo, prV 1 (printS s) = .tuple #[.agg #[.int .i64 fl, .string bo], .int .i64 (if decide s.may then 0 else 110)] := by
  unfold printS
  by_cases h : s.may
  · rw [if_pos h, decide_eq_true h]; exact ⟨_, _, rfl⟩
  · rw [if_neg h, decide_eq_false h]; exact ⟨_, _, rfl⟩
set_option maxRecDepth 8000 in
set_option maxHeartbeats 4000000 in
theorem mayBe_any (c : Cf) (oa : Option Addr) (cap : Nat) (w : World) (hT : ErrT w) (hg : GsAt w w.heap.size oa c.sys.groups) (hcap : c.sys.groups.length ≤ cap) (hlen : (c.sys.groups.length : Int) ≤ 9223372036854775807) :
    Calls Tryz.prog 44 #[.agg (cfA c oa cap)] w fun e w' => e = .returned (.bool (okC c)) ∧ Below w.heap.size w w' := by
  obtain ⟨w0, hw0⟩ : ∃ w0, w.alloc (.cells (cfA c oa cap) 28) = w0 := ⟨_, rfl⟩
  obtain ⟨S0, hS0⟩ : ∃ S0, w.heap.size = S0 := ⟨_, rfl⟩
  have B0 : Below w.heap.size w w0 := by rw [← hw0]; exact (Below.refl _ _).alloc (Nat.le_refl _) _
  have k0 : w0.heap[S0]? = some (.cells (cfA c oa cap) 28) := by rw [← hw0, ← hS0]; exact (MapKept.heap_alloc w _).1
  have hlt : S0 < w0.heap.size := (Array.getElem?_eq_some_iff.1 k0).1
  obtain ⟨fl, bo, hprs⟩ := prS_is c.sys
  have HP : Hid (Calls Tryz.prog 71 #[.agg #[.int .i64 c.sys.stamp, .string ⟨c.sys.machine.toArray⟩, .int .i64 c.sys.user, .int .i64 c.sys.group, .slice oa c.sys.groups.length cap]] w0 fun e w' => e = .returned (.tuple #[.agg #[.int .i64 fl, .string bo], .int .i64 (if decide c.sys.may then 0 else 110)]) ∧ Below w0.heap.size w0 w') := by
    have := printSys_any c.sys oa cap w0 (hT.below B0) (fun h0 => by
      obtain ⟨q, off, e1, e2, e3⟩ := (hg.below B0) h0
      exact ⟨q, off, e1, Nat.lt_of_lt_of_le e2 B0.size, e3⟩) hcap hlen
    rw [hprs] at this
    exact this
  have hc : ∀ w', Below w0.heap.size w0 w' → ∀ k v, (cfA c oa cap)[k]? = some v → w'.cell? ⟨S0, k, none⟩ = some v := fun w' hb k v hk => by
    unfold World.cell?
    rw [hb.block S0 hlt, k0]
    exact hk
  have HB : Hid (∀ w', Below w0.heap.size w0 w' → Below w.heap.size w w') := fun w' hb => B0.trans (hb.mono B0.size)
  have p0 := hc w0 (Below.refl _ _) 7 _ rfl
  have p1 := hc w0 (Below.refl _ _) 8 _ rfl
  have p2 := hc w0 (Below.refl _ _) 9 _ rfl
  have p3 := hc w0 (Below.refl _ _) 10 _ rfl
  have p4 := hc w0 (Below.refl _ _) 11 _ rfl
  have HC := hid hc
  obtain ⟨b0, hb0⟩ : ∃ b, decide c.sys.may = b := ⟨_, rfl⟩
  obtain ⟨b1, hb1⟩ : ∃ b, inB c.ad 1 16777215 = b := ⟨_, rfl⟩
  obtain ⟨b2, hb2⟩ : ∃ b, inB c.inst 1 4611686018427387904 = b := ⟨_, rfl⟩
  obtain ⟨b3, hb3⟩ : ∃ b, inB c.first 1 4294967295 = b := ⟨_, rfl⟩
  obtain ⟨b4, hb4⟩ : ∃ b, inB c.win 1 64 = b := ⟨_, rfl⟩
  obtain ⟨b5, hb5⟩ : ∃ b, Pc.rightP c.pb c.pc c.pt = b := ⟨_, rfl⟩
  have H1 : Hid (∀ w, Calls Tryz.prog 72 #[.int .i64 c.ad] w fun e w' => e = .returned (.bool b1) ∧ w' = w) := fun w => by rw [← hb1]; exact address_any w _
  have H2 : Hid (∀ w, Calls Tryz.prog 73 #[.int .i64 c.inst, .int .i64 1, .int .i64 4611686018427387904] w fun e w' => e = .returned (.bool b2) ∧ w' = w) := fun w => by rw [← hb2]; exact within_any w _ _ _
  have H3 : Hid (∀ w, Calls Tryz.prog 73 #[.int .i64 c.first, .int .i64 1, .int .i64 4294967295] w fun e w' => e = .returned (.bool b3) ∧ w' = w) := fun w => by rw [← hb3]; exact within_any w _ _ _
  have H4 : Hid (∀ w, Calls Tryz.prog 73 #[.int .i64 c.win, .int .i64 1, .int .i64 64] w fun e w' => e = .returned (.bool b4) ∧ w' = w) := fun w => by rw [← hb4]; exact within_any w _ _ _
  have H5 : Hid (∀ w, Calls Tryz.prog 74 #[.agg #[.int .i64 c.pb, .int .i64 c.pc, .int .i64 c.pt]] w fun e w' => e = .returned (.bool b5) ∧ Below w.heap.size w w') := fun w => by rw [← hb5]; exact Pc.right_any w _ _ _
  have hok : okC c = (b0 && (b1 && (b2 && (b3 && (b4 && b5))))) := by unfold okC; rw [hb0, hb1, hb2, hb3, hb4, hb5]
  rw [hok]
  rw [hb0] at HP
  have HZ := hid (And.intro hlt k0)
  clear hT hg hcap hlen B0 k0 hc hb0 hb1 hb2 hb3 hb4 hb5 hok hlt hprs
  go_enter Tryz.func44, Tryz.ntmps44
  go_wp2_with fail
  refine HP.out.mono ?_
  rintro _ w1 ⟨rfl, hb1⟩
  obtain ⟨S2, hS2⟩ : ∃ S2, w1.heap.size = S2 := ⟨_, rfl⟩
  obtain ⟨w2, hw2⟩ : ∃ w2, w1.alloc (.cells #[.int .i64 0, .string ⟨#[]⟩] 44) = w2 := ⟨_, rfl⟩
  obtain ⟨w3, hw3⟩ : ∃ w3, w2.setCell ⟨S2, 0, none⟩ (.int .i64 fl) = w3 := ⟨_, rfl⟩
  obtain ⟨w4, hw4⟩ : ∃ w4, w3.setCell ⟨S2, 1, none⟩ (.string bo) = w4 := ⟨_, rfl⟩
  have k2 : w2.heap[S2]? = some (.cells #[.int .i64 0, .string ⟨#[]⟩] 44) := by rw [← hw2, ← hS2]; exact (MapKept.heap_alloc w1 _).1
  have k3 : w3.heap[S2]? = some (.cells #[.int .i64 fl, .string ⟨#[]⟩] 44) := by rw [← hw3]; unfold World.setCell; simp [Array.getElem?_modify, k2]
  have c20 : w2.cell? ⟨S2, 0, none⟩ = some (.int .i64 0) := by unfold World.cell?; rw [k2]; rfl
  have c21 : w2.cell? ⟨S2, 1, none⟩ = some (.string ⟨#[]⟩) := by unfold World.cell?; rw [k2]; rfl
  have c31 : w3.cell? ⟨S2, 1, none⟩ = some (.string ⟨#[]⟩) := by unfold World.cell?; rw [k3]; rfl
  have f2 : ∀ n, w2.frozen? ⟨S2, n, none⟩ = false := fun n => by unfold World.frozen?; rw [k2]; rfl
  have f3 : ∀ n, w3.frozen? ⟨S2, n, none⟩ = false := fun n => by unfold World.frozen?; rw [k3]; rfl
  have hB4 : Below w0.heap.size w0 w4 := by
    have hs := hb1.size
    have b2 : Below w0.heap.size w0 w2 := by rw [← hw2]; exact hb1.alloc hs _
    refine ⟨?_, ?_, ?_, ?_, fun b hb => ?_⟩
    · rw [← hw4, ← hw3]; exact b2.os
    · rw [← hw4, ← hw3]; exact b2.tape
    · rw [← hw4, ← hw3]; exact b2.output
    · rw [← hw4, ← hw3]; simpa [World.setCell] using b2.size
    · rw [← hw4, Below.heap_setCell _ _ _ _ (show b ≠ S2 by omega), ← hw3, Below.heap_setCell _ _ _ _ (show b ≠ S2 by omega)]; exact b2.block b hb
  have q0 := HC.out w4 hB4 0 _ rfl
  have q1 := HC.out w4 hB4 1 _ rfl
  have q2 := HC.out w4 hB4 2 _ rfl
  have q3 := HC.out w4 hB4 3 _ rfl
  have q4 := HC.out w4 hB4 4 _ rfl
  have q5 := HC.out w4 hB4 5 _ rfl
  have q6 := HC.out w4 hB4 6 _ rfl
  have HBE := hid (HB.out w4 hB4)
  clear hb1 k2 k3 hB4 HC HP p0 p1 p2 p3 p4 HZ HB
  cases b0
  · go_wp2
    go_ret
    exact ⟨rfl, HBE.out⟩
  · go_wp2_with fail
    refine (H1.out _).mono ?_
    rintro _ v1 ⟨rfl, hv1⟩
    rw [hv1]
    clear hv1 v1
    cases b1
    · go_wp2
      go_ret
      exact ⟨rfl, HBE.out⟩
    · go_wp2_with fail
      refine (H2.out _).mono ?_
      rintro _ v2 ⟨rfl, hv2⟩
      rw [hv2]
      clear hv2 v2
      cases b2
      · go_wp2
        go_ret
        exact ⟨rfl, HBE.out⟩
      · go_wp2_with fail
        refine (H3.out _).mono ?_
        rintro _ v3 ⟨rfl, hv3⟩
        rw [hv3]
        clear hv3 v3
        cases b3
        · go_wp2
          go_ret
          exact ⟨rfl, HBE.out⟩
        · go_wp2_with fail
          refine (H4.out _).mono ?_
          rintro _ v4 ⟨rfl, hv4⟩
          rw [hv4]
          clear hv4 v4
          cases b4
          · go_wp2
            go_ret
            exact ⟨rfl, HBE.out⟩
          · go_wp2_with fail
            refine (H5.out _).mono ?_
            rintro _ v5 ⟨rfl, hv5⟩
            have HV5 : Hid (Below w.heap.size w v5) := HBE.out.trans (hv5.mono HBE.out.size)
            clear hv5
            cases b5
            all_goals (
              go_wp2
              go_ret
              exact ⟨rfl, HV5.out⟩)
end Go.Proofs.YtfcbjcebkahehaaGreatDoor.Cl
namespace Go.Proofs.YtfcbjcebkahehaaGreatDoor.Cl
open Go.RowKit
theorem info3 : ∃ i : TypeInfo, Tryz.prog.info? 3 = some i ∧ i.zero = some (.int .i64 0) ∧ i.size = 1 ∧ i.bytes = 8 :=
  ⟨(Tryz.prog.info? 3).getD default, by kernel_rfl, by kernel_rfl, by kernel_rfl, by kernel_rfl⟩
theorem bls24 (w : World) : (Instr.buildSlice 24 0 #[]).run Tryz.prog w = .ok (.slice (some ⟨w.heap.size, 0, none⟩) 0 0) (w.alloc (.cells #[] 3)) := by kernel_rfl
def gvs (gs : List Int) : List Value := gs.map fun g => .int .i64 g
/-- numbers in new memory -/
def GsN (w : World) (lo : Nat) (oa : Option Addr) (gs : List Int) : Prop := 0 < gs.length → ∃ q off, oa = some ⟨q, off, none⟩ ∧ lo ≤ q ∧ q < w.heap.size ∧ ∀ i, i < gs.length → w.cell? ⟨q, off + i, none⟩ = some (.int .i64 (gs.getD i 0))
theorem GsN.at_ {w : World} {lo : Nat} {oa : Option Addr} {gs : List Int} (h : GsN w lo oa gs) : GsAt w w.heap.size oa gs := fun h0 => by
  obtain ⟨q, off, e1, e2, e3, e4⟩ := h h0
  exact ⟨q, off, e1, e3, e4⟩
theorem GsN.lo {w : World} {lo lo' : Nat} {oa : Option Addr} {gs : List Int} (h : GsN w lo oa gs) (hl : lo' ≤ lo) : GsN w lo' oa gs := fun h0 => by
  obtain ⟨q, off, e1, e2, e3, e4⟩ := h h0
  exact ⟨q, off, e1, Nat.le_trans hl e2, e3, e4⟩
theorem GsN.kept {w w' : World} {lo : Nat} {oa : Option Addr} {gs : List Int} (h : GsN w lo oa gs) (hs : w.heap.size ≤ w'.heap.size) (hb : ∀ q, lo ≤ q → q < w.heap.size → (∃ off, oa = some ⟨q, off, none⟩) → w'.heap[q]? = w.heap[q]?) : GsN w' lo oa gs := fun h0 => by
  obtain ⟨q, off, e1, e2, e3, e4⟩ := h h0
  exact ⟨q, off, e1, e2, Nat.lt_of_lt_of_le e3 hs, fun i hi => (World.cell?_of_block (a := ⟨q, off + i, none⟩) (hb q e2 e3 ⟨off, e1⟩)).trans (e4 i hi)⟩
theorem gapp_any (gs : List Int) (q off cap : Nat) (w : World) (S : Nat) (hq : ∀ i, i < gs.length → w.cell? ⟨q, off + i, none⟩ = some (.int .i64 (gs.getD i 0))) (hl : gs.length ≤ 1000000) :
    ∃ oa c w', (∀ ty, (Builtin.append_ #[24, 24] ty #[.slice (some ⟨S, 0, none⟩) 0 0, .slice (some ⟨q, off, none⟩) gs.length cap]).run Tryz.prog w = .ok (.slice oa gs.length c) w') ∧ gs.length ≤ c ∧ GsN w' w.heap.size oa gs ∧ Below w.heap.size w w' ∧ (oa = some ⟨S, 0, none⟩ ∨ (oa = some ⟨w.heap.size, 0, none⟩ ∧ w.heap.size < w'.heap.size)) := by
  obtain ⟨i, hi, hz, hs, hby⟩ := info3
  rcases Nat.eq_zero_or_pos gs.length with h0 | h0
  · refine ⟨some ⟨S, 0, none⟩, 0, w, fun ty => ?_, by omega, fun h => by omega, Below.refl _ _, .inl rfl⟩
    rw [h0]
    simp [Builtin.append_, run_underlying Tryz.underlying24, sizeOf, typeInfo, hi, Builtin.lenOf, Builtin.firstCells, loadCells, loadCellsFrom, storeCells]
  · have hge := grownCap_ge w gs.length 0 3
    have hcm : grownCap w gs.length 0 3 ≤ maxLen := grownCap_le_maxLen w _ _ _ (by unfold maxLen; omega)
    have hgl : (gvs gs).length = gs.length := by unfold gvs; simp
    have hcells : ∀ j v, (gvs gs)[j]? = some v → w.cell? ((⟨q, off, none⟩ : Addr).add j) = some v := fun j v hv => by
      have hj : j < gs.length := by have := (List.getElem?_eq_some_iff.1 hv).1; omega
      rw [Addr.add_lit, hq j hj]
      unfold gvs at hv
      rw [List.getElem?_map, List.getElem?_eq_getElem hj] at hv
      simp at hv
      rw [← hv]
      simp [List.getD, List.getElem?_eq_getElem hj]
    have key := fun ty => run_append_grow (P := Tryz.prog) w 24 ty 3 i _ Tryz.underlying24 hi hz ⟨S, 0, none⟩ 0 0 [] (by simp) (fun j v hv => by simp at hv) ⟨q, off, none⟩ gs.length cap (gvs gs) (by rw [hgl, hs, Nat.mul_one]) hcells (by omega) (by omega) (by rw [hby]; exact growslice_fits (by omega) (by omega))
    simp only [Nat.zero_add, Array.empty_append] at key
    refine ⟨_, _, _, key, hge, fun _ => ⟨w.heap.size, 0, rfl, Nat.le_refl _, by simp, fun j hj => ?_⟩, ⟨rfl, rfl, rfl, by simp, fun k hk => Below.heap_alloc w.drew _ k hk⟩, .inr ⟨rfl, by simp⟩⟩
    rw [Nat.zero_add]
    have hnew := heap_alloc_new w.drew (.cells ((gvs gs).toArray ++ Builtin.zeroCells (Value.int IntKind.i64 0).cells (grownCap w gs.length 0 3 - gs.length)) 3)
    unfold World.cell?
    rw [show (w.drew.alloc (.cells ((gvs gs).toArray ++ Builtin.zeroCells (Value.int IntKind.i64 0).cells (grownCap w gs.length 0 3 - gs.length)) 3)).heap[w.heap.size]? = _ from hnew]
    show ((gvs gs).toArray ++ _)[j]? = _
    rw [Array.getElem?_append_left (by simpa [gvs] using hj)]
    unfold gvs
    simp [List.getD, List.getElem?_eq_getElem hj]
set_option maxRecDepth 8000 in
theorem gclone_any (gs : List Int) (oa : Option Addr) (cap : Nat) (w : World) (hg : GsAt w w.heap.size oa gs) (hn : ∀ a, oa = some a → a.spot = none) (hl : gs.length ≤ 1000000) :
    Calls Tryz.prog 46 #[.slice oa gs.length cap] w fun e w' => ∃ oa' cap', e = .returned (.slice oa' gs.length cap') ∧ gs.length ≤ cap' ∧ GsN w' w.heap.size oa' gs ∧ Below w.heap.size w w' ∧ (∀ a, oa' = some a → a.spot = none ∧ w.heap.size ≤ a.block ∧ a.block < w'.heap.size) := by
  cases oa with
  | none =>
    have h0 : gs.length = 0 := by
      rcases Nat.eq_zero_or_pos gs.length with h | h
      · exact h
      · obtain ⟨q, off, e, _⟩ := hg h; cases e
    rw [h0]
    have HE : Hid (gs.length ≤ 0 ∧ GsN w w.heap.size none gs ∧ Below w.heap.size w w ∧ (∀ a : Addr, none = some a → a.spot = none ∧ w.heap.size ≤ a.block ∧ a.block < w.heap.size)) := ⟨by omega, fun h => by omega, Below.refl _ _, fun a h => by cases h⟩
    rw [h0] at HE
    have he : ∀ w : World, (binOp .eql 24 (.slice none 0 cap) (.slice none 0 0)).run Tryz.prog w = .ok (.bool true) w := fun _ => by kernel_rfl
    clear hg hn hl h0
    go_enter Tryz.func46, Tryz.ntmps46
    go_wp2
    go_ret
    exact ⟨none, 0, rfl, HE.out⟩
  | some a =>
    obtain ⟨q, off, sp⟩ := a
    obtain rfl : sp = none := hn _ rfl
    obtain ⟨w0, hw0⟩ : ∃ w0, w.alloc (.cells #[] 3) = w0 := ⟨_, rfl⟩
    obtain ⟨S, hS⟩ : ∃ S, w.heap.size = S := ⟨_, rfl⟩
    have B0 : Below w.heap.size w w0 := by rw [← hw0]; exact (Below.refl _ _).alloc (Nat.le_refl _) _
    obtain ⟨oa', c', w1, hr, hc', hg', hb', hsp0⟩ := gapp_any gs q off cap w0 S (fun i hi => by
      obtain ⟨q', off', e1, e2, e3⟩ := (hg.below B0) (by omega)
      cases e1
      exact e3 i hi) hl
    have hsp : ∀ a, oa' = some a → a.spot = none ∧ w.heap.size ≤ a.block ∧ a.block < w1.heap.size := fun a ha => by
      have hz := B0.size
      have hz1 := hb'.size
      have hz0 : w0.heap.size = S + 1 := by rw [← hw0, ← hS]; simp
      rcases hsp0 with e | ⟨e, e2⟩
      · rw [e] at ha; cases ha; exact ⟨rfl, Nat.le_of_eq hS, by show S < _; omega⟩
      · rw [e] at ha; cases ha; exact ⟨rfl, hz, e2⟩
    have HR := hid hr
    have HE : Hid (gs.length ≤ c' ∧ GsN w1 w.heap.size oa' gs ∧ Below w.heap.size w w1 ∧ (∀ a, oa' = some a → a.spot = none ∧ w.heap.size ≤ a.block ∧ a.block < w1.heap.size)) := ⟨hc', hg'.lo B0.size, B0.trans (hb'.mono B0.size), hsp⟩
    have he : ∀ w : World, (binOp .eql 24 (.slice (some ⟨q, off, none⟩) gs.length cap) (.slice none 0 0)).run Tryz.prog w = .ok (.bool false) w := fun _ => by kernel_rfl
    have hb := bls24
    generalize gs.length = n at *
    clear hg hn hl hr hc' hg' hb' B0 hsp0 hsp
    go_enter Tryz.func46, Tryz.ntmps46
    go_wp2_with (at_builtin; refine Hid.out ?_)
    refine (show Hid _ from ?_)
    refine wpList_app rfl _ _ 24 rfl _ _ _ _ rfl rfl (HR.out _) ?_
    go_wp2
    go_ret
    exact ⟨oa', c', rfl, HE.out⟩
theorem bld136 (w : World) : (Instr.build 136 #[]).run Tryz.prog w = .ok (.agg #[.bool false, .float .f32 0, .float .f32 0]) w := by kernel_rfl
end Go.Proofs.YtfcbjcebkahehaaGreatDoor.Cl
namespace Go.Proofs.YtfcbjcebkahehaaGreatDoor.Cl
open Go.RowKit
abbrev meB : Obj := .cells #[.bool false, .float .f32 0, .float .f32 0] 136
abbrev clB (c : Cf) (oa : Option Addr) (cap : Nat) (next now : Int) (vw vd : Value) (q : Nat) : Obj := .cells #[.int .i64 c.ad, .int .i64 c.inst, .int .i64 c.first, .int .i64 c.win, .int .i64 c.pb, .int .i64 c.pc, .int .i64 c.pt, .int .i64 c.sys.stamp, .string ⟨c.sys.machine.toArray⟩, .int .i64 c.sys.user, .int .i64 c.sys.group, .slice oa c.sys.groups.length cap, .int .i64 next, .int .i64 now, vw, vd, ptr q] 96
theorem meter_any (w : World) : Calls Tryz.prog 47 #[] w fun e w' => e = .returned (ptr w.heap.size) ∧ w' = w.alloc meB := by
  have hb := bld136
  obtain ⟨w0, hw0⟩ : ∃ w0, w.alloc meB = w0 := ⟨_, rfl⟩
  obtain ⟨S, hS⟩ : ∃ S, w.heap.size = S := ⟨_, rfl⟩
  rw [hw0, hS]
  go_enter Tryz.func47, Tryz.ntmps47
  go_wp2
  go_ret
  exact ⟨rfl, rfl⟩
theorem bld96b (c : Cf) (oa : Option Addr) (cap q : Nat) (w : World) : (Instr.build 96 #[(0, .agg (cfA c oa cap)), (1, .int .i64 c.first), (5, ptr q)]).run Tryz.prog w = .ok (.agg #[.int .i64 c.ad, .int .i64 c.inst, .int .i64 c.first, .int .i64 c.win, .int .i64 c.pb, .int .i64 c.pc, .int .i64 c.pt, .int .i64 c.sys.stamp, .string ⟨c.sys.machine.toArray⟩, .int .i64 c.sys.user, .int .i64 c.sys.group, .slice oa c.sys.groups.length cap, .int .i64 c.first, .int .i64 0, .slice none 0 0, .slice none 0 0, ptr q]) w := by kernel_rfl
end Go.Proofs.YtfcbjcebkahehaaGreatDoor.Cl
