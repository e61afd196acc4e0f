/- A shelf in memory: what stays, what a new thing, another value, a thing taken away make of it. -/
import Derived.Test.YtkkamilmjaochaaPAa
namespace Go.Proofs.Ytkkamilmjaochaa
open Go.RowKit
theorem meas {n j : Nat} {q : Int} (hq : q = (j : Int) + 1) (hj : (j : Int) < (n : Int)) : n - (intOf (.int .i64 q)).toNat < n - (intOf (.int .i64 (j : Int))).toNat := by
  show n - q.toNat < n - (j : Int).toNat
  omega
/-- append in a region that draws, its run being known -/
theorem step_app {P : Program} {ops : Array Oper} {o : Oper} {a : Act} {w : World} {K : Act → World → Prop} {Q : Exit → Act → World → Prop} {E : Prop}
    (hg : o.guard = none) (s x : Operand) (t : TypeId) (hop : o.op = Op.call { callee := Callee.builtin Builtin.append, args := #[s, x], argTypes := #[t, t] })
    (v1 v2 r : Value) (w' : World) (hs : a.eval s = v1) (hx : a.eval x = v2) (hrun : (Builtin.append_ #[t, t] o.type #[v1, v2]).run P w = .ok r w') (hK : K (a.put o.dst r) w') :
    if Region.wanted o (yielded ops a.tmps) = true then Oper.wp P o a w K Q else E := by
  have hw : Region.wanted o (yielded ops a.tmps) = true := by simp [Region.wanted, hg]
  rw [if_pos hw]
  unfold Oper.wp
  simp [execOp, hop, resolve, invoke, builtin, hs, hx, hrun, Result.andThen]
  exact hK
theorem wpList_app {P : Program} {ops : Array Oper} {rest : List Oper} {o : Oper} {a : Act} {Q : Exit → Act → World → Prop} {w : World} (hgd : o.guard = none) (s x : Operand) (t : TypeId)
    (ho : o.op = .call { callee := .builtin .append, args := #[s, x], argTypes := #[t, t] }) (v1 v2 r : Value) (w' : World) (hs : a.eval s = v1) (hx : a.eval x = v2) (hrun : (Builtin.append_ #[t, t] o.type #[v1, v2]).run P w = .ok r w')
    (h : wpList P ops Q rest (a.put o.dst r) w') : wpList P ops Q (o :: rest) a w := by
  refine wpList_plain hgd fun K hK => ?_
  unfold Oper.wp execOp
  simp only [ho, resolve, invoke, builtin, Sem.run_bind, Sem.run_pure, Result.andThen_ok, List.map_toArray, List.map_cons, List.map_nil, hs, hx, hrun]
  exact hK _ _ h
theorem step_calls {P : Program} {ops : Array Oper} {o : Oper} {a : Act} {w : World} {K : Act → World → Prop} {Q : Exit → Act → World → Prop} {E : Prop} (hg : o.guard = none) (f : FuncId) (args : Array Value)
    (hrun : (execOp a.eval o).run P w = .ok (.enter f args) w) (post : Ending → World → Prop) (hC : Calls P f args w post) (h : ∀ e w', post e w' → ∃ v, e = .returned v ∧ K (a.put o.dst v) w') :
    if Region.wanted o (yielded ops a.tmps) = true then Oper.wp P o a w K Q else E := by
  have hw : Region.wanted o (yielded ops a.tmps) = true := by simp [Region.wanted, hg]
  rw [if_pos hw]
  unfold Oper.wp
  rw [hrun, Oper.upon_enter]
  refine hC.mono fun e w' hp => ?_
  obtain ⟨v, rfl, hk⟩ := h e w' hp
  exact hk

theorem run_call {P : Program} {o : Oper} {a : Act} {w : World} (f : FuncId) (xs : Array Operand) (ts : Array TypeId) (hop : o.op = Op.call { callee := .value (.func f), args := xs, argTypes := ts }) (args : Array Value) (ha : xs.map a.eval = args)
   (hcf : ∀ ys w, (callFunc f ys).run P w = .ok (.enter f ys) w) : (execOp a.eval o).run P w = .ok (.enter f args) w := by
  subst ha
  simp [execOp, hop, resolve, invoke, Act.eval, Deferred.ofValue, hcf]
/-- the same, told by its operands -/
theorem step_call {P : Program} {ops : Array Oper} {o : Oper} {a : Act} {w : World} {K : Act → World → Prop} {Q : Exit → Act → World → Prop} {E : Prop} (hg : o.guard = none) (f : FuncId) (xs : Array Operand) (ts : Array TypeId)
    (hop : o.op = Op.call { callee := .value (.func f), args := xs, argTypes := ts }) (args : Array Value) (ha : xs.map a.eval = args) (hcf : ∀ ys w, (callFunc f ys).run P w = .ok (.enter f ys) w) (post : Ending → World → Prop) (hC : Calls P f args w post) (h : ∀ e w', post e w' → ∃ v, e = .returned v ∧ K (a.put o.dst v) w') :
    if Region.wanted o (yielded ops a.tmps) = true then Oper.wp P o a w K Q else E := step_calls hg f args (run_call f xs ts hop args ha hcf) post hC h
theorem step_call3 {P : Program} {ops : Array Oper} {o : Oper} {a : Act} {w : World} {K : Act → World → Prop} {Q : Exit → Act → World → Prop} {E : Prop} (hg : o.guard = none) (f : FuncId) (x y z : Operand) (ts : Array TypeId)
    (hop : o.op = Op.call { callee := .value (.func f), args := #[x, y, z], argTypes := ts }) (u v t : Value) (hx : a.eval x = u) (hy : a.eval y = v) (hz : a.eval z = t) (hcf : ∀ ys w, (callFunc f ys).run P w = .ok (.enter f ys) w) (post : Ending → World → Prop) (hC : Calls P f #[u, v, t] w post) (h : ∀ e w', post e w' → ∃ v, e = .returned v ∧ K (a.put o.dst v) w') :
    if Region.wanted o (yielded ops a.tmps) = true then Oper.wp P o a w K Q else E := step_call hg f _ ts hop #[u, v, t] (by simp [hx, hy, hz]) hcf post hC h
theorem own_block {w w' : World} {base : Nat} {e : TypeId} {size : Nat} {v : Value} {n : Nat} {xs : List Value} (h : w.ownsRow base e size v n xs) (hb : ∀ g, v.ownBlock = some g → w'.heap[g]? = w.heap[g]?) : w'.ownsRow base e size v n xs := by
  refine ⟨h.1, ?_⟩
  rcases h.2 with hn | ⟨g, cap, cur, rfl, h1, h2, h3⟩
  · exact .inl hn
  · exact .inr ⟨g, cap, cur, rfl, h1, (hb g rfl).trans h2, h3⟩
theorem own_mono {w : World} {base base' : Nat} {e : TypeId} {size : Nat} {v : Value} {n : Nat} {xs : List Value} (h : w.ownsRow base e size v n xs) (hb : base' ≤ base) : w.ownsRow base' e size v n xs := by
  refine ⟨h.1, ?_⟩
  rcases h.2 with hn | ⟨g, cap, cur, rfl, h1, h2⟩
  · exact .inl hn
  · exact .inr ⟨g, cap, cur, rfl, Nat.le_trans hb h1, h2⟩
section
variable {κ ν : Type}
abbrev bs (L : List (Th κ ν)) : List Nat := L.map Th.b
theorem nodup_rev {l : List Nat} (h : l.Nodup) : l.reverse.Nodup := (List.reverse_perm l).nodup_iff.2 h
structure SH (I : Kd κ ν) (w : World) (p most m r : Nat) (L : List (Th κ ν)) : Prop where
  blk : w.heap[p]? = some (.cells #[.int .i64 most, .map (some m), ptr r] I.sty (0, 0))
  mp : MP I w m L
  nod : ∃ nx pv, Nodes I w nx pv (⟨r, I.zk, I.zv⟩ :: L) ∧ Path nx r (bs L) r ∧ Path pv r (bs L).reverse r
  nd : (r :: bs L).Nodup
  kd : (L.map Th.k).Nodup
  ok : ∀ t ∈ L, I.ok t.k
  len : L.length ≤ most
  m20 : most ≤ 1048576
abbrev foot (p m r : Nat) (L : List (Th κ ν)) : List Nat := p :: m :: r :: bs L
/-- a step that touches the blocks F alone, and new ones; behind it the blocks F' are its own -/
structure Chg (F F' : List Nat) (w w' : World) : Prop where
  os : w'.os = w.os
  tape : w'.tape = w.tape
  output : w'.output = w.output
  size : w.heap.size ≤ w'.heap.size
  kept : ∀ x, x < w.heap.size → x ∉ F → w'.heap[x]? = w.heap[x]?
  own : ∀ x, x ∈ F' → x ∈ F ∨ w.heap.size ≤ x
theorem Chg.refl (F : List Nat) (w : World) : Chg F F w w := ⟨rfl, rfl, rfl, Nat.le_refl _, fun _ _ _ => rfl, fun _ h => .inl h⟩
theorem Chg.drew (F : List Nat) (w : World) : Chg F F w w.drew := ⟨rfl, rfl, rfl, Nat.le_refl _, fun _ _ _ => rfl, fun _ h => .inl h⟩
theorem Chg.trans {F F' F'' : List Nat} {a b c : World} (h : Chg F F' a b) (k : Chg F' F'' b c) : Chg F F'' a c :=
  ⟨k.os.trans h.os, k.tape.trans h.tape, k.output.trans h.output, Nat.le_trans h.size k.size, fun x hx hF => (k.kept x (Nat.lt_of_lt_of_le hx h.size) (fun e => (h.own x e).elim hF (by omega))).trans (h.kept x hx hF),
    fun x hx => (k.own x hx).elim (h.own x) (fun e => .inr (Nat.le_trans h.size e))⟩
theorem Chg.of_below {w w' : World} (F : List Nat) (h : Below w.heap.size w w') : Chg F F w w' := ⟨h.os, h.tape, h.output, h.size, fun x hx _ => h.block x hx, fun _ h => .inl h⟩
variable {I : Kd κ ν} {w w' : World} {p most m r : Nat} {L : List (Th κ ν)}
theorem SH.node (h : SH I w p most m r L) {t : Th κ ν} (ht : t ∈ (⟨r, I.zk, I.zv⟩ :: L)) : ∃ a c, w.heap[t.b]? = some (I.nd t.k t.v a c) := by
  obtain ⟨nx, pv, h1, _⟩ := h.nod
  exact ⟨_, _, h1 t ht⟩
theorem SH.nodeB (h : SH I w p most m r L) {b : Nat} (hb : b ∈ r :: bs L) : ∃ k v a c, w.heap[b]? = some (I.nd k v a c) := by
  have : b ∈ (⟨r, I.zk, I.zv⟩ :: L : List (Th κ ν)).map Th.b := hb
  obtain ⟨t, ht, e⟩ := List.mem_map.1 this
  obtain ⟨a, c, h1⟩ := h.node ht
  rw [e] at h1
  exact ⟨_, _, _, _, h1⟩
theorem SH.lt (h : SH I w p most m r L) : ∀ x ∈ foot p m r L, x < w.heap.size := by
  intro x hx
  rcases List.mem_cons.1 hx with e | hx
  · rw [e]; exact (Array.getElem?_eq_some_iff.1 h.blk).1
  rcases List.mem_cons.1 hx with e | hx
  · obtain ⟨es, c, h1, _⟩ := h.mp; rw [e]; exact (Array.getElem?_eq_some_iff.1 h1).1
  · obtain ⟨_, _, _, _, h1⟩ := h.nodeB hx; exact (Array.getElem?_eq_some_iff.1 h1).1
theorem SH.pm (h : SH I w p most m r L) : p ≠ m := fun e => by
  obtain ⟨es, c, h1, _⟩ := h.mp
  have h2 := h.blk
  rw [e, h1] at h2
  cases h2
theorem SH.pn (h : SH I w p most m r L) {b : Nat} (hb : b ∈ r :: bs L) : p ≠ b := fun e => by
  obtain ⟨_, _, _, _, h1⟩ := h.nodeB hb
  have h2 := h.blk
  rw [e, h1] at h2
  exact I.notS _ _ _ _ _ (Option.some.inj h2)
theorem SH.mn (h : SH I w p most m r L) {b : Nat} (hb : b ∈ r :: bs L) : m ≠ b := fun e => by
  obtain ⟨_, _, _, _, h1⟩ := h.nodeB hb
  obtain ⟨es, c, h2, _⟩ := h.mp
  rw [e, h1] at h2
  exact I.notM _ _ _ _ _ _ (Option.some.inj h2)
theorem MP.kept (h : MP I w m L) (hm : w'.heap[m]? = w.heap[m]?) : MP I w' m L := by
  obtain ⟨es, c, h1, h2⟩ := h
  exact ⟨es, c, hm.trans h1, h2⟩
theorem SH.kept (h : SH I w p most m r L) (hk : ∀ x ∈ foot p m r L, w'.heap[x]? = w.heap[x]?) : SH I w' p most m r L := by
  obtain ⟨nx, pv, h1, h2, h3⟩ := h.nod
  exact ⟨(hk p (by simp)).trans h.blk, h.mp.kept (hk m (by simp)), ⟨nx, pv, fun t ht => (hk t.b (List.mem_cons_of_mem _ (List.mem_cons_of_mem _ (show t.b ∈ r :: bs L from List.mem_map.2 ⟨t, ht, rfl⟩)))).trans (h1 t ht), h2, h3⟩, h.nd, h.kd, h.ok, h.len, h.m20⟩
theorem SH.below (h : SH I w p most m r L) (hB : Below w.heap.size w w') : SH I w' p most m r L := h.kept fun x hx => hB.block x (h.lt x hx)
theorem SH.drewN (h : SH I w p most m r L) (n : Nat) : SH I (w.drewN n) p most m r L := h.kept fun _ _ => rfl
theorem SH.drew (h : SH I w p most m r L) : SH I w.drew p most m r L := h.kept fun _ _ => rfl
theorem SH.c0 (h : SH I w p most m r L) : w.cell? ⟨p, 0, none⟩ = some (.int .i64 most) := by unfold World.cell?; rw [h.blk]; rfl
theorem SH.c1 (h : SH I w p most m r L) : w.cell? ⟨p, 1, none⟩ = some (.map (some m)) := by unfold World.cell?; rw [h.blk]; rfl
theorem SH.c2 (h : SH I w p most m r L) : w.cell? ⟨p, 2, none⟩ = some (ptr r) := by unfold World.cell?; rw [h.blk]; rfl

theorem SH.ring (h : SH I w p most m r L) : w.heap[r]? = some (I.nd I.zk I.zv (ptr (lastOf r (bs L))) (ptr (headOf (bs L) r))) := by
  obtain ⟨nx, pv, h1, h2, h3⟩ := h.nod
  have := h1 ⟨r, I.zk, I.zv⟩ (by simp)
  have e1 := h2.head
  have e2 := h3.head
  rw [headOf_rev] at e2
  simp only [e1, e2] at this
  exact this
theorem SH.next (h : SH I w p most m r L) {j x : Nat} {t : Th κ ν} (hx : (r :: bs L)[j]? = some x) (ht : L[j]? = some t) : (∃ k v a, w.heap[x]? = some (I.nd k v a (ptr t.b))) ∧ ∃ a c, w.heap[t.b]? = some (I.nd t.k t.v a c) := by
  obtain ⟨nx, pv, h1, h2, h3⟩ := h.nod
  have e := h2.step (b := t.b) hx (by simp [ht])
  have hm : x ∈ (⟨r, I.zk, I.zv⟩ :: L : List (Th κ ν)).map Th.b := List.mem_of_getElem? hx
  obtain ⟨u, hu, e1⟩ := List.mem_map.1 hm
  have := h1 u hu
  rw [e1, e] at this
  exact ⟨⟨_, _, _, this⟩, _, _, h1 t (List.mem_cons_of_mem _ (List.mem_of_getElem? ht))⟩
/-- another value under a key that is there -/
theorem SH.write {A B : List (Th κ ν)} {t : Th κ ν} (h : SH I w p most m r (A ++ t :: B)) (v : ν) (hs : ∀ a c, w.heap[t.b]? = some (I.nd t.k t.v a c) → w'.heap[t.b]? = some (I.nd t.k v a c)) (ho : ∀ x, x ≠ t.b → w'.heap[x]? = w.heap[x]?) :
    SH I w' p most m r (A ++ ⟨t.b, t.k, v⟩ :: B) := by
  obtain ⟨nx, pv, h1, h2, h3⟩ := h.nod
  have hb : bs (A ++ (⟨t.b, t.k, v⟩ : Th κ ν) :: B) = bs (A ++ t :: B) := by simp
  have hkk : (A ++ (⟨t.b, t.k, v⟩ : Th κ ν) :: B).map Th.k = (A ++ t :: B).map Th.k := by simp
  have tin : t ∈ A ++ t :: B := by simp
  have tb : t.b ∈ r :: bs (A ++ t :: B) := List.mem_cons_of_mem _ (List.mem_map.2 ⟨t, tin, rfl⟩)
  have hnd := h.nd
  refine ⟨(ho p (h.pn tb)).trans h.blk, ?_, ⟨nx, pv, ?_, by rw [hb]; exact h2, by rw [hb]; exact h3⟩, by rw [hb]; exact h.nd, by rw [hkk]; exact h.kd, ?_, by have := h.len; simp at this ⊢; omega, h.m20⟩
  · obtain ⟨es, c, h4, h5⟩ := h.mp
    exact ⟨es, c, (ho m (h.mn tb)).trans h4, by simpa using h5⟩
  · intro x hx
    by_cases e : x.b = t.b
    · have : x = ⟨t.b, t.k, v⟩ := by
        have hn2 : ((⟨r, I.zk, I.zv⟩ :: (A ++ (⟨t.b, t.k, v⟩ : Th κ ν) :: B)).map Th.b).Nodup := by
          have : (⟨r, I.zk, I.zv⟩ :: (A ++ (⟨t.b, t.k, v⟩ : Th κ ν) :: B)).map Th.b = r :: bs (A ++ t :: B) := by simp
          rw [this]; exact hnd
        have key : ∀ {l : List (Th κ ν)}, (l.map Th.b).Nodup → ∀ {a c : Th κ ν}, a ∈ l → c ∈ l → a.b = c.b → a = c := by
          intro l
          induction l with
          | nil => intro _ a c ha; simp at ha
          | cons y l ih =>
            intro hd a c ha hc e
            obtain ⟨d1, d2⟩ := List.nodup_cons.1 hd
            rcases List.mem_cons.1 ha with ea | ha2 <;> rcases List.mem_cons.1 hc with ec | hc2
            · rw [ea, ec]
            · rw [ea] at e; exact absurd (List.mem_map.2 ⟨c, hc2, e.symm⟩) d1
            · rw [ec] at e; exact absurd (List.mem_map.2 ⟨a, ha2, e⟩) d1
            · exact ih d2 ha2 hc2 e
        exact key hn2 hx (by simp) e
      subst this
      exact hs _ _ (h1 t (by simp))
    · have hx' : x ∈ (⟨r, I.zk, I.zv⟩ :: (A ++ t :: B) : List (Th κ ν)) := by
        rcases List.mem_cons.1 hx with e1 | hx
        · simp [e1]
        rcases List.mem_append.1 hx with h6 | h6
        · simp [h6]
        rcases List.mem_cons.1 h6 with h6 | h6
        · exact absurd (by rw [h6]) e
        · simp [h6]
      rw [ho _ e]
      exact h1 x hx'
  · intro x hx
    rcases List.mem_append.1 hx with h6 | h6
    · exact h.ok x (by simp [h6])
    rcases List.mem_cons.1 h6 with h6 | h6
    · rw [h6]; exact h.ok t tin
    · exact h.ok x (by simp [h6])

/-- what joining two things does -/
abbrev joined (ia : Nat) (w : World) (a b : Nat) : World := (w.setCell ⟨a, ia + 1, none⟩ (ptr b)).setCell ⟨b, ia, none⟩ (ptr a)
theorem joined_other {ia a b x : Nat} (ha : x ≠ a) (hb : x ≠ b) : (joined ia w a b).heap[x]? = w.heap[x]? := by
  unfold joined
  rw [Below.heap_setCell _ _ _ _ (show x ≠ (⟨b, ia, none⟩ : Addr).block from hb), Below.heap_setCell _ _ _ _ (show x ≠ (⟨a, ia + 1, none⟩ : Addr).block from ha)]
theorem joined_size {ia a b : Nat} : (joined ia w a b).heap.size = w.heap.size := by simp [joined, World.setCell]

/-- a thing more: behind its making (w1), its entry (w2), two joinings -/
theorem SH.add {w1 w2 : World} {k : κ} {v : ν} (h : SH I w p most m r L) (hk : I.ok k) (hn : ∀ t ∈ L, t.k ≠ k) (hl : L.length < most) {N : Nat} (hN : N = w.heap.size) (hs : w1.heap.size = N + 1)
    (h1 : w1.heap[N]? = some (I.nd k v (.pointer none) (.pointer none))) (ho : ∀ x, x < N → w1.heap[x]? = w.heap[x]?) (hos : w1.os = w.os ∧ w1.tape = w.tape ∧ w1.output = w.output)
    (hm2 : MP I w2 m (L ++ [⟨N, k, v⟩])) (ho2 : ∀ x, x ≠ m → w2.heap[x]? = w1.heap[x]?) (hs2 : w2.heap.size = w1.heap.size) (hos2 : w2.os = w1.os ∧ w2.tape = w1.tape ∧ w2.output = w1.output) :
    SH I (joined I.ia (joined I.ia w2 (lastOf r (bs L)) N) N r) p most m r (L ++ [⟨N, k, v⟩]) ∧
      Chg (foot p m r L) (foot p m r (L ++ [⟨N, k, v⟩])) w (joined I.ia (joined I.ia w2 (lastOf r (bs L)) N) N r) ∧
      (w2.heap[p]? = w.heap[p]? ∧ w2.heap[r]? = w.heap[r]? ∧ w2.heap[N]? = some (I.nd k v (.pointer none) (.pointer none)) ∧ (∃ k' v' a c, w2.heap[lastOf r (bs L)]? = some (I.nd k' v' a c)) ∧ lastOf r (bs L) ≠ N) ∧
      ((joined I.ia w2 (lastOf r (bs L)) N).heap[p]? = w.heap[p]? ∧ (∃ k' v' a c, (joined I.ia w2 (lastOf r (bs L)) N).heap[N]? = some (I.nd k' v' a c)) ∧ (∃ k' v' a c, (joined I.ia w2 (lastOf r (bs L)) N).heap[r]? = some (I.nd k' v' a c))) := by
  obtain ⟨nx, pv, g1, g2, g3⟩ := h.nod
  have hlt := h.lt
  have hpN : p ≠ N := by have := hlt p (by simp); omega
  have hmN : m ≠ N := by have := hlt m (by simp); omega
  have hbN : ∀ b ∈ r :: bs L, b ≠ N := fun b hb => by have := hlt b (List.mem_cons_of_mem _ (List.mem_cons_of_mem _ hb)); omega
  have hNi : N ∉ r :: bs L := fun e => hbN N e rfl
  have hlast := lastOf_mem r (bs L)
  have e2 : ∀ x, x ≠ m → x < N → w2.heap[x]? = w.heap[x]? := fun x h1 h2 => (ho2 x h1).trans (ho x h2)
  have n2 : ∀ t ∈ (⟨r, I.zk, I.zv⟩ :: L : List (Th κ ν)), w2.heap[t.b]? = some (I.nd t.k t.v (ptr (pv t.b)) (ptr (nx t.b))) := fun t ht => by
    have hb : t.b ∈ r :: bs L := List.mem_map.2 ⟨t, ht, rfl⟩
    have := hlt t.b (List.mem_cons_of_mem _ (List.mem_cons_of_mem _ hb))
    rw [e2 t.b (h.mn hb).symm (by omega)]
    exact g1 t ht
  have nN : w2.heap[N]? = some (I.nd k v (.pointer none) (.pointer none)) := (ho2 N hmN.symm).trans h1
  -- behind the first joining the new thing has its neighbour ahead
  have n3 : ∀ t ∈ (⟨r, I.zk, I.zv⟩ :: L : List (Th κ ν)), (joined I.ia w2 (lastOf r (bs L)) N).heap[t.b]? = some (I.nd t.k t.v (ptr (pv t.b)) (ptr (upd nx (lastOf r (bs L)) N t.b))) := fun t ht => by
    have hb : t.b ∈ r :: bs L := List.mem_map.2 ⟨t, ht, rfl⟩
    unfold joined
    rw [Below.heap_setCell _ _ _ _ (show t.b ≠ (⟨N, I.ia, none⟩ : Addr).block from hbN _ hb)]
    by_cases e : t.b = lastOf r (bs L)
    · have := n2 t ht
      rw [e] at this
      rw [e, upd_same]; exact I.setB this _
    · rw [upd_ne nx e, Below.heap_setCell _ _ _ _ e]; exact n2 t ht
  have nN3 : (joined I.ia w2 (lastOf r (bs L)) N).heap[N]? = some (I.nd k v (ptr (lastOf r (bs L))) (.pointer none)) := by
    unfold joined
    refine I.setA (a := .pointer none) ?_ _
    rw [Below.heap_setCell _ _ _ _ (show N ≠ (⟨lastOf r (bs L), I.ia + 1, none⟩ : Addr).block from fun e => hNi (by rw [show N = lastOf r (bs L) from e]; exact hlast))]
    exact nN
  have hrN : r ≠ N := hbN r (by simp)
  have n4 : ∀ t ∈ (⟨r, I.zk, I.zv⟩ :: L : List (Th κ ν)), (joined I.ia (joined I.ia w2 (lastOf r (bs L)) N) N r).heap[t.b]? = some (I.nd t.k t.v (ptr (upd pv r N t.b)) (ptr (upd nx (lastOf r (bs L)) N t.b))) := fun t ht => by
    have hb : t.b ∈ r :: bs L := List.mem_map.2 ⟨t, ht, rfl⟩
    have h5 : ((joined I.ia w2 (lastOf r (bs L)) N).setCell ⟨N, I.ia + 1, none⟩ (ptr r)).heap[t.b]? = some (I.nd t.k t.v (ptr (pv t.b)) (ptr (upd nx (lastOf r (bs L)) N t.b))) := by
      rw [Below.heap_setCell _ _ _ _ (show t.b ≠ (⟨N, I.ia + 1, none⟩ : Addr).block from hbN _ hb)]; exact n3 t ht
    by_cases e : t.b = r
    · rw [e] at h5
      rw [e, upd_same]; exact I.setA h5 _
    · rw [upd_ne pv e]
      show (World.setCell _ ⟨r, I.ia, none⟩ _).heap[t.b]? = _
      rw [Below.heap_setCell _ _ _ _ e]; exact h5
  have nN4 : (joined I.ia (joined I.ia w2 (lastOf r (bs L)) N) N r).heap[N]? = some (I.nd k v (ptr (lastOf r (bs L))) (ptr r)) := by
    show (World.setCell _ ⟨r, I.ia, none⟩ _).heap[N]? = _
    rw [Below.heap_setCell _ _ _ _ (show N ≠ (⟨r, I.ia, none⟩ : Addr).block from hrN.symm)]
    exact I.setB nN3 _
  have hb' : bs (L ++ [(⟨N, k, v⟩ : Th κ ν)]) = bs L ++ [N] := by simp
  have o4 : ∀ x, x ≠ N → x ∉ r :: bs L → (joined I.ia (joined I.ia w2 (lastOf r (bs L)) N) N r).heap[x]? = w2.heap[x]? := fun x hx hb => by
    rw [joined_other hx (fun e => hb (by simp [e])), joined_other (fun e => hb (by rw [e]; exact hlast)) hx]
  have pnot : p ∉ r :: bs L := fun e => h.pn e rfl
  have mnot : m ∉ r :: bs L := fun e => h.mn e rfl
  have hpl : p < N := by have := hlt p (by simp); omega
  have hrl : r < N := by have := hlt r (by simp); omega
  refine ⟨⟨?_, hm2.kept (o4 m hmN mnot), ⟨upd (upd nx (lastOf r (bs L)) N) N r, upd (upd pv N (headOf (bs L).reverse r)) r N, ?_, ?_, ?_⟩, ?_, ?_, ?_, ?_, h.m20⟩, ⟨?_, ?_, ?_, ?_, ?_, ?_⟩, ⟨e2 p h.pm hpl, e2 r (h.mn (by simp)).symm hrl, nN, ?_, fun e => hNi (by rw [← e]; exact hlast)⟩, ⟨?_, ⟨_, _, _, _, nN3⟩, ⟨_, _, _, _, n3 ⟨r, I.zk, I.zv⟩ (by simp)⟩⟩⟩
  · rw [o4 p hpN pnot, e2 p h.pm hpl]; exact h.blk
  · intro t ht
    by_cases e : t.b = N
    · have : t = ⟨N, k, v⟩ := by
        rw [← List.cons_append] at ht
        rcases List.mem_append.1 ht with h6 | h6
        · exact absurd e (hbN _ (List.mem_map.2 ⟨t, h6, rfl⟩))
        · simpa using h6
      subst this
      show _ = some (I.nd k v (ptr (upd (upd pv N (headOf (bs L).reverse r)) r N N)) (ptr (upd (upd nx (lastOf r (bs L)) N) N r N)))
      rw [upd_same, upd_ne _ hrN.symm, upd_same, headOf_rev]
      exact nN4
    · have ht' : t ∈ (⟨r, I.zk, I.zv⟩ :: L : List (Th κ ν)) := by
        rw [← List.cons_append] at ht
        rcases List.mem_append.1 ht with h6 | h6
        · exact h6
        · exact absurd (by simp at h6; rw [h6]) e
      rw [upd_ne (upd nx (lastOf r (bs L)) N) e, n4 t ht']
      by_cases e3 : t.b = r
      · rw [e3, upd_same, upd_same]
      · rw [upd_ne _ e3, upd_ne _ e3, upd_ne _ e]
  · rw [hb']; exact g2.put h.nd hNi
  · rw [hb', List.reverse_append]
    exact g3.put0 (List.nodup_cons.2 ⟨fun e => (List.nodup_cons.1 h.nd).1 (List.mem_reverse.1 e), nodup_rev (List.nodup_cons.1 h.nd).2⟩) (by simp at hNi ⊢; exact hNi)
  · rw [hb', ← List.cons_append]
    exact List.nodup_append.2 ⟨h.nd, by simp, fun a ha b hb => by simp at hb; rw [hb]; exact hbN a ha⟩
  · rw [List.map_append]
    exact List.nodup_append.2 ⟨h.kd, by simp, fun a ha b hb => by
      obtain ⟨t, ht, rfl⟩ := List.mem_map.1 ha
      simp at hb; rw [hb]; exact hn t ht⟩
  · intro t ht
    rcases List.mem_append.1 ht with h6 | h6
    · exact h.ok t h6
    · simp at h6; rw [h6]; exact hk
  · simp; omega
  · simp [joined, World.setCell, hos2, hos]
  · simp [joined, World.setCell, hos2, hos]
  · simp [joined, World.setCell, hos2, hos]
  · rw [joined_size, joined_size, hs2, hs]; omega
  · intro x hx hF
    simp only [List.mem_cons, not_or] at hF
    rw [o4 x (by omega) (by simp only [List.mem_cons, not_or]; exact hF.2.2)]
    exact e2 x hF.2.1 (by omega)
  · intro x hx
    rw [foot, hb', ← List.cons_append, ← List.cons_append, ← List.cons_append] at hx
    rcases List.mem_append.1 hx with h6 | h6
    · exact .inl h6
    · simp at h6; exact .inr (by omega)
  · have : lastOf r (bs L) ∈ (⟨r, I.zk, I.zv⟩ :: L : List (Th κ ν)).map Th.b := hlast
    obtain ⟨t, ht, e⟩ := List.mem_map.1 this
    have := n2 t ht
    rw [e] at this
    exact ⟨_, _, _, _, this⟩
  · rw [joined_other (fun e => pnot (by rw [e]; exact hlast)) hpN]; exact e2 p h.pm hpl

/-- a thing less: behind its entry's end (w1), one joining -/
theorem SH.less {w1 : World} {A B : List (Th κ ν)} {t : Th κ ν} (h : SH I w p most m r (A ++ t :: B)) (hm1 : MP I w1 m (A ++ B)) (ho : ∀ x, x ≠ m → w1.heap[x]? = w.heap[x]?) (hs : w1.heap.size = w.heap.size) (hos : w1.os = w.os ∧ w1.tape = w.tape ∧ w1.output = w.output) :
    SH I (joined I.ia w1 (lastOf r (bs A)) (headOf (bs B) r)) p most m r (A ++ B) ∧ Chg (foot p m r (A ++ t :: B)) (foot p m r (A ++ B)) w (joined I.ia w1 (lastOf r (bs A)) (headOf (bs B) r)) ∧
      w1.heap[t.b]? = some (I.nd t.k t.v (ptr (lastOf r (bs A))) (ptr (headOf (bs B) r))) ∧ (∃ k' v' a c, w1.heap[lastOf r (bs A)]? = some (I.nd k' v' a c)) ∧ (∃ k' v' a c, w1.heap[headOf (bs B) r]? = some (I.nd k' v' a c)) := by
  obtain ⟨nx, pv, g1, g2, g3⟩ := h.nod
  have n1 : Nodes I w1 nx pv (⟨r, I.zk, I.zv⟩ :: (A ++ t :: B)) := fun x hx => by
    rw [ho x.b (h.mn (List.mem_map.2 ⟨x, hx, rfl⟩)).symm]; exact g1 x hx
  have hbs : bs (A ++ t :: B) = bs A ++ t.b :: bs B := by simp
  have hbs' : bs (A ++ B) = bs A ++ bs B := by simp
  have hrev : (bs (A ++ t :: B)).reverse = (bs B).reverse ++ t.b :: (bs A).reverse := by rw [hbs]; simp
  have hnd := h.nd
  rw [hbs] at g2 hnd
  rw [hrev] at g3
  have hlast : lastOf r (bs A) ∈ r :: bs (A ++ t :: B) := by
    rw [hbs]
    rcases List.mem_cons.1 (lastOf_mem r (bs A)) with e | e
    · rw [e]; simp
    · exact List.mem_cons_of_mem _ (List.mem_append_left _ e)
  have hhead : headOf (bs B) r ∈ r :: bs (A ++ t :: B) := by
    rw [← lastOf_rev, hbs]
    rcases List.mem_cons.1 (lastOf_mem r (bs B).reverse) with e | e
    · rw [e]; simp
    · exact List.mem_cons_of_mem _ (List.mem_append_right _ (List.mem_cons_of_mem _ (List.mem_reverse.1 e)))
  have hnr : (r :: ((bs B).reverse ++ t.b :: (bs A).reverse)).Nodup := by
    have h7 := h.nd
    obtain ⟨d1, d2⟩ := List.nodup_cons.1 h7
    rw [← hrev]
    exact List.nodup_cons.2 ⟨fun e => d1 (List.mem_reverse.1 e), nodup_rev d2⟩
  have p2 := g2.drop hnd
  have p3 := g3.drop hnr
  rw [lastOf_rev, headOf_rev] at p3
  have hjo : ∀ x, x ∉ r :: bs (A ++ t :: B) → (joined I.ia w1 (lastOf r (bs A)) (headOf (bs B) r)).heap[x]? = w1.heap[x]? := fun x hx => joined_other (fun e => hx (by rw [e]; exact hlast)) (fun e => hx (by rw [e]; exact hhead))
  have hsub : ∀ {x : Th κ ν}, x ∈ A ++ B → x ∈ A ++ t :: B := fun {x} hx => by
    rcases List.mem_append.1 hx with h6 | h6 <;> simp [h6]
  have hat : ∀ b, b ∈ r :: bs (A ++ t :: B) → ∃ k' v' a c, w1.heap[b]? = some (I.nd k' v' a c) := fun b hb => by
    have : b ∈ (⟨r, I.zk, I.zv⟩ :: (A ++ t :: B) : List (Th κ ν)).map Th.b := hb
    obtain ⟨x, hx, e⟩ := List.mem_map.1 this
    have := n1 x hx
    rw [e] at this
    exact ⟨_, _, _, _, this⟩
  refine ⟨⟨?_, hm1.kept (hjo m (fun e => h.mn e rfl)), ⟨upd nx (lastOf r (bs A)) (headOf (bs B) r), upd pv (headOf (bs B) r) (lastOf r (bs A)), fun x hx => ?_, by rw [hbs']; exact p2, by rw [hbs', List.reverse_append]; exact p3⟩, ?_, ?_, fun x hx => h.ok x (hsub hx), ?_, h.m20⟩, ⟨?_, ?_, ?_, ?_, ?_, ?_⟩, ?_, hat _ hlast, hat _ hhead⟩
  · rw [hjo p (fun e => h.pn e rfl), ho p h.pm]; exact h.blk
  · refine (n1.join _ _) x ?_
    rcases List.mem_cons.1 hx with e | e
    · simp [e]
    · exact List.mem_cons_of_mem _ (hsub e)
  · rw [hbs']
    exact List.Nodup.sublist (by simp) hnd
  · refine List.Nodup.sublist ?_ h.kd
    simp
  · have := h.len; simp at this ⊢; omega
  · simp [joined, World.setCell, hos]
  · simp [joined, World.setCell, hos]
  · simp [joined, World.setCell, hos]
  · rw [joined_size, hs]; exact Nat.le_refl _
  · intro x hx hF
    simp only [List.mem_cons, not_or] at hF
    rw [hjo x (by simp only [List.mem_cons, not_or]; exact hF.2.2)]
    exact ho x hF.2.1
  · intro x hx
    left
    rw [foot, hbs'] at hx
    rw [foot, hbs]
    simp only [List.mem_cons, List.mem_append] at hx ⊢
    rcases hx with h6 | h6 | h6 | h6 | h6 <;> simp [h6]
  · have := n1 t (by simp)
    have q1 := (Path.app.1 g2).2.head
    have q2 := (Path.app.1 g3).2.head
    rw [headOf_rev] at q2
    rw [q1, q2] at this
    exact this
/-- a new one -/
theorem SH.fresh (I : Kd κ ν) (w : World) (n : Nat) (hn : n ≤ 1048576) :
    SH I (((w.alloc (I.nd I.zk I.zv (ptr w.heap.size) (ptr w.heap.size))).alloc (.map #[] 0)).alloc (.cells #[.int .i64 n, .map (some (w.heap.size + 1)), ptr w.heap.size] I.sty)) (w.heap.size + 2) n (w.heap.size + 1) w.heap.size [] ∧
      Below w.heap.size w (((w.alloc (I.nd I.zk I.zv (ptr w.heap.size) (ptr w.heap.size))).alloc (.map #[] 0)).alloc (.cells #[.int .i64 n, .map (some (w.heap.size + 1)), ptr w.heap.size] I.sty)) := by
  have e1 : (w.alloc (I.nd I.zk I.zv (ptr w.heap.size) (ptr w.heap.size))).heap.size = w.heap.size + 1 := by simp
  have e2 : ((w.alloc (I.nd I.zk I.zv (ptr w.heap.size) (ptr w.heap.size))).alloc (.map #[] 0)).heap.size = w.heap.size + 2 := by simp
  refine ⟨⟨?_, ⟨#[], 0, ?_, by simp⟩, ⟨fun _ => w.heap.size, fun _ => w.heap.size, ?_, rfl, rfl⟩, by simp, by simp, by simp, by simp, hn⟩, (((Below.refl _ _).alloc (Nat.le_refl _) _).alloc (by omega) _).alloc (by omega) _⟩
  · have := (MapKept.heap_alloc ((w.alloc (I.nd I.zk I.zv (ptr w.heap.size) (ptr w.heap.size))).alloc (.map #[] 0)) (.cells #[.int .i64 n, .map (some (w.heap.size + 1)), ptr w.heap.size] I.sty)).1
    rw [e2] at this; exact this
  · rw [Below.heap_alloc _ _ _ (by omega)]
    have := (MapKept.heap_alloc (w.alloc (I.nd I.zk I.zv (ptr w.heap.size) (ptr w.heap.size))) (.map #[] 0)).1
    rw [e1] at this; exact this
  · intro t ht
    simp at ht
    subst ht
    rw [Below.heap_alloc _ _ _ (show w.heap.size < _ by omega), Below.heap_alloc _ _ _ (show w.heap.size < _ by omega)]
    exact (MapKept.heap_alloc w _).1
/-- a shelf of new memory -/
structure OS (I : Kd κ ν) (B : Nat) (w a : World) (p most m r : Nat) (L : List (Th κ ν)) : Prop where
  sh : SH I a p most m r L
  be : Below B w a
  own : ∀ x ∈ foot p m r L, B ≤ x
  sz : B ≤ a.heap.size
theorem OS.step {B : Nat} {a b : World} {L' : List (Th κ ν)} (h : OS I B w a p most m r L) (s : SH I b p most m r L') (c : Chg (foot p m r L) (foot p m r L') a b) : OS I B w b p most m r L' :=
  ⟨s, h.be.trans ⟨c.os, c.tape, c.output, c.size, fun k hk => c.kept k (Nat.lt_of_lt_of_le hk h.sz) (fun e => by have := h.own k e; omega)⟩, fun x hx => (c.own x hx).elim (h.own x) (fun e => Nat.le_trans h.sz e), Nat.le_trans h.sz c.size⟩
theorem OS.below {B : Nat} {a b : World} (h : OS I B w a p most m r L) (c : Below a.heap.size a b) : OS I B w b p most m r L := h.step (h.sh.below c) (Chg.of_below _ c)
end
end Go.Proofs.Ytkkamilmjaochaa
