/- A cache, plainly, and in memory. -/
import Derived.Test.YtnpffhgmakbdnaaRoMa
namespace Go.Proofs.Ytnpffhgmakbdnaa
open Go.RowKit
theorem meas {n j : Nat} {q : Int} (hq : q = (j : Int) + 1) (hj : (j : Int) < (n : Int)) : n - (intOf (.int .i64 q)).toNat < n - (intOf (.int .i64 (j : Int))).toNat := by
  show n - q.toNat < n - (j : Int).toNat
  omega
/-- append in a region that draws, its run being known -/
theorem step_app {P : Program} {ops : Array Oper} {o : Oper} {a : Act} {w : World} {K : Act → World → Prop} {Q : Exit → Act → World → Prop} {E : Prop}
    (hg : o.guard = none) (s x : Operand) (t : TypeId) (hop : o.op = Op.call { callee := Callee.builtin Builtin.append, args := #[s, x], argTypes := #[t, t] })
    (v1 v2 r : Value) (w' : World) (hs : a.eval s = v1) (hx : a.eval x = v2) (hrun : (Builtin.append_ #[t, t] o.type #[v1, v2]).run P w = .ok r w') (hK : K (a.put o.dst r) w') :
    if Region.wanted o (yielded ops a.tmps) = true then Oper.wp P o a w K Q else E := by
  have hw : Region.wanted o (yielded ops a.tmps) = true := by simp [Region.wanted, hg]
  rw [if_pos hw]
  unfold Oper.wp
  simp [execOp, hop, resolve, invoke, builtin, hs, hx, hrun, Result.andThen]
  exact hK
theorem wpList_app {P : Program} {ops : Array Oper} {rest : List Oper} {o : Oper} {a : Act} {Q : Exit → Act → World → Prop} {w : World} (hgd : o.guard = none) (s x : Operand) (t : TypeId)
    (ho : o.op = .call { callee := .builtin .append, args := #[s, x], argTypes := #[t, t] }) (v1 v2 r : Value) (w' : World) (hs : a.eval s = v1) (hx : a.eval x = v2) (hrun : (Builtin.append_ #[t, t] o.type #[v1, v2]).run P w = .ok r w')
    (h : wpList P ops Q rest (a.put o.dst r) w') : wpList P ops Q (o :: rest) a w := by
  refine wpList_plain hgd fun K hK => ?_
  unfold Oper.wp execOp
  simp only [ho, resolve, invoke, builtin, Sem.run_bind, Sem.run_pure, Result.andThen_ok, List.map_toArray, List.map_cons, List.map_nil, hs, hx, hrun]
  exact hK _ _ h
theorem step_calls {P : Program} {ops : Array Oper} {o : Oper} {a : Act} {w : World} {K : Act → World → Prop} {Q : Exit → Act → World → Prop} {E : Prop} (hg : o.guard = none) (f : FuncId) (args : Array Value)
    (hrun : (execOp a.eval o).run P w = .ok (.enter f args) w) (post : Ending → World → Prop) (hC : Calls P f args w post) (h : ∀ e w', post e w' → ∃ v, e = .returned v ∧ K (a.put o.dst v) w') :
    if Region.wanted o (yielded ops a.tmps) = true then Oper.wp P o a w K Q else E := by
  have hw : Region.wanted o (yielded ops a.tmps) = true := by simp [Region.wanted, hg]
  rw [if_pos hw]
  unfold Oper.wp
  rw [hrun, Oper.upon_enter]
  refine hC.mono fun e w' hp => ?_
  obtain ⟨v, rfl, hk⟩ := h e w' hp
  exact hk

theorem run_call {P : Program} {o : Oper} {a : Act} {w : World} (f : FuncId) (xs : Array Operand) (ts : Array TypeId) (hop : o.op = Op.call { callee := .value (.func f), args := xs, argTypes := ts }) (args : Array Value) (ha : xs.map a.eval = args)
   (hcf : ∀ ys w, (callFunc f ys).run P w = .ok (.enter f ys) w) : (execOp a.eval o).run P w = .ok (.enter f args) w := by
  subst ha
  simp [execOp, hop, resolve, invoke, Act.eval, Deferred.ofValue, hcf]
/-- the same, told by its operands -/
theorem step_call {P : Program} {ops : Array Oper} {o : Oper} {a : Act} {w : World} {K : Act → World → Prop} {Q : Exit → Act → World → Prop} {E : Prop} (hg : o.guard = none) (f : FuncId) (xs : Array Operand) (ts : Array TypeId)
    (hop : o.op = Op.call { callee := .value (.func f), args := xs, argTypes := ts }) (args : Array Value) (ha : xs.map a.eval = args) (hcf : ∀ ys w, (callFunc f ys).run P w = .ok (.enter f ys) w) (post : Ending → World → Prop) (hC : Calls P f args w post) (h : ∀ e w', post e w' → ∃ v, e = .returned v ∧ K (a.put o.dst v) w') :
    if Region.wanted o (yielded ops a.tmps) = true then Oper.wp P o a w K Q else E := step_calls hg f args (run_call f xs ts hop args ha hcf) post hC h
theorem step_call3 {P : Program} {ops : Array Oper} {o : Oper} {a : Act} {w : World} {K : Act → World → Prop} {Q : Exit → Act → World → Prop} {E : Prop} (hg : o.guard = none) (f : FuncId) (x y z : Operand) (ts : Array TypeId)
    (hop : o.op = Op.call { callee := .value (.func f), args := #[x, y, z], argTypes := ts }) (u v t : Value) (hx : a.eval x = u) (hy : a.eval y = v) (hz : a.eval z = t) (hcf : ∀ ys w, (callFunc f ys).run P w = .ok (.enter f ys) w) (post : Ending → World → Prop) (hC : Calls P f #[u, v, t] w post) (h : ∀ e w', post e w' → ∃ v, e = .returned v ∧ K (a.put o.dst v) w') :
    if Region.wanted o (yielded ops a.tmps) = true then Oper.wp P o a w K Q else E := step_call hg f _ ts hop #[u, v, t] (by simp [hx, hy, hz]) hcf post hC h
theorem own_block {w w' : World} {base : Nat} {e : TypeId} {size : Nat} {v : Value} {n : Nat} {xs : List Value} (h : w.ownsRow base e size v n xs) (hb : ∀ g, v.ownBlock = some g → w'.heap[g]? = w.heap[g]?) : w'.ownsRow base e size v n xs := by
  refine ⟨h.1, ?_⟩
  rcases h.2 with hn | ⟨g, cap, cur, rfl, h1, h2, h3⟩
  · exact .inl hn
  · exact .inr ⟨g, cap, cur, rfl, h1, (hb g rfl).trans h2, h3⟩
theorem own_mono {w : World} {base base' : Nat} {e : TypeId} {size : Nat} {v : Value} {n : Nat} {xs : List Value} (h : w.ownsRow base e size v n xs) (hb : base' ≤ base) : w.ownsRow base' e size v n xs := by
  refine ⟨h.1, ?_⟩
  rcases h.2 with hn | ⟨g, cap, cur, rfl, h1, h2⟩
  · exact .inl hn
  · exact .inr ⟨g, cap, cur, rfl, Nat.le_trans hb h1, h2⟩
/-- a step that touches the blocks F alone, and new ones; behind it the blocks F' are its own -/
structure Chg (F F' : List Nat) (w w' : World) : Prop where
  os : w'.os = w.os
  tape : w'.tape = w.tape
  output : w'.output = w.output
  size : w.heap.size ≤ w'.heap.size
  kept : ∀ x, x < w.heap.size → x ∉ F → w'.heap[x]? = w.heap[x]?
  own : ∀ x, x ∈ F' → x ∈ F ∨ w.heap.size ≤ x
theorem Chg.refl (F : List Nat) (w : World) : Chg F F w w := ⟨rfl, rfl, rfl, Nat.le_refl _, fun _ _ _ => rfl, fun _ h => .inl h⟩
theorem Chg.drew (F : List Nat) (w : World) : Chg F F w w.drew := ⟨rfl, rfl, rfl, Nat.le_refl _, fun _ _ _ => rfl, fun _ h => .inl h⟩
theorem Chg.trans {F F' F'' : List Nat} {a b c : World} (h : Chg F F' a b) (k : Chg F' F'' b c) : Chg F F'' a c :=
  ⟨k.os.trans h.os, k.tape.trans h.tape, k.output.trans h.output, Nat.le_trans h.size k.size, fun x hx hF => (k.kept x (Nat.lt_of_lt_of_le hx h.size) (fun e => (h.own x e).elim hF (by omega))).trans (h.kept x hx hF),
    fun x hx => (k.own x hx).elim (h.own x) (fun e => .inr (Nat.le_trans h.size e))⟩
theorem Chg.of_below {w w' : World} (F : List Nat) (h : Below w.heap.size w w') : Chg F F w w' := ⟨h.os, h.tape, h.output, h.size, fun x hx _ => h.block x hx, fun _ h => .inl h⟩

/-! ### keys -/
theorem laidOut : laidOutB Try.prog = true := by kernel_rfl
theorem row37 : (37 : TypeId) < Try.prog.types.size := of_decide_eq_true (by kernel_rfl)
theorem kta37 : Try.prog.keyTypeAt 2 37 = true := by kernel_rfl
theorem keyed37 : Maps.Keyed Try.prog 37 := Maps.Keyed.of_law (deep_law_laid laidOut (m := 2) (by omega) row37 kta37 (by rw [Try.underlying37]))
theorem kt37 : Try.prog.keyType 37 = true := by kernel_rfl
theorem cells3 : Try.prog.cellsOf 3 = 1 := by kernel_rfl
theorem cells37 : Try.prog.cellsOf 37 = 2 := by kernel_rfl
theorem form37 (a b : Value) : (Value.agg #[a, b]).formed Try.prog 37 = true := by simp [Value.formed, Try.underlying37, cells37]
theorem typesN : Try.prog.types.size = 112 := by kernel_rfl
theorem lits3 (d : Nat) (n : Int) (h : (Lit.int .i64 n).wf = true) : Try.prog.keyLits (d + 1) 3 [.int .i64 n] = some [.int .i64 n] := by
  simp only [Program.keyLits, Try.underlying3, h, and_self, if_true]
theorem keyLits_struct {P : Program} {d : Nat} {t : TypeId} {fs : Array Field} {cs : List Value} (h : P.underlying t = some (.struct fs)) (hl : cs.length = P.cellsOf t) (hn : fs.all (fun x => x.name != "_") = true) :
    P.keyLits (d + 1) t cs = (fs.toList.mapM fun f => P.keyLits d f.type ((cs.drop f.offset).take (P.cellsOf f.type))).map List.flatten := by
  simp only [Program.keyLits, h, hl, hn, and_self, if_true]
theorem lits37 (d : Nat) (s n : Int) (hs : (Lit.int .i64 s).wf = true) (hn : (Lit.int .i64 n).wf = true) : ∃ l, Try.prog.keyLits (d + 2) 37 [.int .i64 s, .int .i64 n] = some l := by
  have a := lits3 d s hs
  have b := lits3 d n hn
  rw [keyLits_struct Try.underlying37 (by rw [cells37]; rfl) (by kernel_rfl)]
  simp [cells3, a, b]
theorem keyOf_struct {P : Program} {k : TypeId} {fs : Array Field} {v : Value} (h : P.underlying k = some (.struct fs)) (h1 : P.keyType k = true) (h2 : v.formed P k = true) {d : Nat} (hd : P.types.size + 1 = d) (h3 : ∃ l, P.keyLits d k v.cells.toList = some l) : ∃ l, keyOf P k v = some l := by
  obtain ⟨l, hl⟩ := h3
  unfold keyOf
  rw [h]
  simp [h1, h2, hd, hl]
theorem key37 (a i : Int) (ha : (Lit.int .i64 a).wf = true) (hi : (Lit.int .i64 i).wf = true) : ∃ l, keyOf Try.prog 37 (.agg #[.int .i64 a, .int .i64 i]) = some l :=
  keyOf_struct Try.underlying37 kt37 (form37 _ _) (d := 111 + 2) (by rw [typesN]) (lits37 111 a i ha hi)
theorem key3 (n : Int) (h : (Lit.int .i64 n).wf = true) : keyOf Try.prog 3 (.int .i64 n) = some (.int .i64 n) := by
  simp [keyOf, Try.underlying3, mapKey, h]
theorem wf_of {n : Int} (h : -9223372036854775808 ≤ n ∧ n ≤ 9223372036854775807) : (Lit.int .i64 n).wf = true := by
  have hmin : IntKind.i64.min = -9223372036854775808 := rfl
  have hmax : IntKind.i64.max = 9223372036854775807 := rfl
  simp only [Lit.wf, Bool.and_eq_true, decide_eq_true_eq]
  omega
theorem nd_map {β γ : Type} {f : β → γ} (hf : ∀ x y, f x = f y → x = y) {l : List β} (h : l.Nodup) : (l.map f).Nodup :=
  List.Pairwise.map f (fun a b hab e => hab (hf a b e)) h
/-! ### plainly -/
structure Ky where
  a : Int
  i : Int
  b : Nat
structure En where
  seq : Int
  ans : Bool
  rep : ByteArray
abbrev whoV (a i : Int) : Value := .agg #[.int .i64 a, .int .i64 i]
abbrev enV (e : En) : Value := .agg #[.bool e.ans, .string e.rep]
def kdC : Kd Ky where
  f k := (whoV k.a k.i, ptr k.b)
  mt := 65
  kt := 37
  et := 73
  zv := .pointer none
  map := Try.underlying65
  keyed := keyed37
  zero := fun w => by kernel_rfl
  inj := fun {a b} h => by cases a; cases b; simp at h; simp [h]
def kdE : Kd En where
  f e := (.int .i64 e.seq, enV e)
  mt := 74
  kt := 3
  et := 79
  zv := enV ⟨0, false, ⟨#[]⟩⟩
  map := Try.underlying74
  keyed := Maps.int_keyed Try.underlying3
  zero := fun w => by kernel_rfl
  inj := fun {a b} h => by cases a; cases b; simp at h; simp [h]
structure Cl where
  a : Int
  i : Int
  water : Int
  ents : List En
  b : Nat
  m : Nat
structure Cf where
  cl : Nat
  en : Nat
  by_ : Nat
  rs : Nat
structure CfOk (g : Cf) : Prop where
  c : 1 ≤ g.cl ∧ g.cl ≤ 64
  e : 1 ≤ g.en ∧ g.en ≤ 64
  r : 64 ≤ g.rs ∧ g.rs ≤ 1100
  b : g.rs ≤ g.by_ ∧ g.by_ ≤ 1048576
def sz (rs : Nat) (e : En) : Nat := if e.ans then e.rep.size else rs
def byt (rs : Nat) (l : List En) : Nat := (l.map (sz rs)).sum
def tot (rs : Nat) (C : List Cl) : Nat := (C.map fun c => byt rs c.ents).sum
def Cl.ky (c : Cl) : Ky := ⟨c.a, c.i, c.b⟩
structure EnOk (g : Cf) (water : Int) (e : En) : Prop where
  lo : water ≤ e.seq
  hi : e.seq ≤ 4294967295
  rep : e.rep.size ≤ g.rs
  non : e.ans = false → e.rep = ⟨#[]⟩
structure ClOk (g : Cf) (c : Cl) : Prop where
  a : 1 ≤ c.a ∧ c.a ≤ 16777215
  i : 1 ≤ c.i ∧ c.i ≤ 4611686018427387904
  w : 1 ≤ c.water ∧ c.water ≤ 4294967295
  en : ∀ e ∈ c.ents, EnOk g c.water e
  nd : (c.ents.map En.seq).Nodup
  len : c.ents.length ≤ g.en
/-- what may be -/
structure StOk (g : Cf) (C : List Cl) : Prop where
  cl : ∀ c ∈ C, ClOk g c
  who : (C.map fun c => (c.a, c.i)).Nodup
  len : C.length ≤ g.cl
  tot : tot g.rs C ≤ g.by_
abbrev cfV (g : Cf) : Value := .agg #[.int .i64 g.cl, .int .i64 g.en, .int .i64 g.by_, .int .i64 g.rs]
abbrev meO (g : Cf) (mm : Nat) : Obj := .cells #[.int .i64 g.cl, .int .i64 g.en, .int .i64 g.by_, .int .i64 g.rs, .map (some mm)] 67 (0, 0)
abbrev clO (g : Cf) (c : Cl) : Obj := .cells #[.int .i64 c.water, .int .i64 (byt g.rs c.ents), .map (some c.m)] 76 (0, 0)
structure PC (w : World) (p : Nat) (g : Cf) (mm : Nat) (C : List Cl) : Prop where
  me : w.heap[p]? = some (meO g mm)
  ok : CfOk g
  mp : MM kdC w mm (C.map Cl.ky)
  cl : ∀ c ∈ C, w.heap[c.b]? = some (clO g c) ∧ MM kdE w c.m c.ents
  st : StOk g C
  nb : (C.map Cl.b).Nodup
  nm : (mm :: C.map Cl.m).Nodup
abbrev feet (C : List Cl) : List Nat := C.map Cl.b ++ C.map Cl.m
abbrev foot (p mm : Nat) (C : List Cl) : List Nat := p :: mm :: feet C
section
variable {w w' : World} {p mm : Nat} {g : Cf} {C : List Cl}
theorem PC.lt (h : PC w p g mm C) : ∀ x ∈ foot p mm C, x < w.heap.size := by
  intro x hx
  rcases List.mem_cons.1 hx with e | hx
  · rw [e]; exact (Array.getElem?_eq_some_iff.1 h.me).1
  rcases List.mem_cons.1 hx with e | hx
  · rw [e]; exact h.mp.lt
  rcases List.mem_append.1 hx with hx | hx
  · obtain ⟨c, hc, rfl⟩ := List.mem_map.1 hx
    exact (Array.getElem?_eq_some_iff.1 (h.cl c hc).1).1
  · obtain ⟨c, hc, rfl⟩ := List.mem_map.1 hx
    exact (h.cl c hc).2.lt
theorem PC.kept (h : PC w p g mm C) (hk : ∀ x ∈ foot p mm C, w'.heap[x]? = w.heap[x]?) : PC w' p g mm C :=
  ⟨(hk p (by simp)).trans h.me, h.ok, h.mp.kept (hk mm (by simp)), fun c hc => ⟨(hk c.b (by simp; exact .inr (.inr (.inl ⟨c, hc, rfl⟩)))).trans (h.cl c hc).1, (h.cl c hc).2.kept (hk c.m (by simp; exact .inr (.inr (.inr ⟨c, hc, rfl⟩))))⟩, h.st, h.nb, h.nm⟩
theorem PC.below (h : PC w p g mm C) (hB : Below w.heap.size w w') : PC w' p g mm C := h.kept fun x hx => hB.block x (h.lt x hx)
theorem PC.drew (h : PC w p g mm C) : PC w.drew p g mm C := h.kept fun _ _ => rfl
theorem PC.drewN (h : PC w p g mm C) (n : Nat) : PC (w.drewN n) p g mm C := h.kept fun _ _ => rfl
theorem PC.c0 (h : PC w p g mm C) : w.cell? ⟨p, 0, none⟩ = some (.int .i64 g.cl) := by unfold World.cell?; rw [h.me]; rfl
theorem PC.c1 (h : PC w p g mm C) : w.cell? ⟨p, 1, none⟩ = some (.int .i64 g.en) := by unfold World.cell?; rw [h.me]; rfl
theorem PC.c2 (h : PC w p g mm C) : w.cell? ⟨p, 2, none⟩ = some (.int .i64 g.by_) := by unfold World.cell?; rw [h.me]; rfl
theorem PC.c3 (h : PC w p g mm C) : w.cell? ⟨p, 3, none⟩ = some (.int .i64 g.rs) := by unfold World.cell?; rw [h.me]; rfl
theorem PC.c4 (h : PC w p g mm C) : w.cell? ⟨p, 4, none⟩ = some (.map (some mm)) := by unfold World.cell?; rw [h.me]; rfl
theorem cl0 {w : World} {c : Cl} (h : w.heap[c.b]? = some (clO g c)) : w.cell? ⟨c.b, 0, none⟩ = some (.int .i64 c.water) := by unfold World.cell?; rw [h]; rfl
theorem cl1 {w : World} {c : Cl} (h : w.heap[c.b]? = some (clO g c)) : w.cell? ⟨c.b, 1, none⟩ = some (.int .i64 (byt g.rs c.ents)) := by unfold World.cell?; rw [h]; rfl
theorem cl2 {w : World} {c : Cl} (h : w.heap[c.b]? = some (clO g c)) : w.cell? ⟨c.b, 2, none⟩ = some (.map (some c.m)) := by unfold World.cell?; rw [h]; rfl
theorem clf {w : World} {c : Cl} (h : w.heap[c.b]? = some (clO g c)) (n : Nat) : w.frozen? ⟨c.b, n, none⟩ = false := by unfold World.frozen?; rw [h]; rfl
theorem okC (h : StOk g C) : Ok kdC (C.map Cl.ky) := by
  refine ⟨fun k hk => ?_, ?_⟩
  · obtain ⟨c, hc, rfl⟩ := List.mem_map.1 hk
    have a := (h.cl c hc).a
    have i := (h.cl c hc).i
    exact key37 c.a c.i (wf_of (by omega)) (wf_of (by omega))
  · have : (C.map Cl.ky).map (fun x => (kdC.f x).1) = (C.map fun c => (c.a, c.i)).map fun q => whoV q.1 q.2 := by simp [List.map_map, Function.comp_def, kdC, Cl.ky]
    rw [this]
    refine nd_map (fun x y e => ?_) h.who
    simp at e
    exact Prod.ext e.1 e.2
theorem okE {c : Cl} (h : ClOk g c) : Ok kdE c.ents := by
  refine ⟨fun e he => ?_, ?_⟩
  · have h1 := (h.en e he).lo
    have h2 := (h.en e he).hi
    have h3 := h.w
    exact ⟨_, key3 e.seq (wf_of (by omega))⟩
  · have : c.ents.map (fun x => (kdE.f x).1) = (c.ents.map En.seq).map (Value.int .i64) := by simp [List.map_map, Function.comp_def, kdE]
    rw [this]
    exact nd_map (fun x y e => by simpa using e) h.nd
end
end Go.Proofs.Ytnpffhgmakbdnaa
