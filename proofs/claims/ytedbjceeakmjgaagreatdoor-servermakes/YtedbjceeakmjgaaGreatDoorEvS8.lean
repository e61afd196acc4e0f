/- The evaluator of closed runs: EvS8 -/
import Derived.Test.YtedbjceeakmjgaaGreatDoorEvS7
namespace Go.Proofs.YtedbjceeakmjgaaGreatDoor.Ev
set_option linter.unusedSimpArgs false

section
variable {P : Program}

theorem nextA_ok {β : Type} {f : Ren} {h : Mem} {n : Nat} {w : World} (hr : R P f h n w) {it it' : Value} (hi : VR f it it') {is : Bool} {ty : TypeId} {k : Value → Mem → Option β} {z : β}
    (he : nextA h it is k = some z) :
    ∃ v h' w' v', k v h' = some z ∧ (Instr.next it' is ty).run P w = .ok v' w' ∧ VR f v v' ∧ Step P f h n w f h' n w' := by
  unfold nextA at he
  split at he
  · rename_i r
    cases hi with
    | @ptr _ _ L hb =>
    split at he
    · rename_i l pos hg
      obtain ⟨hsh, ho⟩ := hr.obj r L _ hb hg
      rw [hsh]
      have hgo : (Go.getObj L.n).run P w = .ok (.stringIter ⟨⟨l⟩⟩ pos) w := by simp [Go.getObj, Sem.run, ho]
      have hsz : (ByteArray.mk ⟨l⟩).size = l.length := by simp [ByteArray.size]
      split at he
      · rename_i hlt
        have hlt' : pos < l.length := Nat.le_of_ble_eq_true hlt
        split at he
        rename_i c width hdec
        simp only [natK_eq, T.setK_set, nfK_eq] at he
        refine ⟨_, _, { w with heap := w.heap.setIfInBounds L.n (.stringIter ⟨⟨l⟩⟩ (pos + width)) }, .tuple #[.bool true, .int .i64 (.ofNat pos), .int .i32 c], he, ?_,
          vr_ground 2 _ rfl, hr.change hb ⟨_, hg, by simp⟩ rfl ⟨hsh, rfl⟩ ⟨rfl, rfl, rfl⟩⟩
        have hset : (Go.setObj L.n (.stringIter ⟨⟨l⟩⟩ (pos + width))).run P w = .ok () { w with heap := w.heap.setIfInBounds L.n (.stringIter ⟨⟨l⟩⟩ (pos + width)) } := by
          simp [Go.setObj, Sem.run, ho]
        simp only [Instr.next, Sem.run_bind, hgo, Result.andThen_ok, hsz, hlt', if_true, hdec, hset, Sem.run_pure]
        rfl
      · rename_i hlt
        have hlt' : ¬ pos < l.length := fun h => by
          have : Nat.blt pos l.length = true := Nat.ble_eq_true_of_le h
          rw [this] at hlt; cases hlt
        refine ⟨_, _, w, .tuple #[.bool false], he, ?_, .tuple' (.single (.bool false)), .refl hr⟩
        simp only [Instr.next, Sem.run_bind, hgo, Result.andThen_ok, hsz, hlt', if_false, Sem.run_pure]
    · rename_i since seen stepped hg
      obtain ⟨hsh, ho⟩ := hr.obj r L _ hb hg
      rw [hsh]
      have hgo : (Go.getObj L.n).run P w = .ok (.mapIter none since ⟨seen⟩ stepped) w := by simp [Go.getObj, Sem.run, ho]
      refine ⟨_, _, w, .tuple #[.bool false], he, ?_, .tuple' (.single (.bool false)), .refl hr⟩
      simp only [Instr.next, Sem.run_bind, hgo, Result.andThen_ok, Sem.run_pure]
    · rename_i m since seen last hg
      obtain ⟨hsh, Lm, hm, ho⟩ := hr.obj r L _ hb hg
      have := nextM_ok hr hb hg (ty := ty) he
      rw [hsh]
      exact this
    · cases he
  · cases he

/-- deferred calls. -/
inductive DR (f : Ren) : List Deferred → List Deferred → Prop
  | nil : DR f [] []
  | cons (fn : Fn) {c c' a a' : List Value} {l l' : List Deferred} (hc : VL f c c') (ha : VL f a a') (t : DR f l l') :
      DR f ({ target := .fn fn ⟨c⟩, args := ⟨a⟩ } :: l) ({ target := .fn fn ⟨c'⟩, args := ⟨a'⟩ } :: l')

theorem DR.mono {f g : Ren} (hfg : RLe f g) {l l' : List Deferred} (h : DR f l l') : DR g l l' := by
  induction h with
  | nil => exact .nil
  | cons fn hc ha _ ih => exact .cons fn (hc.mono hfg) (ha.mono hfg) ih

/-- what a call does. -/
def CallOK (P : Program) (call : CallF) : Prop :=
  ∀ (fn : FuncId) (args : List Value) (h : Mem) (n : Nat) (v : Value) (h' : Mem) (n' : Nat), call fn args h n = some (v, h', n') →
    ∀ (f : Ren) (w : World) (args' : List Value), R P f h n w → VL f args args' →
      Calls P fn ⟨args'⟩ w fun
        | .returned v', w' => ∃ g, VR g v v' ∧ Step P f h n w g h' n' w'
        | .panicked _, _ => False
        | .outgrown, _ => False

/-- what an operation does: its value, the memory behind it, what was put off. -/
def Out (P : Program) (f : Ren) (h : Mem) (n : Nat) (w : World) (a : Act) (o : Oper) (v : Value) (h' : Mem) (n' : Nat) (ds' : List Deferred) : Prop :=
  ∀ (next : Act → World → Prop) (Q : Exit → Act → World → Prop),
    (∀ g v' w' dl, VR g v v' → Step P f h n w g h' n' w' → DR g ds' dl → next ({ a with defers := dl }.put o.dst v') w') → o.wp P a w next Q

/-- an operation of a value, run. -/
theorem out_val {f g : Ren} {h h' : Mem} {n n' : Nat} {w w' : World} {a : Act} {o : Oper} {v v' : Value} {ds : List Deferred} (hd : DR f ds a.defers) (hv : VR g v v')
    (hs : Step P f h n w g h' n' w') (hrun : (execOp a.eval o).run P w = .ok (.value v') w') : Out P f h n w a o v h' n' ds := by
  intro next Q hn
  have := hn g v' w' a.defers hv hs (hd.mono hs.le)
  unfold Oper.wp
  rw [hrun, Oper.upon_value]
  exact this

theorem out_skip {f g : Ren} {h h' : Mem} {n n' : Nat} {w w' : World} {a : Act} {o : Oper} {ds : List Deferred} (hd : DR f ds a.defers)
    (hs : Step P f h n w g h' n' w') (hrun : (execOp a.eval o).run P w = .ok .skip w') : Out P f h n w a o undef h' n' ds := by
  intro next Q hn
  have := hn g undef w' a.defers (.tuple' .nil) hs (hd.mono hs.le)
  unfold Oper.wp
  rw [hrun, Oper.upon_skip]
  exact this

theorem evFloat_ok {β : Type} {f : Ren} {s : St} {w : World} (hr : R P f s.h s.n w) {ρ : Operand → Value} {a : Act} {o : Oper} (ho : OpR f ρ a.eval o.op) (hd : DR f s.ds a.defers)
    {k : KO β} {z : β} (he : evFloat P ρ s o.op k = some z) : ∃ v h' n' ds', k v h' n' ds' = some z ∧ Out P f s.h s.n w a o v h' n' ds' := by
  unfold evFloat at he
  split at he
  · rename_i v hv
    rw [nfK_eq] at he
    obtain ⟨r, ⟨v', h1, rfl⟩, h2⟩ := evF_sound hr ho hv
    exact ⟨_, _, _, _, he, out_val hd h1 (.refl hr) h2⟩
  · rename_i l e hv
    rw [nfL_eq (nfK_eq 6)] at he
    obtain ⟨r, ⟨l', h1, rfl⟩, h2⟩ := evF_sound hr ho hv
    obtain ⟨c, k1, k2⟩ := newA_ok he
    have hst := hr.pushCells (w' := { w with heap := w.heap.push (.cells ⟨l'⟩ e) }) (l := l) (l' := l') (e := e) (fr := (0, 0)) (c := c) (z := (sizeP P e).getD 0) k2 rfl ⟨rfl, rfl, rfl⟩
      (fun y hy => by rw [hy]; rfl) (fun j _ h => by simp at h) (Nat.le_of_eq h1.len) (fun i v hv => h1.ex hv)
    refine ⟨_, _, _, _, k1, out_val hd ?_ hst h2⟩
    have := VR.ptr (f := f.put s.n ⟨w.heap.size, l'.length, (sizeP P e).getD 0, 0⟩) (b := s.n) (o := 0) (L := ⟨w.heap.size, l'.length, (sizeP P e).getD 0, 0⟩) (by simp [Ren.put])
    simpa using this
  · rename_i len cap l e hv
    rw [nfL_eq (nfK_eq 6)] at he
    simp only [natK_eq] at he
    obtain ⟨r, ⟨l', cap', w', fr, rfl, h1, h3, ⟨z1, h4, h5, h6, h7⟩, h8, h9, h10⟩, h2⟩ := evF_sound hr ho hv
    obtain ⟨c, k1, k2⟩ := newA_ok he
    have hst := hr.pushCells (w' := w') (l := l) (l' := l') (e := e) (fr := fr) (c := c) (z := z1) k2 h1 h3 (fun y hy => by rw [h4] at hy; cases hy; rfl) h8 h9 h10
    refine ⟨_, _, _, _, k1, out_val hd ?_ hst h2⟩
    have := VR.slice (f := f.put s.n ⟨w.heap.size, l'.length, z1, 0⟩) (b := s.n) (o := 0) (len := len) (cap := cap) (cap' := cap') (L := ⟨w.heap.size, l'.length, z1, 0⟩) (by simp [Ren.put]) h5
      (fun hne => ⟨(h6 hne).1, by simpa using (h6 hne).2⟩) (fun h0 => by simpa using h7 h0)
    simpa using this
  · rename_i hv
    obtain ⟨r, hr1, h2⟩ := evF_sound hr ho hv
    simp only [FOK] at hr1
    subst hr1
    rw [T.setK_set] at he
    refine ⟨_, _, _, _, he, out_val hd ?_ (hr.pushObj (x := .map #[] 0) fun g _ => ⟨#[], rfl, rfl, by simp⟩) h2⟩
    have := VR.map (f := f.put s.n ⟨w.heap.size, 0, 0, 0⟩) (b := s.n) (L := ⟨w.heap.size, 0, 0, 0⟩) (by simp [Ren.put])
    exact this
  · cases he

theorem evStore_ok {β : Type} {f : Ren} {s : St} {w : World} (hr : R P f s.h s.n w) {ρ : Operand → Value} {a : Act} {o : Oper} {t : TypeId} {x y : Operand} (hop : o.op = .store t x y)
    (hx : VR f (ρ x) (a.eval x)) (hy : VR f (ρ y) (a.eval y)) (hd : DR f s.ds a.defers) {k : KO β} {z : β} (he : evStore P ρ s t x y k = some z) :
    ∃ v h' n' ds', k v h' n' ds' = some z ∧ Out P f s.h s.n w a o v h' n' ds' := by
  unfold evStore at he
  split at he
  · rename_i b off hb
    rw [hb] at hx
    split at he
    · rename_i m hm
      split at he
      · rename_i hlen
        have hlen' : (cellsA (ρ y)).length = m := Nat.eq_of_beq_eq_true hlen
        generalize hxe : a.eval x = xv at hx
        cases hx with
        | @ptr _ _ L hL =>
        obtain ⟨h', w', h1, h2, h3, _⟩ := storeA_ok hr hL hy.cells he
        refine ⟨_, _, _, _, h1, out_skip hd h3 ?_⟩
        have hc : ((a.eval y).cells.size ≠ m) = False := by
          rw [cellsA_eq]; simp [← hy.cells.len, hlen']
        simp [execOp, hop, hxe, Instr.storeAt, Instr.sureAddr, storeVar, run_sz hm, cellsA_eq, ← hy.cells.len, hlen', h2]
      · cases he
    · cases he
  · cases he

end
end Go.Proofs.YtedbjceeakmjgaaGreatDoor.Ev
