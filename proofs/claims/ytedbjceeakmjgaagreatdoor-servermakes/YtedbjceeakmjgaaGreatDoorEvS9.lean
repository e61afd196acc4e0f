/- The evaluator of closed runs: EvS9 -/
import Derived.Test.YtedbjceeakmjgaaGreatDoorEvS8
namespace Go.Proofs.YtedbjceeakmjgaaGreatDoor.Ev
set_option linter.unusedSimpArgs false

section
variable {P : Program}

theorem out_enter {f : Ren} {h h' : Mem} {n n' : Nat} {w : World} {a : Act} {o : Oper} {v : Value} {ds : List Deferred} {call : CallF} (hcall : CallOK P call) (hr : R P f h n w) (hd : DR f ds a.defers)
    {fn : FuncId} {args args' : List Value} (he : call fn args h n = some (v, h', n')) (ha : VL f args args') (hrun : (execOp a.eval o).run P w = .ok (.enter fn ⟨args'⟩) w) :
    Out P f h n w a o v h' n' ds := by
  intro next Q hn
  unfold Oper.wp
  rw [hrun, Oper.upon_enter]
  refine Calls.mono (hcall fn args h n v h' n' he f w args' hr ha) fun e w' hR => ?_
  cases e with
  | returned v' =>
    obtain ⟨g, h1, h2⟩ := hR
    have := hn g v' w' a.defers h1 h2 (hd.mono h2.le)
    exact this
  | panicked c => exact hR.elim
  | outgrown => exact hR.elim

theorem run_callFunc {f : FuncId} {args : Array Value} (h : funOk P f = true) (w : World) : (callFunc f args).run P w = .ok (.enter f args) w := by
  unfold funOk at h
  split at h
  · rename_i fn hf
    simp only [Bool.and_eq_true, Bool.not_eq_true'] at h
    have hb : fn.body ≠ none := by
      intro hb; rw [hb] at h; simp at h
    have hne : fn.name ≠ "runtime.NumGoroutine" := by simpa using h.1
    simp [callFunc, hf, hne, hb]
  · cases h

theorem run_callMethod {f : Ren} {t : TypeId} {v v' : Value} {name : String} {fn : FuncId} {r : Value} (hv : VR f v v') (hm : methodP P t v name = some (fn, r)) (hf : funOk P fn = true)
    {args args' : List Value} (ha : VL f args args') (w : World) : ∃ l', VL f (r :: args) l' ∧ (callMethod (.iface t v') name ⟨args'⟩).run P w = .ok (.enter fn ⟨l'⟩) w := by
  unfold methodP at hm
  split at hm
  · rename_i i hi
    split at hm
    · rename_i m hfind
      split at hm
      · rename_i hpath
        have hfind' : i.methods.find? (fun x => x.name == name) = some m := by rw [← hfind]; simp
        have hpe : m.path.isEmpty = true := by
          have : m.path = #[] := by apply Array.ext'; simpa using hpath
          rw [this]; rfl
        have key : ∀ (d : TypeDesc) (pr : Bool), m.func = some (fn, pr) → P.underlying t = some d → (∀ e, d = .pointer e → pr = true) → (pr = true → ∃ e, d = .pointer e) →
            (callMethod (.iface t v') name ⟨args'⟩).run P w = .ok (.enter fn ⟨v' :: args'⟩) w := by
          intro d pr hfn hu hpd hpr
          have hrec : (receiverAt t (.val v') pr (some ((name.splitOn ".").getLastD name))).run P w = .ok v' w := by
            cases pr with
            | true =>
              obtain ⟨e, rfl⟩ := hpr rfl
              simp [receiverAt, run_underlying hu, Place.get]
            | false =>
              cases d <;> first
                | exact absurd (hpd _ rfl) (by simp)
                | simp [receiverAt, run_underlying hu, Place.get]
          have hmeth : (method (P.types.size + Made.depth) t v' name).run P w = .ok (fn, v') w := by
            have hd : P.types.size + Made.depth = (P.types.size + 99) + 1 := rfl
            rw [hd]
            unfold method
            simp only [Sem.run_bind, run_typeInfo w hi, Result.andThen_ok, hfind', hpath, follow, Sem.run_pure, hfn, hpe, if_true, hrec]
          have hcf := run_callFunc (P := P) (f := fn) (args := #[v'] ++ ⟨args'⟩) hf w
          have he : #[v'] ++ (⟨args'⟩ : Array Value) = ⟨v' :: args'⟩ := by apply Array.ext'; simp
          rw [he] at hcf
          simp only [callMethod, Sem.run_bind, run_program, Result.andThen_ok, hmeth, he, hcf]
        split at hm
        · rename_i f0 hfn
          split at hm
          · rename_i e hu
            cases hm
            exact ⟨v' :: args', .cons hv ha, key _ true hfn hu (fun _ _ => rfl) (fun _ => ⟨e, rfl⟩)⟩
          · cases hm
        · rename_i f0 hfn
          split at hm
          · cases hm
          · rename_i d hn hu
            cases hm
            exact ⟨v' :: args', .cons hv ha, key d false hfn hu (fun e he => absurd he (hn e)) (fun h => by cases h)⟩
          · cases hm
        · cases hm
      · cases hm
    · cases hm
  · cases hm

theorem run_target {f : Ren} {ρ : Operand → Value} {a : Act} {o : Oper} {c : Call} {fn : FuncId} {args : List Value} (hop : o.op = .call c) (ho : OpR f ρ a.eval (.call c))
    (ht : targetA P ρ c = some (fn, args)) (hf : funOk P fn = true) (w : World) : ∃ args', VL f args args' ∧ (execOp a.eval o).run P w = .ok (.enter fn ⟨args'⟩) w := by
  obtain ⟨callee, ⟨xs⟩, ats⟩ := c
  unfold targetA at ht
  cases callee with
  | value x =>
    have hx : VR f (ρ x) (a.eval x) := ho x (by simp [Op.operands, Call.operands])
    have ha : VL f (xs.map ρ) (xs.map a.eval) := VL.map xs fun y hy => ho y (by simp [Op.operands, Call.operands, hy])
    simp only at ht
    have hmap : Array.map a.eval ⟨xs⟩ = ⟨xs.map a.eval⟩ := by simp
    generalize hv : a.eval x = xv at hx
    split at ht
    · rename_i g first captured hfv
      cases ht
      rw [hfv] at hx
      cases hx with
      | func _ _ a' _ b' e1 e2 e3 e4 =>
      have h1 : VL f first a' := VL.of _ _ e1 e3
      have h2 : VL f captured b' := VL.of _ _ e2 e4
      refine ⟨_, (h1.append ha).append h2, ?_⟩
      have he : (⟨a'⟩ : Array Value) ++ ⟨xs.map a.eval⟩ ++ ⟨b'⟩ = ⟨a' ++ xs.map a.eval ++ b'⟩ := by apply Array.ext'; simp
      have hcf := run_callFunc (P := P) (f := fn) (args := (⟨a'⟩ : Array Value) ++ ⟨xs.map a.eval⟩ ++ ⟨b'⟩) hf w
      rw [he] at hcf
      simp only [execOp, hop, resolve, Deferred.ofValue, hv, hmap, Sem.run_bind, Sem.run_pure, Result.andThen_ok, invoke, he, hcf]
    · rename_i name first captured hfv
      rw [hfv] at hx
      cases hx with
      | func _ _ a' _ b' e1 e2 e3 e4 =>
      split at ht
      · rename_i y
        unfold viaMethod at ht
        split at ht
        · rename_i t v
          split at ht
          · rename_i f0 r hm
            cases ht
            have h1 : VL f [.iface t v] a' := VL.of _ _ e1 e3
            cases h1 with
            | cons hy hnil =>
            cases hnil
            cases hy with
            | @iface _ _ v' hv' =>
            obtain ⟨l', k1, k2⟩ := run_callMethod (P := P) hv' hm hf ha w
            refine ⟨l', k1, ?_⟩
            have he : (⟨[.iface t v']⟩ : Array Value) ++ ⟨xs.map a.eval⟩ = ⟨.iface t v' :: xs.map a.eval⟩ := by apply Array.ext'; simp
            have h0 : (⟨.iface t v' :: xs.map a.eval⟩ : Array Value)[0]? = some (.iface t v') := by simp
            have hex : (⟨.iface t v' :: xs.map a.eval⟩ : Array Value).extract 1 (⟨.iface t v' :: xs.map a.eval⟩ : Array Value).size = ⟨xs.map a.eval⟩ := by
              apply Array.ext'; simp [List.take_of_length_le]
            simp only [execOp, hop, resolve, Deferred.ofValue, hv, hmap, Sem.run_bind, Sem.run_pure, Result.andThen_ok, invoke, he, h0, hex, k2]
          · cases ht
        · cases ht
      · cases ht
    · cases ht
  | invoke x name =>
    have hx : VR f (ρ x) (a.eval x) := ho x (by simp [Op.operands, Call.operands])
    have ha : VL f (xs.map ρ) (xs.map a.eval) := VL.map xs fun y hy => ho y (by simp [Op.operands, Call.operands, hy])
    have hmap : Array.map a.eval ⟨xs⟩ = ⟨xs.map a.eval⟩ := by simp
    simp only at ht
    generalize hv : a.eval x = xv at hx
    unfold viaMethod at ht
    split at ht
    · rename_i t v hfv
      rw [hfv] at hx
      split at ht
      · rename_i f0 r hm
        cases ht
        cases hx with
        | @iface _ _ v' hv' =>
        obtain ⟨l', k1, k2⟩ := run_callMethod (P := P) hv' hm hf ha w
        refine ⟨l', k1, ?_⟩
        have he : #[Value.iface t v'] ++ (⟨xs.map a.eval⟩ : Array Value) = ⟨.iface t v' :: xs.map a.eval⟩ := by apply Array.ext'; simp
        have h0 : (⟨.iface t v' :: xs.map a.eval⟩ : Array Value)[0]? = some (.iface t v') := by simp
        have hex : (⟨.iface t v' :: xs.map a.eval⟩ : Array Value).extract 1 (⟨.iface t v' :: xs.map a.eval⟩ : Array Value).size = ⟨xs.map a.eval⟩ := by
          apply Array.ext'; simp [List.take_of_length_le]
        simp only [execOp, hop, resolve, hv, hmap, Sem.run_bind, Sem.run_pure, Result.andThen_ok, invoke, he, h0, hex, k2]
      · cases ht
    · cases ht
  | builtin b => cases ht

theorem evCallO_ok {β : Type} {f : Ren} {s : St} {w : World} (hr : R P f s.h s.n w) {call : CallF} (hcall : CallOK P call) {ρ : Operand → Value} {a : Act} {o : Oper} {c : Call} (hop : o.op = .call c)
    (ho : OpR f ρ a.eval (.call c)) (hd : DR f s.ds a.defers) {k : KO β} {z : β} (he : evCallO P call ρ s c k = some z) :
    ∃ v h' n' ds', k v h' n' ds' = some z ∧ Out P f s.h s.n w a o v h' n' ds' := by
  have hfun : ∀ (hnb : ∀ b, c.callee ≠ .builtin b), evFun P call ρ s c k = some z → ∃ v h' n' ds', k v h' n' ds' = some z ∧ Out P f s.h s.n w a o v h' n' ds' := by
    intro _ he
    unfold evFun at he
    split at he
    · rename_i fn args ht
      split at he
      · rename_i hf
        split at he
        · rename_i v h' n' hc
          obtain ⟨args', h1, h2⟩ := run_target (P := P) hop ho ht hf w
          exact ⟨_, _, _, _, he, out_enter hcall hr hd hc h1 h2⟩
        · cases he
      · cases he
    · cases he
  unfold evCallO at he
  split at he
  · rename_i b hb
    obtain ⟨callee, ⟨xs⟩, ⟨ats⟩⟩ := c
    simp only at hb
    subst hb
    have ha : VL f (xs.map ρ) (xs.map a.eval) := VL.map xs fun y hy => ho y (by simp [Op.operands, Call.operands, hy])
    unfold evBuiltin at he
    split at he
    · simp only at he
      split at he
      · rename_i s0 x0 t u h1
        have h1 : xs.map ρ = [s0, x0] := h1
        rw [h1] at ha
        obtain ⟨s', x', e1, e2, e3⟩ : ∃ s' x', xs.map a.eval = [s', x'] ∧ VR f s0 s' ∧ VR f x0 x' := by
          generalize xs.map a.eval = l at ha
          cases ha with
          | cons p q => cases q with
            | cons p2 q2 => cases q2; exact ⟨_, _, rfl, p, p2⟩
        obtain ⟨v, h', n', k1, g, v', w', k2, k3, k4⟩ := appendA_ok hr e2 e3 he
        refine ⟨_, _, _, _, k1, out_val hd k3 k4 ?_⟩
        have hl' : Array.map a.eval ⟨xs⟩ = #[s', x'] := by apply Array.ext'; simpa using e1
        have := k2 o.type
        simp only [execOp, hop, resolve, invoke, builtin, Sem.run_bind, Sem.run_pure, Result.andThen_ok, hl', this]
      · cases he
    · simp only at he
      split at he
      · rename_i x0 t h1
        have h1 : xs.map ρ = [x0] := h1
        rw [h1] at ha
        obtain ⟨x', e1, e2⟩ : ∃ x', xs.map a.eval = [x'] ∧ VR f x0 x' := by
          generalize xs.map a.eval = l at ha
          cases ha with
          | cons p q => cases q; exact ⟨_, rfl, p⟩
        obtain ⟨h', w', k1, k2, k3⟩ := clearA_ok hr e2 he
        refine ⟨_, _, _, _, k1, out_val hd (.tuple' .nil) k3 ?_⟩
        have hl' : Array.map a.eval ⟨xs⟩ = #[x'] := by apply Array.ext'; simpa using e1
        have := k2 o.type
        simp only [execOp, hop, resolve, invoke, builtin, Sem.run_bind, Sem.run_pure, Result.andThen_ok, hl', this]
      · cases he
    · split at he
      · rename_i v hv
        rw [nfK_eq] at he
        have hev : evF P ρ s.h o.op = some (.val v) := by rw [hop]; exact hv
        obtain ⟨r, ⟨v', h1, rfl⟩, h2⟩ := evF_sound hr (by rw [hop]; exact ho) hev
        exact ⟨_, _, _, _, he, out_val hd h1 (.refl hr) h2⟩
      · cases he
  · rename_i hnb
    exact hfun hnb he

theorem evDefer_ok {β : Type} {f : Ren} {s : St} {w : World} (hr : R P f s.h s.n w) {ρ : Operand → Value} {a : Act} {o : Oper} {c : Call} (hop : o.op = .defer c)
    (ho : OpR f ρ a.eval (.defer c)) (hd : DR f s.ds a.defers) {k : KO β} {z : β} (he : evDefer ρ s c k = some z) :
    ∃ v h' n' ds', k v h' n' ds' = some z ∧ Out P f s.h s.n w a o v h' n' ds' := by
  obtain ⟨callee, ⟨xs⟩, ats⟩ := c
  unfold evDefer at he
  cases callee with
  | value x =>
    have hx : VR f (ρ x) (a.eval x) := ho x (by simp [Op.operands, Call.operands])
    have ha : VL f (xs.map ρ) (xs.map a.eval) := VL.map xs fun y hy => ho y (by simp [Op.operands, Call.operands, hy])
    simp only at he
    generalize hv : a.eval x = xv at hx
    split at he
    · rename_i fn first captured hfv
      rw [hfv] at hx
      cases hx with
      | func _ _ a' _ b' e1 e2 e3 e4 =>
      refine ⟨_, _, _, _, he, ?_⟩
      intro next Q hn
      have := hn f undef w ({ target := .fn fn ⟨b'⟩, args := ⟨a' ++ xs.map a.eval⟩ } :: a.defers) (.tuple' .nil) (.refl hr)
        (.cons fn (VL.of _ _ e2 e4) ((VL.of _ _ e1 e3).append ha) hd)
      unfold Oper.wp
      have he : (⟨a'⟩ : Array Value) ++ ⟨xs.map a.eval⟩ = ⟨a' ++ xs.map a.eval⟩ := by apply Array.ext'; simp
      have hmap : Array.map a.eval ⟨xs⟩ = ⟨xs.map a.eval⟩ := by simp
      have hrun : (execOp a.eval o).run P w = .ok (.defer { target := .fn fn ⟨b'⟩, args := ⟨a' ++ xs.map a.eval⟩ }) w := by
        simp only [execOp, hop, resolve, Deferred.ofValue, hv, hmap, Sem.run_bind, Sem.run_pure, Result.andThen_ok, he]
      rw [hrun, Oper.upon_defer]
      exact this
    · cases he
  | _ => cases he

/-- EVERY OPERATION does what the abstract one does. -/
theorem evO_ok {β : Type} {f : Ren} {s : St} {w : World} (hr : R P f s.h s.n w) {call : CallF} (hcall : CallOK P call) {a : Act} {o : Oper}
    (ho : OpR f (opd s.tm) a.eval o.op) (hd : DR f s.ds a.defers) {k : KO β} {z : β} (he : evO P call o.op s k = some z) :
    ∃ v h' n' ds', k v h' n' ds' = some z ∧ Out P f s.h s.n w a o v h' n' ds' := by
  unfold evO at he
  split at he
  · rename_i t x y hop
    exact evStore_ok hr hop (ho x (by rw [hop]; simp [Op.operands])) (ho y (by rw [hop]; simp [Op.operands])) hd he
  · rename_i c hop
    exact evCallO_ok hr hcall hop (by rw [← hop]; exact ho) hd he
  · rename_i t m key x hop
    obtain ⟨h', w', k1, k2, k3⟩ := updateA_ok hr (ho m (by rw [hop]; simp [Op.operands])) (ho key (by rw [hop]; simp [Op.operands])) (ho x (by rw [hop]; simp [Op.operands])) he
    exact ⟨_, _, _, _, k1, out_skip hd k3 (by simp [execOp, hop, k2])⟩
  · rename_i t m key x hop
    obtain ⟨h', w', k1, k2, k3⟩ := updateA_ok hr (ho m (by rw [hop]; simp [Op.operands])) (ho key (by rw [hop]; simp [Op.operands])) (ho x (by rw [hop]; simp [Op.operands])) he
    exact ⟨_, _, _, _, k1, out_skip hd k3 (by simp [execOp, hop, k2])⟩
  · rename_i t x hop
    obtain ⟨h', w', v', g, k1, k2, k3, k4⟩ := rangeA_ok hr (ho x (by rw [hop]; simp [Op.operands])) he
    exact ⟨_, _, _, _, k1, out_val hd k3 k4 (by simp [execOp, hop, k2])⟩
  · rename_i it is hop
    obtain ⟨v, h', w', v', k1, k2, k3, k4⟩ := nextA_ok (ty := o.type) hr (ho it (by rw [hop]; simp [Op.operands])) he
    exact ⟨_, _, _, _, k1, out_val hd k3 k4 (by simp [execOp, hop, k2])⟩
  · rename_i c hop
    exact evDefer_ok hr hop (by rw [← hop]; exact ho) hd he
  · exact evFloat_ok hr ho hd he

end
end Go.Proofs.YtedbjceeakmjgaaGreatDoor.Ev
