/- The evaluator of closed runs: EvF8 -/
import Derived.Test.YtedbjceeakmjgaaGreatDoorEvF7
namespace Go.Proofs.YtedbjceeakmjgaaGreatDoor.Ev
set_option linter.unusedSimpArgs false

section
variable {P : Program}

/-- an operand's value stands for the world's. -/
def OpR (f : Ren) (ρ ρ' : Operand → Value) (o : Op) : Prop := ∀ x ∈ o.operands.toList, VR f (ρ x) (ρ' x)

theorem optR {f : Ren} {ρ ρ' : Operand → Value} : ∀ (x : Option Operand), (∀ y, x = some y → VR f (ρ y) (ρ' y)) → OV f (optV ρ x) (x.map ρ')
  | none, _ => .none
  | some y, h => .some (h y rfl)

theorem partsR {f : Ren} {ρ ρ' : Operand → Value} : ∀ (l : List (Nat × Operand)), (∀ x ∈ l.map (·.2), VR f (ρ x) (ρ' x)) → PL f (partsV ρ l) (l.map fun p => (p.1, ρ' p.2))
  | [], _ => .nil
  | (i, x) :: l, h => .cons i (h x (by simp)) (partsR l fun y hy => h y (by simp at hy ⊢; exact .inr hy))

theorem VL.map {f : Ren} {ρ ρ' : Operand → Value} : ∀ (l : List Operand), (∀ x ∈ l, VR f (ρ x) (ρ' x)) → VL f (l.map ρ) (l.map ρ')
  | [], _ => .nil
  | x :: l, h => .cons (h x (by simp)) (VL.map l fun y hy => h y (by simp [hy]))

/-- the model's value of an operation. -/
def NV (r : Result Value) : Result Next :=
  match r with
  | .ok v w => .ok (.value v) w
  | .halt h w => .halt h w

theorem nv_run {s : Sem Value} {w : World} : (do pure (.value (← s)) : Sem Next).run P w = NV (s.run P w) := by
  rw [Sem.run_bind]
  cases s.run P w <;> rfl

/-- EVERY OPERATION THAT CHANGES NOTHING does what the abstract one does. -/
theorem evF_sound {f : Ren} {h : Mem} {n : Nat} {w : World} (hr : R P f h n w) {ρ ρ' : Operand → Value} {o : Oper} {fr : FR} (ho : OpR f ρ ρ' o.op)
    (he : evF P ρ h o.op = some fr) : ∃ r, FOK P f w r fr ∧ (execOp ρ' o).run P w = NV r := by
  generalize hop : o.op = p at he ho
  have hx1 : ∀ x, x ∈ p.operands.toList → VR f (ρ x) (ρ' x) := ho
  cases p with
  | move x => cases he; exact ⟨.ok (ρ' x) w, ⟨_, hx1 x (by simp [Op.operands]), rfl⟩, by simp [execOp, hop, NV]⟩
  | assign x => cases he; exact ⟨.ok (ρ' x) w, ⟨_, hx1 x (by simp [Op.operands]), rfl⟩, by simp [execOp, hop, NV]⟩
  | pick c a b =>
    refine ⟨_, f_pick (hx1 c (by simp [Op.operands])) (hx1 a (by simp [Op.operands])) (hx1 b (by simp [Op.operands])) he, ?_⟩
    rw [← nv_run]; simp [execOp, hop]
  | load t a =>
    refine ⟨_, f_load hr (hx1 a (by simp [Op.operands])) he, ?_⟩
    rw [← nv_run]; simp [execOp, hop]
  | alloc e =>
    refine ⟨_, f_alloc he, ?_⟩
    rw [← nv_run]; simp [execOp, hop]
  | box e x =>
    cases he
    refine ⟨_, f_box (hx1 x (by simp [Op.operands])), ?_⟩
    rw [← nv_run]; simp [execOp, hop]
  | build t ps =>
    obtain ⟨l⟩ := ps
    refine ⟨_, f_build (partsR l fun x hx => hx1 x (by simpa [Op.operands] using hx)) he, ?_⟩
    rw [← nv_run]; simp [execOp, hop]
  | buildSlice t m ps =>
    obtain ⟨l⟩ := ps
    refine ⟨_, f_buildSlice (partsR l fun x hx => hx1 x (by simpa [Op.operands] using hx)) he, ?_⟩
    rw [← nv_run]; simp [execOp, hop]
  | fieldAddr s x k =>
    refine ⟨_, f_fieldAddr (hx1 x (by simp [Op.operands])) he, ?_⟩
    rw [← nv_run]; simp [execOp, hop]
  | field s x k =>
    refine ⟨_, f_field (hx1 x (by simp [Op.operands])) he, ?_⟩
    rw [← nv_run]; simp [execOp, hop]
  | indexAddr t x i =>
    refine ⟨_, f_indexAddr (hx1 x (by simp [Op.operands])) (hx1 i (by simp [Op.operands])) he, ?_⟩
    rw [← nv_run]; simp [execOp, hop]
  | extract x i =>
    refine ⟨_, f_extract (hx1 x (by simp [Op.operands])) he, ?_⟩
    rw [← nv_run]; simp [execOp, hop]
  | slice t x lo hi mx =>
    refine ⟨_, f_slice hr (hx1 x (by simp [Op.operands])) (optR lo fun y hy => hx1 y (by subst hy; simp [Op.operands])) (optR hi fun y hy => hx1 y (by subst hy; simp [Op.operands]))
      (optR mx fun y hy => hx1 y (by subst hy; simp [Op.operands])) he, ?_⟩
    rw [← nv_run]; simp [execOp, hop]
  | makeInterface t x =>
    refine ⟨_, f_makeInterface (hx1 x (by simp [Op.operands])) he, ?_⟩
    rw [← nv_run]; simp [execOp, hop]
  | typeAssert x xt t ok =>
    refine ⟨_, f_typeAssert (xt := xt) (hx1 x (by simp [Op.operands])) he, ?_⟩
    rw [← nv_run]; simp [execOp, hop]
  | makeFunc fn a b =>
    obtain ⟨a⟩ := a
    obtain ⟨b⟩ := b
    cases he
    refine ⟨_, f_makeFunc (VL.map a fun x hx => hx1 x (by simp [Op.operands, hx])) (VL.map b fun x hx => hx1 x (by simp [Op.operands, hx])), ?_⟩
    rw [← nv_run]; simp [execOp, hop]
  | nilCheck x =>
    obtain ⟨r, h1, h2⟩ := f_nilCheck (P := P) (w := w) (ρ := ρ') hop rfl (hx1 x (by simp [Op.operands])) he
    exact ⟨r, h1, h2⟩
  | binOp op t x y yt =>
    refine ⟨_, f_binOp (hx1 x (by simp [Op.operands])) (hx1 y (by simp [Op.operands])) he, ?_⟩
    rw [← nv_run]; simp [execOp, hop]
  | unOp op t x =>
    refine ⟨_, f_unOp (hx1 x (by simp [Op.operands])) he, ?_⟩
    rw [← nv_run]; simp [execOp, hop]
  | makeMap t r =>
    cases r with
    | none =>
      cases he
      refine ⟨_, f_makeMap (t := t), ?_⟩
      rw [← nv_run]; simp [execOp, hop]
    | some x => cases he
  | makeSlice t l c =>
    refine ⟨_, f_makeSlice (hx1 l (by simp [Op.operands])) (hx1 c (by simp [Op.operands])) he, ?_⟩
    rw [← nv_run]; simp [execOp, hop]
  | lookup t x i ok =>
    refine ⟨_, f_lookup hr (hx1 x (by simp [Op.operands])) (hx1 i (by simp [Op.operands])) he, ?_⟩
    rw [← nv_run]; simp [execOp, hop]
  | entry it =>
    refine ⟨_, f_entry hr (hx1 it (by simp [Op.operands])) he, ?_⟩
    rw [← nv_run]; simp [execOp, hop]
  | convert s d x =>
    refine ⟨_, f_convert hr (hx1 x (by simp [Op.operands])) he, ?_⟩
    rw [← nv_run]; simp [execOp, hop]
  | index t x i =>
    refine ⟨_, f_index (hx1 x (by simp [Op.operands])) (hx1 i (by simp [Op.operands])) he, ?_⟩
    rw [← nv_run]; simp [execOp, hop]
  | call c =>
    obtain ⟨callee, ⟨args⟩, ⟨ats⟩⟩ := c
    simp only [evF, fCall] at he
    cases callee with
    | builtin b =>
      have ha : VL f (args.map ρ) (args.map ρ') := VL.map args fun x hx => hx1 x (by simp [Op.operands, Call.operands, hx])
      simp only at he
      unfold fBuiltin at he
      cases b with
      | len =>
        simp only at he
        split at he
        · rename_i t x heq
          rw [heq] at ha
          obtain ⟨y, hl, hv⟩ : ∃ y, args.map ρ' = [y] ∧ VR f x y := by
            generalize args.map ρ' = l' at ha
            cases ha with
            | cons hv ht => cases ht; exact ⟨_, rfl, hv⟩
          refine ⟨_, f_len hr hv he, ?_⟩
          rw [← nv_run]
          have hl' : Array.map ρ' ⟨args⟩ = #[y] := by apply Array.ext'; simpa using hl
          simp only [execOp, hop, resolve, invoke, builtin, Sem.run_bind, Sem.run_pure, Result.andThen_ok, hl']
          rfl
        · cases he
      | min =>
        refine ⟨_, f_minMax ha he ⟨ats⟩ o.type, ?_⟩
        rw [← nv_run]
        simp only [execOp, hop, resolve, invoke, builtin, Sem.run_bind, Sem.run_pure, Result.andThen_ok, List.map_toArray]
      | max =>
        refine ⟨_, f_minMax ha he ⟨ats⟩ o.type, ?_⟩
        rw [← nv_run]
        simp only [execOp, hop, resolve, invoke, builtin, Sem.run_bind, Sem.run_pure, Result.andThen_ok, List.map_toArray]
      | _ => cases he
    | _ => cases he
  | _ => cases he

end
end Go.Proofs.YtedbjceeakmjgaaGreatDoor.Ev
