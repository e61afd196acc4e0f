/- The evaluator of closed runs: EvD6 -/
import Derived.Test.YtedbjceeakmjgaaGreatDoorEvD5
import Derived.Test.YtedbjceeakmjgaaGreatDoorEvC2
namespace Go.Proofs.YtedbjceeakmjgaaGreatDoor.Ev
set_option linter.unusedSimpArgs false

section
variable {P : Program}

theorem nodupN_eq : ∀ {l : List Nat}, nodupN l = true → l.Nodup
  | [], _ => List.nodup_nil
  | a :: l, h => by
    simp only [nodupN, Bool.and_eq_true, Bool.not_eq_true'] at h
    refine List.nodup_cons.2 ⟨fun hm => ?_, nodupN_eq h.2⟩
    have : l.any (fun b => Nat.beq a b) = true := List.any_eq_true.2 ⟨a, hm, by simp⟩
    rw [this] at h; cases h.1

theorem floatAt_eq {ops : Array Oper} {ms : List Nat} {i : Nat} (h : floatAt ops ms i = true) : ∃ q, ops[i]? = some q ∧ FL ops ms i q := by
  unfold floatAt at h
  split at h
  · rename_i o ho; exact ⟨o, ho, floats_eq h⟩
  · cases h

theorem planned_eq {ops : Array Oper} {p : Plan} (h : planned ops = some p) : planOk ops p = true := by
  unfold planned at h
  split at h
  · rename_i hp; cases h; exact hp
  · cases h

/-- another count of what was drawn. -/
theorem Step.drew {f g : Ren} {h h' : Mem} {n n' : Nat} {w w₁ w' : World} (hs : Step P f h n w₁ g h' n' w') (hh : w₁.heap = w.heap) (ht : w₁.tape = w.tape ∧ w₁.os = w.os ∧ w₁.output = w.output) : Step P f h n w g h' n' w' :=
  ⟨hs.r, hs.le, hs.old, fun b L hb => by have := hs.img b L hb; rw [hh] at this; exact this, fun m hm hf => by have := hs.frame m (by rw [hh]; exact hm) hf; rw [hh] at this; exact this,
    by rw [← hh]; exact hs.size, ⟨hs.same.1.trans ht.1, hs.same.2.1.trans ht.2.1, hs.same.2.2.trans ht.2.2⟩, hs.cnt⟩

/-- A REGION WHOSE ORDER IS DRAWN. -/
theorem evDraw_ok {call : CallF} (hcall : CallOK P call) {ops : Array Oper} {s s' : St} (he : evDraw P call ops s = some s') {f : Ren} {a : Act} {w : World} (hs : SR P f s a w)
    {Q : Exit → Act → World → Prop} (hq : ∀ g a' w', SR P g s' a' w' → StepS P f s w g s' w' → Q .normal a' w') :
    wpAny P .any ops Q ops.size (Array.replicate ops.size false) a w := by
  unfold evDraw at he
  split at he
  · rename_i p hpl
    have hpo := planned_eq hpl
    unfold planOk at hpo
    simp only [Bool.and_eq_true, List.all_eq_true] at hpo
    obtain ⟨⟨⟨⟨⟨⟨q1, q2⟩, q3⟩, q4⟩, q5⟩, q6⟩, q7⟩ := hpo
    have hzip : ∀ i o, ops[i]? = some o → (o, i) ∈ ops.toList.zipIdx := by
      intro i o ho
      rw [List.mem_zipIdx_iff_getElem?]
      simpa using ho
    have hp : PK ops p.ms := by
      refine ⟨fun i o ho e hm => ?_, fun i o ho => ?_⟩
      · have := (q1 (o, i) (hzip i o ho)).1 e hm
        exact Nat.le_of_ble_eq_true this
      · have := (q1 (o, i) (hzip i o ho)).2
        exact (Nat.eq_of_beq_eq_true this).symm
    have hnd := nodupN_eq q2
    rw [List.nodup_append] at hnd
    obtain ⟨n1, n2, n3⟩ := hnd
    have hlt : ∀ i ∈ p.first ++ restOps p.rest, i < ops.size := fun i hi => Nat.le_of_ble_eq_true (q4 i hi)
    have hcov : ∀ i, i < ops.size → i ∈ p.first ∨ i ∈ restOps p.rest := by
      intro i hi
      have := q3 i (List.mem_range.2 hi)
      obtain ⟨j, hj, hb⟩ := List.any_eq_true.1 this
      rw [Nat.eq_of_beq_eq_true hb]
      exact List.mem_append.1 hj
    have hR : RestOK ops p.ms p.rest := ⟨n2, fun i hi => hlt i (List.mem_append.2 (.inr hi)), q7, fun x hx j hj => floatAt_eq (q6 x hx j hj)⟩
    split at he
    · rename_i s1 hfl
      obtain ⟨G, hFb, hFt⟩ := evFls_ok hfl
      split at he
      · rename_i hc
        simp only [Bool.and_eq_true] at hc
        have hoff : ∀ i, ¬ On (Array.replicate ops.size false) i := by
          intro i h
          unfold On at h
          rw [Array.getElem?_replicate] at h
          split at h <;> cases h
        have I : Inv P ops p.ms f s w p.rest p.first s1 (Array.replicate ops.size false) f a w := by
          refine ⟨by simp, fun i o hi => absurd hi (hoff i), fun i hi => absurd hi (hoff i), fun i hi _ hr => ?_, fun i hi => ?_, fun t ht => ?_, by rw [G.nt]; exact hs.sz, by rw [G.ds]; exact hs.ds,
            fun i o q hi _ ho hq => ?_, G.step hs.r, fun i o q hi ho hq => ?_, hc.1, fun i hi hm => n3 i hi i hm rfl⟩
          · rcases hcov i hi with h | h
            · exact h
            · exact absurd h hr
          · obtain ⟨q, e1, e2⟩ := floatAt_eq (q5 i hi)
            obtain ⟨q', e3, e4⟩ := hFb i hi
            rw [e1] at e3; cases e3
            exact ⟨q, e1, e2, fun d hd => by rw [G.nt]; exact e4 d hd⟩
          · rw [hFt t fun i hi o ho => ht i o hi (hoff i) ho]
            exact hs.tm t
          · obtain ⟨o', e1, e2, _⟩ := agains_mem hc.1 i hi
            rw [ho] at e1; cases e1
            exact ⟨hs.r.fresh q (fresh_at hc.2 hi ho hq), again_lt e2 hq⟩
          · exact fresh_at hc.2 hi ho hq
        refine stages_ok hcall hp hq ops.size (List.range ops.size) p.rest p.first s1 _ f a w (by simp) List.nodup_range (fun i => ?_) hR I he
        rw [List.mem_range]
        exact ⟨fun h => ⟨h, hoff i⟩, fun h => h.1⟩
      · cases he
    · cases he
  · cases he

theorem evRegion_ok {call : CallF} (hcall : CallOK P call) (hm : P.follows .mixedOrders = true) {id : Nat} {ops : Array Oper} {draw : Bool} {s s' : St} {e : Exit} (he : evRegion P call ops draw s = some (e, s')) {f : Ren} {a : Act} {w : World}
    (hs : SR P f s a w) {Q : Exit → Act → World → Prop} (hq : ∀ g a' w', SR P g s' a' w' → StepS P f s w g s' w' → Q e a' w') :
    (Code.region id ops draw).wp P Q a w := by
  unfold evRegion at he
  split at he
  · rename_i s1 h1
    cases he
    split at h1
    · refine wp_region_any hm ?_
      refine evDraw_ok hcall h1 (w := { w with drawn := w.drawn + 1 }) ⟨hs.r.drew rfl, hs.tm, hs.sz, hs.ds⟩ fun g a' w' k1 k2 => hq g a' w' k1 ?_
      exact Step.drew (w := w) k2 rfl ⟨rfl, rfl, rfl⟩
    · refine wp_region ?_
      rw [List.range_eq_range']
      have := evOps_ok hcall ops ops.toList 0 (fun i => by simp) f s s' a w h1 hs hq
      simpa using this
  · cases he

/-- a loop's body, and the loop behind it. -/
def wpIn (P : Program) (c : Code) (Q : Exit → Act → World → Prop) (a : Act) (w : World) : Prop :=
  ∀ (b : Frame) (k : List Item) (cs : List Frame), ∃ e a' w', Q e a' w' ∧ Arrives P (lone (b.at a (.code c :: .inLoop c :: k)) cs w) b k cs e a' w'

theorem wpIn_loop {c : Code} {Q : Exit → Act → World → Prop} {a : Act} {w : World} (h : wpIn P c Q a w) : (Code.loop c).wp P Q a w := fun b k cs =>
  let ⟨e, a', w', q, r⟩ := h b k cs
  ⟨e, a', w', q, .of_steps (.one step_loop) r⟩

theorem wpIn_round {c : Code} {Q : Exit → Act → World → Prop} {a : Act} {w : World} (h : c.wp P (Exit.then (wpIn P c Q) Q) a w) : wpIn P c Q a w := by
  intro b k cs
  obtain ⟨e, a₁, w₁, hq, harr⟩ := h b (.inLoop c :: k) cs
  cases e with
  | normal =>
    obtain ⟨e₂, a₂, w₂, hq₂, harr₂⟩ := hq b k cs
    exact ⟨e₂, a₂, w₂, hq₂, .of_steps (Steps.trans harr (.one step_inLoop)) harr₂⟩
  | exit id => exact ⟨_, a₁, w₁, hq, .pass (x := .inLoop c) rfl (fun _ _ => .inl (by simp)) harr⟩
  | goto l => exact ⟨_, a₁, w₁, hq, .pass (x := .inLoop c) rfl (fun _ _ => .inl (by simp)) harr⟩
  | ret => exact ⟨_, a₁, w₁, hq, .pass (x := .inLoop c) rfl (fun _ _ => .inl (by simp)) harr⟩
  | panic ch => exact ⟨_, a₁, w₁, hq, .pass (x := .inLoop c) rfl (fun _ _ => .inl (by simp)) harr⟩
  | outgrown => exact ⟨_, a₁, w₁, hq, .pass (x := .inLoop c) rfl (fun _ _ => .inl (by simp)) harr⟩

theorem evC_succ (G : Giv) (n : Nat) (c : Code) (s : St) : evC P G (n + 1) c s = evStep P G (evC P G n) c s := rfl

/-- ALL CODE does what the abstract run says. -/
theorem evC_ok {G : Giv} (hG : GivOK P G) (hm : P.follows .mixedOrders = true) : ∀ (n : Nat), CodeOK P (evC P G n) ∧
    ∀ (c : Code) (s : St) (e : Exit) (s' : St), evC P G n (.loop c) s = some (e, s') → ∀ (f : Ren) (a : Act) (w : World), SR P f s a w → ∀ (Q : Exit → Act → World → Prop),
      (∀ g a' w', SR P g s' a' w' → StepS P f s w g s' w' → Q e a' w') → wpIn P c Q a w := by
  intro n
  induction n with
  | zero => exact ⟨fun c s e s' h => (by cases h), fun c s e s' h => (by cases h)⟩
  | succ n ih =>
    obtain ⟨ih1, ih2⟩ := ih
    have hcall : CallOK P (callStep P G (evC P G n)) := callStep_ok hG ih1
    have hloop : ∀ (c : Code) (s : St) (e : Exit) (s' : St), evC P G (n + 1) (.loop c) s = some (e, s') → ∀ (f : Ren) (a : Act) (w : World), SR P f s a w → ∀ (Q : Exit → Act → World → Prop),
        (∀ g a' w', SR P g s' a' w' → StepS P f s w g s' w' → Q e a' w') → wpIn P c Q a w := by
      intro c s e s' he f a w hs Q hq
      rw [evC_succ] at he
      simp only [evStep] at he
      refine wpIn_round ?_
      split at he
      · rename_i s1 h1
        refine ih1 c s _ s1 h1 f a w hs _ fun g a' w' k1 k2 => ?_
        exact ih2 c s1 e s' he g a' w' k1 Q fun g' a'' w'' l1 l2 => hq g' a'' w'' l1 (k2.trans l2)
      · rename_i hnn
        refine ih1 c s e s' he f a w hs _ fun g a' w' k1 k2 => ?_
        have := hq g a' w' k1 k2
        cases e with
        | normal => exact absurd he (hnn s')
        | _ => exact this
    refine ⟨fun c s e s' he f a w hs Q hq => ?_, hloop⟩
    cases c with
    | loop c => exact wpIn_loop (hloop c s e s' he f a w hs Q hq)
    | skip => rw [evC_succ] at he; simp only [evStep] at he; cases he; exact wp_skip (hq f a w hs (.refl hs.r))
    | label l => rw [evC_succ] at he; simp only [evStep] at he; cases he; exact wp_label (hq f a w hs (.refl hs.r))
    | region id ops draw => rw [evC_succ] at he; simp only [evStep] at he; exact evRegion_ok hcall hm he hs hq
    | seq x y =>
      rw [evC_succ] at he
      simp only [evStep] at he
      refine wp_seq ?_
      split at he
      · rename_i s1 h1
        refine ih1 x s _ s1 h1 f a w hs _ fun g a' w' k1 k2 => ?_
        exact ih1 y s1 e s' he g a' w' k1 Q fun g' a'' w'' l1 l2 => hq g' a'' w'' l1 (k2.trans l2)
      · rename_i hnn
        refine ih1 x s e s' he f a w hs _ fun g a' w' k1 k2 => ?_
        have := hq g a' w' k1 k2
        cases e with
        | normal => exact absurd he (hnn s')
        | _ => exact this
    | cond x y z =>
      rw [evC_succ] at he
      simp only [evStep] at he
      cases x with
      | tmp t =>
        have ht := hs.tm t
        split at he
        · rename_i hb
          rw [hb] at ht
          have : a.eval (.tmp t) = .bool true := by
            show a.tmps.getD t undef = _
            generalize a.tmps.getD t undef = v at ht
            cases ht; rfl
          exact wp_cond_true this (ih1 y s e s' he f a w hs Q hq)
        · rename_i hb
          rw [hb] at ht
          have : a.eval (.tmp t) = .bool false := by
            show a.tmps.getD t undef = _
            generalize a.tmps.getD t undef = v at ht
            cases ht; rfl
          exact wp_cond_false this (ih1 z s e s' he f a w hs Q hq)
        · cases he
      | const v =>
        split at he
        · rename_i hb
          exact wp_cond_true (show a.eval (.const v) = .bool true from hb) (ih1 y s e s' he f a w hs Q hq)
        · rename_i hb
          exact wp_cond_false (show a.eval (.const v) = .bool false from hb) (ih1 z s e s' he f a w hs Q hq)
        · cases he
      | global g => simp [opd] at he
      | func g => simp [opd] at he
    | block id b =>
      rw [evC_succ] at he
      simp only [evStep] at he
      refine wp_block ?_
      split at he
      · rename_i i s1 h1
        split at he
        · rename_i hb
          cases he
          have hii := Nat.eq_of_beq_eq_true hb
          subst hii
          refine ih1 b s _ s' h1 f a w hs _ fun g a' w' k1 k2 => ?_
          simp only [Exit.inBlock, if_true]
          exact hq g a' w' k1 k2
        · rename_i hb
          cases he
          refine ih1 b s _ s' h1 f a w hs _ fun g a' w' k1 k2 => ?_
          have : i ≠ id := fun e => by subst e; simp at hb
          simp only [Exit.inBlock, if_neg this]
          exact hq g a' w' k1 k2
      · rename_i hnn
        refine ih1 b s e s' he f a w hs _ fun g a' w' k1 k2 => ?_
        have := hq g a' w' k1 k2
        cases e with
        | exit i => exact absurd he (hnn i s')
        | _ => exact this
    | exit id => rw [evC_succ] at he; simp only [evStep] at he; cases he; exact wp_exit (hq f a w hs (.refl hs.r))
    | ret => rw [evC_succ] at he; simp only [evStep] at he; cases he; exact wp_ret (hq f a w hs (.refl hs.r))
    | _ => rw [evC_succ] at he; simp only [evStep] at he; cases he

/-- A CALL, RUN TO ITS END: what the kernel reckons is what happens, whatever is drawn. -/
theorem evCall_ok {G : Giv} (hG : GivOK P G) (hm : P.follows .mixedOrders = true) (n : Nat) : CallOK P (evCall P G n) := callStep_ok hG (evC_ok hG hm n).1

end
end Go.Proofs.YtedbjceeakmjgaaGreatDoor.Ev
