/- The evaluator of closed runs: EvD5 -/
import Derived.Test.YtedbjceeakmjgaaGreatDoorEvD4
namespace Go.Proofs.YtedbjceeakmjgaaGreatDoor.Ev
set_option linter.unusedSimpArgs false

section
variable {P : Program}

/-- what a plan promises of its stages. -/
structure RestOK (ops : Array Oper) (ms : List Nat) (rest : List (Nat × List Nat)) : Prop where
  nd : (restOps rest).Nodup
  lt : ∀ i ∈ restOps rest, i < ops.size
  ok : restOk ms rest = true
  fl : ∀ x ∈ rest, ∀ j ∈ x.2, ∃ q, ops[j]? = some q ∧ FL ops ms j q

theorem RestOK.tail {ops : Array Oper} {ms : List Nat} {x : Nat} {F : List Nat} {rest : List (Nat × List Nat)} (h : RestOK ops ms ((x, F) :: rest)) : RestOK ops ms rest := by
  obtain ⟨h1, h2, h3, h4⟩ := h
  simp only [restOps, List.cons_append, List.nodup_cons, List.nodup_append] at h1
  refine ⟨h1.2.2.1, fun i hi => h2 i (by simp [restOps, hi]), ?_, fun y hy => h4 y (by simp [hy])⟩
  simp only [restOk, Bool.and_eq_true] at h3
  exact h3.2

theorem wpOp_unwanted {ops : Array Oper} {Q : Exit → Act → World → Prop} {i : Nat} {o : Oper} (ho : ops[i]? = some o) {K : Act → World → Prop} {a : Act} {w : World}
    (hw : Region.wanted o (yielded ops a.tmps) = false) (hK : K (a.put o.dst undef) w) : wpOp P ops Q i K a w := by
  unfold wpOp
  simp only [ho, hw, Bool.false_eq_true, if_false]
  exact hK

theorem wpOp_wanted {ops : Array Oper} {Q : Exit → Act → World → Prop} {i : Nat} {o : Oper} (ho : ops[i]? = some o) {K : Act → World → Prop} {a : Act} {w : World}
    (hw : Region.wanted o (yielded ops a.tmps) = true) (hK : o.wp P a w K Q) : wpOp P ops Q i K a w := by
  unfold wpOp
  simp only [ho, hw, if_true]
  exact .inl hK

/-- ALL ORDERS of a region's operations. -/
theorem stages_ok {call : CallF} (hcall : CallOK P call) {ops : Array Oper} {ms : List Nat} (hp : PK ops ms) {Q : Exit → Act → World → Prop} {f₀ : Ren} {s₀ s' : St} {w₀ : World}
    (hQ : ∀ g a' w', SR P g s' a' w' → Step P f₀ s₀.h s₀.n w₀ g s'.h s'.n w' → Q .normal a' w') :
    ∀ (fuel : Nat) (un : List Nat) (rest : List (Nat × List Nat)) (pend : List Nat) (S : St) (listed : Array Bool) (f : Ren) (a : Act) (w : World), un.length ≤ fuel → un.Nodup → (∀ i, i ∈ un ↔ i < ops.size ∧ ¬ On listed i) →
      RestOK ops ms rest → Inv P ops ms f₀ s₀ w₀ rest pend S listed f a w → evStages P call ops ms rest pend S = some s' → wpAny P .any ops Q fuel listed a w := by
  intro fuel
  -- when nothing may come up, all has
  have hdone : ∀ (un : List Nat) (rest : List (Nat × List Nat)) (pend : List Nat) (S : St) (listed : Array Bool) (f : Ren) (a : Act) (w : World), (∀ i, i < ops.size → On listed i) → RestOK ops ms rest →
      Inv P ops ms f₀ s₀ w₀ rest pend S listed f a w → evStages P call ops ms rest pend S = some s' → Q .normal a w := by
    intro un rest pend S listed f a w hall hR I he
    cases rest with
    | nil =>
      simp only [evStages] at he
      cases he
      refine hQ f a w ⟨I.st.r, fun t => I.tm t fun i o hi hn ho => ?_, I.nt, I.ds⟩ I.st
      exact absurd (hall i (Array.getElem?_eq_some_iff.1 ho).1) hn
    | cons y rest =>
      obtain ⟨x, F⟩ := y
      have hx : x ∈ restOps ((x, F) :: rest) := by simp [restOps]
      exact absurd hx (I.off x (hall x (hR.lt x hx)))
  have hready : ∀ (listed : Array Bool), listed.size = ops.size → Region.ready .any ops listed = [] → ∀ i, i < ops.size → On listed i := by
    intro listed hsz hnil i
    induction i using Nat.strongRecOn with
    | _ i ih =>
      intro hi
      cases hl : listed[i]? with
      | none => rw [Array.getElem?_eq_none_iff] at hl; omega
      | some b =>
        cases b with
        | true => exact hl
        | false =>
          exfalso
          have hm : i ∈ Region.ready .any ops listed := by
            rw [mem_ready]
            refine ⟨by rw [Array.getD_eq_getD_getElem?, hl]; rfl, ops[i], Array.getElem?_eq_getElem hi, fun e he hb => ?_⟩
            have hlt := hp.edge i _ (Array.getElem?_eq_getElem hi) e.on (edges_mem.2 ⟨e, he, hb, rfl⟩)
            have := ih e.on hlt (by omega)
            unfold On at this
            rw [Array.getD_eq_getD_getElem?, this]; rfl
          rw [hnil] at hm
          cases hm
  induction fuel with
  | zero =>
    intro un rest pend S listed f a w hle hnd hun hR I he
    have hnil : un = [] := List.length_eq_zero_iff.1 (Nat.le_zero.1 hle)
    have hall : ∀ i, i < ops.size → On listed i := by
      intro i hi
      apply Classical.byContradiction
      intro hn
      have := (hun i).2 ⟨hi, hn⟩
      rw [hnil] at this; cases this
    refine ⟨?_, hdone un rest pend S listed f a w hall hR I he⟩
    apply List.eq_nil_iff_forall_not_mem.2
    intro i hi
    obtain ⟨h1, o, ho, _⟩ := mem_ready.1 hi
    have := hall i (Array.getElem?_eq_some_iff.1 ho).1
    unfold On at this
    rw [Array.getD_eq_getD_getElem?, this] at h1
    cases h1
  | succ fuel ih =>
    intro un rest pend S listed f a w hle hnd hun hR I he
    refine ⟨fun hnil => hdone un rest pend S listed f a w (hready listed I.sz hnil) hR I he, fun i hi => ?_⟩
    obtain ⟨h1, o, ho, h2⟩ := mem_ready.1 hi
    have hlt : i < ops.size := (Array.getElem?_eq_some_iff.1 ho).1
    have hn : ¬ On listed i := by
      intro h
      unfold On at h
      rw [Array.getD_eq_getD_getElem?, h] at h1
      cases h1
    have hr : ∀ e ∈ edgesOf o, On listed e := by
      intro e hm
      obtain ⟨x, hx, hb, rfl⟩ := edges_mem.1 hm
      have := h2 x hx hb
      rw [Array.getD_eq_getD_getElem?] at this
      unfold On
      cases hl : listed[x.on]? with
      | none => rw [hl] at this; cases this
      | some b => rw [hl] at this; cases b <;> first | rfl | cases this
    -- one less
    have hun' : (un.erase i).length ≤ fuel ∧ (un.erase i).Nodup ∧ ∀ j, j ∈ un.erase i ↔ j < ops.size ∧ ¬ On (listed.setIfInBounds i true) j := by
      have him : i ∈ un := (hun i).2 ⟨hlt, hn⟩
      refine ⟨by rw [List.length_erase_of_mem him]; omega, hnd.erase i, fun j => ?_⟩
      rw [hnd.mem_erase_iff, hun]
      constructor
      · rintro ⟨h3, h4, h5⟩
        refine ⟨h4, fun h => ?_⟩
        rcases on_set h with h | h
        · exact h3 h
        · exact h5 h
      · rintro ⟨h3, h4⟩
        refine ⟨fun e => by subst e; exact h4 (on_self (by rw [I.sz]; exact h3)), h3, fun h => h4 (on_set' h)⟩
    obtain ⟨u1, u2, u3⟩ := hun'
    by_cases hrest : i ∈ restOps rest
    · -- one that doesn't float
      cases rest with
      | nil => simp [restOps] at hrest
      | cons y rest =>
        obtain ⟨x, F⟩ := y
        have hix : i = x := by
          simp only [restOps, List.cons_append, List.mem_cons, List.mem_append] at hrest
          rcases hrest with h | h
          · exact h
          · exfalso
            have hok := hR.ok
            simp only [restOk, Bool.and_eq_true, List.all_eq_true, List.mem_append] at hok
            have hb := hok.1 i h
            exact I.off x (hp.on I.sz I.down i o ho hr x hb) (by simp [restOps])
        subst hix
        have hnd' := hR.nd
        simp only [restOps, List.cons_append, List.nodup_cons, List.nodup_append, List.mem_append, not_or] at hnd'
        have hND : i ∉ F ∧ i ∉ restOps rest ∧ ∀ j ∈ F, j ∉ restOps rest := ⟨hnd'.1.1, hnd'.1.2, fun j hj hm => hnd'.2.2.2 j hj j hm rfl⟩
        have hFl := hR.fl (i, F) (by simp)
        simp only [evStages] at he
        -- behind the operation
        have hafter : ∀ {v : Value} {h' : Mem} {n' : Nat} {ds' : List Deferred}, putK o.dst S v h' n' ds' (fun s1 =>
            match evFls P ops F s1 with
            | some s2 => match agains P ops s2 (pend.filter (fun i' => !hasBit ms i i') ++ F) 0 && fresh ops s2 s1.n F with
              | true => evStages P call ops ms rest (pend.filter (fun i' => !hasBit ms i i') ++ F) s2
              | false => none
            | none => none) = some s' → ∀ g v' w' dl, VR g v v' → Step P f S.h S.n w g h' n' w' → DR g ds' dl →
              wpAny P .any ops Q fuel (listed.setIfInBounds i true) ({ a with defers := dl }.put o.dst v') w' := by
          intro v h' n' ds' hput g v' w' dl hv hst hd
          obtain ⟨k1, k2⟩ := putK_ok hput
          split at k1
          · rename_i s2 hfl
            split at k1
            · rename_i hc
              simp only [Bool.and_eq_true] at hc
              have I' := I.anchor hp hND hFl ho hn hr k2 hfl hc.1 hc.2 hv hst hd
              exact ih _ rest _ s2 _ g _ w' u1 u2 u3 hR.tail I' k1
            · cases k1
          · cases k1
        have hlook := I.looks hp ho hr
        have hwant := wanted_at ops o hlook
        unfold evOne at he
        simp only [ho] at he
        split at he
        · rename_i hw
          rw [hw] at hwant
          split at he
          · rename_i hc
            obtain ⟨v, h', n', ds', k1, k2⟩ := evO_ok I.st.r hcall (opr_at hc hlook) I.ds he
            exact wpOp_wanted ho hwant (k2 _ Q (fun g v' w' dl hv hst hd => hafter k1 g v' w' dl hv hst hd))
          · cases he
        · rename_i hw
          rw [hw] at hwant
          exact wpOp_unwanted ho hwant (hafter he f undef w a.defers vr_undef (.refl I.st.r) I.ds)
    · exact float_ok hp I ho (I.pd i hlt hn hrest) hn hrest hr fun g a' w' I' => ih _ rest pend S _ g a' w' u1 u2 u3 hR I' he

end
end Go.Proofs.YtedbjceeakmjgaaGreatDoor.Ev
