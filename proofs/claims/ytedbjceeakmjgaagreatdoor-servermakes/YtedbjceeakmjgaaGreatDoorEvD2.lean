/- The evaluator of closed runs: EvD2 -/
import Derived.Test.YtedbjceeakmjgaaGreatDoorEvD1
namespace Go.Proofs.YtedbjceeakmjgaaGreatDoor.Ev
set_option linter.unusedSimpArgs false

section
variable {P : Program}

/-- what is wanted is wanted both ways, by what is looked at alone. -/
theorem wanted_at {f : Ren} {tm : T Value} {a : Act} (ops : Array Oper) (o : Oper) (h : ∀ t, t ∈ o.looksAt ops → VR f (opd tm (.tmp t)) (a.tmps.getD t undef)) :
    Region.wanted o (yielded ops a.tmps) = wantedA ops.toList tm o.guard := by
  unfold Region.wanted wantedA
  cases hg : o.guard with
  | none => rfl
  | some p =>
    obtain ⟨j, want⟩ := p
    simp only
    rw [listGet_eq]
    unfold yielded
    simp only [Array.getElem?_toList]
    cases hj : ops[j]? with
    | none => simp
    | some x =>
      simp only [Option.bind_some]
      cases hd : x.dst with
      | none => simp
      | some d =>
        simp only [Option.bind_some]
        have ht := h d (by simp [Oper.looksAt, hg, hj, hd])
        simp only [opd] at ht
        rw [Array.getD_eq_getD_getElem?] at ht
        cases hget : tm.get d with
        | none =>
          rw [hget] at ht
          simp only at ht ⊢
          cases hc : a.tmps[d]? with
          | none => simp
          | some y =>
            rw [hc] at ht
            simp only [Option.getD_some] at ht
            unfold undef at ht
            cases ht
            simp
        | some v =>
          rw [hget] at ht
          simp only at ht ⊢
          cases hc : a.tmps[d]? with
          | none =>
            rw [hc] at ht
            simp only [Option.getD_none] at ht
            unfold undef at ht
            cases ht
            simp
          | some y =>
            rw [hc] at ht
            simp only [Option.getD_some] at ht
            cases ht <;> simp

theorem opr_at {f : Ren} {tm : T Value} {a : Act} {ops : Array Oper} {o : Oper} (hc : constsOk o.op = true) (h : ∀ t, t ∈ o.looksAt ops → VR f (opd tm (.tmp t)) (a.tmps.getD t undef)) :
    OpR f (opd tm) a.eval o.op := by
  intro x hx
  have := (List.all_eq_true.1 hc) x hx
  cases x with
  | tmp t => exact h t (by simp only [Oper.looksAt, List.mem_append, List.mem_filterMap]; exact .inl ⟨_, hx, rfl⟩)
  | const v => exact vr_ground 6 v this
  | global g => cases this
  | func fn => exact .func' _ .nil .nil

/-- what is known while a region's operations come up. -/
structure Inv (P : Program) (ops : Array Oper) (ms : List Nat) (f₀ : Ren) (s₀ : St) (w₀ : World) (rest : List (Nat × List Nat)) (pend : List Nat) (S : St) (listed : Array Bool) (f : Ren) (a : Act) (w : World) : Prop where
  sz : listed.size = ops.size
  down : ∀ i o, On listed i → ops[i]? = some o → ∀ e ∈ edgesOf o, On listed e
  off : ∀ i, On listed i → i ∉ restOps rest
  pd : ∀ i, i < ops.size → ¬ On listed i → i ∉ restOps rest → i ∈ pend
  pf : ∀ i ∈ pend, ∃ o, ops[i]? = some o ∧ FL ops ms i o ∧ ∀ d, o.dst = some d → d < S.nt
  tm : ∀ t, (∀ i o, i ∈ pend → ¬ On listed i → ops[i]? = some o → o.dst ≠ some t) → VR f (opd S.tm (.tmp t)) (a.tmps.getD t undef)
  nt : a.tmps.size = S.nt
  ds : DR f S.ds a.defers
  prom : ∀ i o q, i ∈ pend → ¬ On listed i → ops[i]? = some o → promOf o S = some q → f q = none ∧ q < S.n
  st : Step P f₀ s₀.h s₀.n w₀ f S.h S.n w
  lo : ∀ i o q, i ∈ pend → ops[i]? = some o → promOf o S = some q → s₀.n ≤ q
  ag : agains P ops S pend 0 = true
  pr : ∀ i ∈ pend, i ∉ restOps rest

theorem on_set {listed : Array Bool} {i j : Nat} : On (listed.setIfInBounds i true) j → j = i ∨ On listed j := by
  unfold On
  intro h
  by_cases hj : i = j
  · exact .inl hj.symm
  · rw [Array.getElem?_setIfInBounds_ne hj] at h; exact .inr h

theorem on_set' {listed : Array Bool} {i j : Nat} (h : On listed j) : On (listed.setIfInBounds i true) j := by
  unfold On at *
  by_cases hj : i = j
  · subst hj
    have := (Array.getElem?_eq_some_iff.1 h).1
    rw [Array.getElem?_setIfInBounds_self_of_lt this]
  · rw [Array.getElem?_setIfInBounds_ne hj]; exact h

theorem on_self {listed : Array Bool} {i : Nat} (h : i < listed.size) : On (listed.setIfInBounds i true) i := by
  unfold On
  rw [Array.getElem?_setIfInBounds_self_of_lt h]

/-- what a ready operation looks at is there. -/
theorem Inv.looks {ops : Array Oper} {ms : List Nat} (hp : PK ops ms) {f₀ : Ren} {s₀ : St} {w₀ : World} {rest : List (Nat × List Nat)} {pend : List Nat} {S : St} {listed : Array Bool} {f : Ren} {a : Act} {w : World}
    (I : Inv P ops ms f₀ s₀ w₀ rest pend S listed f a w) {i : Nat} {o : Oper} (ho : ops[i]? = some o) (hr : ∀ e ∈ edgesOf o, On listed e) :
    ∀ t, t ∈ o.looksAt ops → VR f (opd S.tm (.tmp t)) (a.tmps.getD t undef) := by
  intro t ht
  refine I.tm t fun j q hj hn hq hd => ?_
  obtain ⟨q', h1, h2, _⟩ := I.pf j hj
  rw [hq] at h1; cases h1
  by_cases hij : i = j
  · subst hij
    rw [ho] at hq; cases hq
    exact h2.own t hd ht
  · exact hn (hp.on I.sz I.down i o ho hr j ((h2.oth t hd i o ho hij).2 ht))

/-- the same state behind a floating operation, listed. -/
theorem Inv.list {ops : Array Oper} {ms : List Nat} {f₀ : Ren} {s₀ : St} {w₀ : World} {rest : List (Nat × List Nat)} {pend : List Nat} {S : St} {listed : Array Bool} {f g : Ren} {a : Act} {w w' : World}
    (I : Inv P ops ms f₀ s₀ w₀ rest pend S listed f a w) {i : Nat} {o : Oper} (ho : ops[i]? = some o) (hi : i ∈ pend) (hn : ¬ On listed i) (hrest : i ∉ restOps rest) (hr : ∀ e ∈ edgesOf o, On listed e) {v' : Value}
    (hle : RLe f g) (hv : ∀ d, o.dst = some d → VR g (opd S.tm (.tmp d)) v') (hst : Step P f₀ s₀.h s₀.n w₀ g S.h S.n w')
    (hprom : ∀ j q x, j ∈ pend → ¬ On listed j → j ≠ i → ops[j]? = some q → promOf q S = some x → g x = none) :
    Inv P ops ms f₀ s₀ w₀ rest pend S (listed.setIfInBounds i true) g (a.put o.dst v') w' := by
  have hlt : i < listed.size := by rw [I.sz]; exact (Array.getElem?_eq_some_iff.1 ho).1
  obtain ⟨o', h1, hfl, hnt⟩ := I.pf i hi
  rw [ho] at h1; cases h1
  refine ⟨by simp [I.sz], ?_, ?_, ?_, I.pf, ?_, by rw [put_size]; exact I.nt, by rw [put_defers]; exact I.ds.mono hle, ?_, hst, I.lo, I.ag, I.pr⟩
  · intro j q hj hq e he
    rcases on_set hj with rfl | hj
    · rw [ho] at hq; cases hq
      exact on_set' (hr e he)
    · exact on_set' (I.down j q hj hq e he)
  · intro j hj
    rcases on_set hj with rfl | hj
    · exact hrest
    · exact I.off j hj
  · intro j hj hnj hrj
    exact I.pd j hj (fun h => hnj (on_set' h)) hrj
  · intro t ht
    rw [put_tmps (nt := S.nt) a o.dst v' hnt I.nt]
    split
    · rename_i hd
      exact hv t hd
    · rename_i hd
      refine (I.tm t fun j q hj hnj hq => ?_).mono hle
      by_cases hji : j = i
      · subst hji; rw [ho] at hq; cases hq; exact hd
      · refine ht j q hj (fun h => ?_) hq
        rcases on_set h with h | h
        · exact hji h
        · exact hnj h
  · intro j q x hj hnj hq hx
    have hnj' : ¬ On listed j := fun h => hnj (on_set' h)
    have hji : j ≠ i := fun e => by subst e; exact hnj (on_self hlt)
    exact ⟨hprom j q x hj hnj' hji hq hx, (I.prom j q x hj hnj' hq hx).2⟩

end
end Go.Proofs.YtedbjceeakmjgaaGreatDoor.Ev
