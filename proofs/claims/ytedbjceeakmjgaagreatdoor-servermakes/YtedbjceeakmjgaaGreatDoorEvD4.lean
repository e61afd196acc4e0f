/- The evaluator of closed runs: EvD4 -/
import Derived.Test.YtedbjceeakmjgaaGreatDoorEvD3
namespace Go.Proofs.YtedbjceeakmjgaaGreatDoor.Ev
set_option linter.unusedSimpArgs false

section
variable {P : Program}

/-- what floating operations do to the abstract state. -/
structure Grows (P : Program) (s s' : St) : Prop where
  n : s.n ≤ s'.n
  nt : s'.nt = s.nt
  ds : s'.ds = s.ds
  old : ∀ b, b < s.n → s'.h.get b = s.h.get b
  r : ∀ g w, R P g s.h s.n w → R P g s'.h s'.n w

theorem Grows.refl (s : St) : Grows P s s := ⟨Nat.le_refl _, rfl, rfl, fun _ _ => rfl, fun _ _ h => h⟩

theorem Grows.trans {s s' s'' : St} (h : Grows P s s') (k : Grows P s' s'') : Grows P s s'' :=
  ⟨Nat.le_trans h.n k.n, k.nt.trans h.nt, k.ds.trans h.ds, fun b hb => (k.old b (Nat.lt_of_lt_of_le hb h.n)).trans (h.old b hb), fun g w hr => k.r g w (h.r g w hr)⟩

theorem Grows.step {s s' : St} (h : Grows P s s') {g : Ren} {w : World} (hr : R P g s.h s.n w) : Step P g s.h s.n w g s'.h s'.n w :=
  ⟨h.r g w hr, RLe.refl g, fun b hb hf => ⟨hf, h.old b hb⟩, fun _ _ hb => .inl hb, fun _ _ _ => rfl, Nat.le_refl _, ⟨rfl, rfl, rfl⟩, h.n⟩

theorem evFloat_abs {β : Type} {ρ : Operand → Value} {s : St} {o : Op} {k : KO β} {z : β} (he : evFloat P ρ s o k = some z) :
    ∃ v h' n', k v h' n' s.ds = some z ∧ ((h' = s.h ∧ n' = s.n) ∨ ∃ x, h' = s.h.set s.n x ∧ n' = s.n + 1) := by
  unfold evFloat at he
  split at he
  · rw [nfK_eq] at he; exact ⟨_, _, _, he, .inl ⟨rfl, rfl⟩⟩
  · rw [nfL_eq (nfK_eq 6)] at he
    obtain ⟨c, k1, _⟩ := newA_ok he
    exact ⟨_, _, _, k1, .inr ⟨_, rfl, rfl⟩⟩
  · rw [nfL_eq (nfK_eq 6)] at he
    simp only [natK_eq] at he
    obtain ⟨c, k1, _⟩ := newA_ok he
    exact ⟨_, _, _, k1, .inr ⟨_, rfl, rfl⟩⟩
  · rw [T.setK_set] at he
    exact ⟨_, _, _, he, .inr ⟨_, rfl, rfl⟩⟩
  · cases he

theorem evFl_ok {β : Type} {ops : Array Oper} {i : Nat} {s : St} {k : St → Option β} {z : β} (he : evFl P ops i s k = some z) :
    ∃ o s', ops[i]? = some o ∧ k s' = some z ∧ Grows P s s' ∧ (∀ d, o.dst = some d → d < s.nt) ∧ ∀ t, o.dst ≠ some t → opd s'.tm (.tmp t) = opd s.tm (.tmp t) := by
  unfold evFl at he
  split at he
  · rename_i o ho
    split at he
    · split at he
      · obtain ⟨v, h', n', h1, h2⟩ := evFloat_abs he
        obtain ⟨h3, h4⟩ := putK_ok h1
        refine ⟨o, _, ho, h3, ?_, h4, fun t ht => by rw [putSt_tm, if_neg ht]⟩
        rcases h2 with ⟨rfl, rfl⟩ | ⟨x, rfl, rfl⟩
        · exact ⟨Nat.le_refl _, rfl, rfl, fun _ _ => rfl, fun _ _ h => h⟩
        · refine ⟨Nat.le_succ _, rfl, rfl, fun b hb => ?_, fun g w hr => hr.promise x⟩
          show (s.h.set s.n x).get b = _
          rw [T.get_set, if_neg (by omega)]
      · cases he
    · obtain ⟨h3, h4⟩ := putK_ok he
      exact ⟨o, _, ho, h3, ⟨Nat.le_refl _, rfl, rfl, fun _ _ => rfl, fun _ _ h => h⟩, h4, fun t ht => by rw [putSt_tm, if_neg ht]⟩
  · cases he

theorem evFls_ok {ops : Array Oper} : ∀ {l : List Nat} {s s' : St}, evFls P ops l s = some s' →
    Grows P s s' ∧ (∀ i ∈ l, ∃ o, ops[i]? = some o ∧ ∀ d, o.dst = some d → d < s.nt) ∧ ∀ t, (∀ i ∈ l, ∀ o, ops[i]? = some o → o.dst ≠ some t) → opd s'.tm (.tmp t) = opd s.tm (.tmp t)
  | [], s, s', h => by cases h; exact ⟨.refl s, by simp, fun _ _ => rfl⟩
  | i :: l, s, s', h => by
    obtain ⟨o, s1, ho, h1, h2, h3, h4⟩ := evFl_ok h
    obtain ⟨k1, k2, k3⟩ := evFls_ok h1
    refine ⟨h2.trans k1, fun j hj => ?_, fun t ht => ?_⟩
    · rcases List.mem_cons.1 hj with rfl | hj
      · exact ⟨o, ho, h3⟩
      · obtain ⟨o', e1, e2⟩ := k2 j hj
        exact ⟨o', e1, fun d hd => by rw [← h2.nt]; exact e2 d hd⟩
    · rw [k3 t fun j hj => ht j (by simp [hj]), h4 t (ht i (by simp) o ho)]

theorem again_lt {ops : Array Oper} {o : Oper} {s : St} {q : Nat} (h : again P ops o s = true) (hq : promOf o s = some q) : q < s.n := by
  unfold promOf at hq
  split at hq
  · rename_i d hnew hd
    unfold again at h
    split at h
    · rw [hd] at h
      have := sameV_eq 2 h
      rw [this] at hq
      cases hq
    · simp only [Bool.and_eq_true] at h
      obtain ⟨_, h⟩ := h
      split at h
      · rw [hnew] at h; simp at h
      · simp only [Bool.and_eq_true] at h
        rw [hd] at h
        obtain ⟨_, h⟩ := h
        simp only at h
        split at h
        · rename_i p hp
          rw [hp] at hq
          cases hq
          exact (blockOk_eq h).choose_spec.2.1
        · cases h
      · simp only [Bool.and_eq_true] at h
        rw [hd] at h
        obtain ⟨_, h⟩ := h
        simp only at h
        split at h
        · rename_i p l' c' hp
          rw [hp] at hq
          cases hq
          simp only [Bool.and_eq_true] at h
          exact (blockOk_eq h.2).choose_spec.2.1
        · cases h
      · cases h
  · cases hq

theorem promOf_same {o : Oper} {s s' : St} (h : ∀ d, o.dst = some d → opd s'.tm (.tmp d) = opd s.tm (.tmp d)) : promOf o s' = promOf o s := by
  unfold promOf
  cases isNew o.op <;> cases hd : o.dst
  · rfl
  · rfl
  · rfl
  · rename_i d
    show madeOf _ = madeOf _
    rw [h d hd]

theorem fresh_at {ops : Array Oper} {s : St} {lo : Nat} {l : List Nat} (h : fresh ops s lo l = true) {i : Nat} (hi : i ∈ l) {o : Oper} (ho : ops[i]? = some o) {q : Nat} (hq : promOf o s = some q) : lo ≤ q := by
  have := (List.all_eq_true.1 h) i hi
  simp only [ho, hq] at this
  exact Nat.le_of_ble_eq_true this

/-- THE STATE BEHIND AN OPERATION THAT DOESN'T FLOAT, and those that float behind it. -/
theorem Inv.anchor {ops : Array Oper} {ms : List Nat} (hp : PK ops ms) {f₀ : Ren} {s₀ : St} {w₀ : World} {x : Nat} {F : List Nat} {rest : List (Nat × List Nat)} {pend : List Nat} {S : St} {listed : Array Bool}
    {f : Ren} {a : Act} {w : World} (I : Inv P ops ms f₀ s₀ w₀ ((x, F) :: rest) pend S listed f a w) (hnd : x ∉ F ∧ x ∉ restOps rest ∧ ∀ j ∈ F, j ∉ restOps rest) (hF : ∀ j ∈ F, ∃ q, ops[j]? = some q ∧ FL ops ms j q)
    {o : Oper} (ho : ops[x]? = some o) (hn : ¬ On listed x) (hr : ∀ e ∈ edgesOf o, On listed e) {v : Value} {h' : Mem} {n' : Nat} {ds' : List Deferred} (hb : ∀ d, o.dst = some d → d < S.nt) {s2 : St}
    (hfl : evFls P ops F (putSt o.dst S v h' n' ds') = some s2) (hag : agains P ops s2 (pend.filter (fun i => !hasBit ms x i) ++ F) 0 = true) (hfr : fresh ops s2 n' F = true)
    {g : Ren} {v' : Value} {w' : World} {dl : List Deferred} (hv : VR g v v') (hst : Step P f S.h S.n w g h' n' w') (hd : DR g ds' dl) :
    Inv P ops ms f₀ s₀ w₀ rest (pend.filter (fun i => !hasBit ms x i) ++ F) s2 (listed.setIfInBounds x true) g ({ a with defers := dl }.put o.dst v') w' := by
  have hlt : x < listed.size := by rw [I.sz]; exact (Array.getElem?_eq_some_iff.1 ho).1
  obtain ⟨G, hFb, hFt⟩ := evFls_ok hfl
  -- what waits no longer is pending still
  have hbit : ∀ j, ¬ On listed j → hasBit ms x j = false := by
    intro j hj
    cases hb : hasBit ms x j
    · rfl
    · exact absurd (hp.on I.sz I.down x o ho hr j hb) hj
  have hmem : ∀ j, j ∈ pend.filter (fun i => !hasBit ms x i) ++ F ↔ (j ∈ pend ∧ hasBit ms x j = false) ∨ j ∈ F := by
    intro j; simp
  have hpx : ∀ j ∈ pend, j ≠ x := fun j hj e => by subst e; exact I.pr j hj (by simp [restOps])
  have hpF : ∀ j ∈ pend, j ∉ F := fun j hj e => I.pr j hj (by simp [restOps, e])
  have hFun : ∀ j ∈ F, ¬ On (listed.setIfInBounds x true) j := by
    intro j hj h
    rcases on_set h with rfl | h
    · exact hnd.1 hj
    · exact I.off j h (by simp [restOps, hj])
  -- a pending one's temporary stays
  have hsame : ∀ j q, j ∈ pend → ops[j]? = some q → ∀ d, q.dst = some d → opd s2.tm (.tmp d) = opd S.tm (.tmp d) := by
    intro j q hj hq d hdq
    obtain ⟨q', e1, e2, _⟩ := I.pf j hj
    rw [hq] at e1; cases e1
    rw [hFt d fun i hi o' ho' => ?_, putSt_tm, if_neg]
    · exact (e2.oth d hdq x o ho (fun e => hpx j hj e.symm)).1
    · exact (e2.oth d hdq i o' ho' (fun e => by subst e; exact hpF i hj hi)).1
  have hst2 : Step P f₀ s₀.h s₀.n w₀ g s2.h s2.n w' := (I.st.trans hst).trans (G.step (s := putSt o.dst S v h' n' ds') hst.r)
  refine ⟨by simp [I.sz], ?_, ?_, ?_, ?_, ?_, ?_, ?_, ?_, hst2, ?_, hag, ?_⟩
  · intro j q hj hq e he
    rcases on_set hj with rfl | hj
    · rw [ho] at hq; cases hq; exact on_set' (hr e he)
    · exact on_set' (I.down j q hj hq e he)
  · intro j hj
    rcases on_set hj with rfl | hj
    · exact hnd.2.1
    · intro hm; exact I.off j hj (by simp [restOps, hm])
  · intro j hj hnj hrj
    rw [hmem]
    by_cases hjF : j ∈ F
    · exact .inr hjF
    · left
      have hnj' : ¬ On listed j := fun h => hnj (on_set' h)
      refine ⟨I.pd j hj hnj' ?_, hbit j hnj'⟩
      simp only [restOps, List.cons_append, List.mem_cons, List.mem_append, not_or]
      exact ⟨fun e => by subst e; exact hnj (on_self hlt), hjF, hrj⟩
  · intro j hj
    have hnt2 : s2.nt = S.nt := G.nt
    rw [hnt2]
    rcases (hmem j).1 hj with ⟨h1, _⟩ | h1
    · exact I.pf j h1
    · obtain ⟨q, e1, e2⟩ := hF j h1
      obtain ⟨q', e3, e4⟩ := hFb j h1
      rw [e1] at e3; cases e3
      exact ⟨q, e1, e2, e4⟩
  · intro t ht
    rw [hFt t fun i hi o' ho' => ht i o' ((hmem i).2 (.inr hi)) (hFun i hi) ho', putSt_tm, put_tmps (nt := S.nt) { a with defers := dl } o.dst v' hb I.nt]
    split
    · exact hv
    · refine (I.tm t fun j q hj hnj hq => ?_).mono hst.le
      refine ht j q ((hmem j).2 (.inl ⟨hj, hbit j hnj⟩)) (fun h => ?_) hq
      rcases on_set h with h | h
      · exact hpx j hj h
      · exact hnj h
  · rw [put_size, G.nt]; exact I.nt
  · rw [put_defers, G.ds]; exact hd
  · intro j q y hj hnj hq hy
    obtain ⟨q', e1, e2, _⟩ := agains_mem hag j hj
    rw [hq] at e1; cases e1
    refine ⟨?_, again_lt e2 hy⟩
    rcases (hmem j).1 hj with ⟨h1, _⟩ | h1
    · have hnj' : ¬ On listed j := fun h => hnj (on_set' h)
      rw [promOf_same (hsame j q h1 hq)] at hy
      obtain ⟨k1, k2⟩ := I.prom j q y h1 hnj' hq hy
      exact (hst.old y k2 k1).1
    · have := fresh_at hfr h1 hq hy
      exact hst.r.fresh y this
  · intro j q y hj hq hy
    rcases (hmem j).1 hj with ⟨h1, _⟩ | h1
    · rw [promOf_same (hsame j q h1 hq)] at hy
      exact I.lo j q y h1 hq hy
    · have := fresh_at hfr h1 hq hy
      have h2 := I.st.cnt
      have h3 := hst.cnt
      omega
  · intro j hj
    rcases (hmem j).1 hj with ⟨h1, _⟩ | h1
    · intro hm; exact I.pr j h1 (by simp [restOps, hm])
    · exact hnd.2.2 j h1

end
end Go.Proofs.YtedbjceeakmjgaaGreatDoor.Ev
