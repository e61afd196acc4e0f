/- The evaluator of closed runs: EvC1 -/
import Derived.Test.YtedbjceeakmjgaaGreatDoorEvS9
namespace Go.Proofs.YtedbjceeakmjgaaGreatDoor.Ev
set_option linter.unusedSimpArgs false

section
variable {P : Program}

/-- a frame's state, both ways. -/
structure SR (P : Program) (f : Ren) (s : St) (a : Act) (w : World) : Prop where
  r : R P f s.h s.n w
  tm : ∀ t, VR f (opd s.tm (.tmp t)) (a.tmps.getD t undef)
  sz : a.tmps.size = s.nt
  ds : DR f s.ds a.defers

theorem vr_undef {f : Ren} : VR f undef undef := .tuple' .nil

theorem SR.opr {f : Ren} {s : St} {a : Act} {w : World} (hs : SR P f s a w) {o : Op} (hc : constsOk o = true) : OpR f (opd s.tm) a.eval o := by
  intro x hx
  have := (List.all_eq_true.1 hc) x hx
  cases x with
  | tmp t => exact hs.tm t
  | const v => exact vr_ground 6 v this
  | global g => cases this
  | func fn => exact .func' _ .nil .nil

theorem getD_set (a : Array Value) (d t : Nat) (v : Value) (hd : d < a.size) : (a.setIfInBounds d v).getD t undef = if t = d then v else a.getD t undef := by
  rw [Array.getD_eq_getD_getElem?, Array.getD_eq_getD_getElem?]
  by_cases h : t = d
  · subst h; rw [if_pos rfl, Array.getElem?_setIfInBounds_self_of_lt hd]; rfl
  · rw [if_neg h, Array.getElem?_setIfInBounds_ne (fun e => h e.symm)]

/-- the state with a value laid in its temporary. -/
noncomputable def putSt (dst : Option Tmp) (s : St) (v : Value) (h : Mem) (n : Nat) (ds : List Deferred) : St :=
  ⟨match dst with | some d => s.tm.set d v | none => s.tm, h, n, ds, s.nt⟩

theorem putK_ok {β : Type} {s : St} {dst : Option Tmp} {v : Value} {h : Mem} {n : Nat} {ds : List Deferred} {k : St → Option β} {z : β} (he : putK dst s v h n ds k = some z) :
    k (putSt dst s v h n ds) = some z ∧ ∀ d, dst = some d → d < s.nt := by
  unfold putK at he
  split at he
  · rename_i d
    split at he
    · rename_i hlt
      rw [T.setK_set] at he
      exact ⟨he, fun e h => by cases h; exact Nat.le_of_ble_eq_true hlt⟩
    · cases he
  · exact ⟨he, fun d h => by cases h⟩

theorem putSt_tm (dst : Option Tmp) (s : St) (v : Value) (h : Mem) (n : Nat) (ds : List Deferred) (t : Nat) :
    opd (putSt dst s v h n ds).tm (.tmp t) = if dst = some t then v else opd s.tm (.tmp t) := by
  unfold putSt
  cases dst with
  | none => simp
  | some d =>
    simp only [opd, T.get_set, Option.some.injEq]
    by_cases h : t = d
    · subst h; simp
    · have : ¬ (d = t) := fun e => h e.symm
      simp [h, this]

theorem put_tmps {nt : Nat} (a : Act) (dst : Option Tmp) (v : Value) (hd : ∀ d, dst = some d → d < nt) (hs : a.tmps.size = nt) (t : Nat) :
    (a.put dst v).tmps.getD t undef = if dst = some t then v else a.tmps.getD t undef := by
  cases dst with
  | none => simp [Act.put]
  | some d =>
    simp only [Act.put, Option.some.injEq]
    rw [getD_set _ _ _ _ (by rw [hs]; exact hd d rfl)]
    by_cases h : t = d
    · subst h; simp
    · have : ¬ (d = t) := fun e => h e.symm
      simp [h, this]

theorem put_size (a : Act) (dst : Option Tmp) (v : Value) : (a.put dst v).tmps.size = a.tmps.size := by
  cases dst <;> simp [Act.put]

theorem put_defers (a : Act) (dst : Option Tmp) (v : Value) : (a.put dst v).defers = a.defers := by
  cases dst <;> simp [Act.put]

theorem SR.put {f g : Ren} {s : St} {a : Act} {w w' : World} (hs : SR P f s a w) {dst : Option Tmp} {v v' : Value} {h' : Mem} {n' : Nat} {ds' dl : List Deferred} (hd : ∀ d, dst = some d → d < s.nt)
    (hv : VR g v v') (hst : Step P f s.h s.n w g h' n' w') (hdr : DR g ds' dl) : SR P g (putSt dst s v h' n' ds') ({ a with defers := dl }.put dst v') w' := by
  refine ⟨hst.r, fun t => ?_, ?_, ?_⟩
  · rw [putSt_tm, put_tmps (nt := s.nt) { a with defers := dl } dst v' hd hs.sz]
    split
    · exact hv
    · exact (hs.tm t).mono hst.le
  · rw [put_size]; exact hs.sz
  · rw [put_defers]; exact hdr

/-- what is wanted is wanted both ways. -/
theorem wanted_eq {f : Ren} {s : St} {a : Act} {w : World} (hs : SR P f s a w) (ops : Array Oper) (o : Oper) : Region.wanted o (yielded ops a.tmps) = wantedA ops.toList s.tm o.guard := by
  unfold Region.wanted wantedA
  cases hg : o.guard with
  | none => rfl
  | some p =>
    obtain ⟨j, want⟩ := p
    simp only
    rw [listGet_eq]
    unfold yielded
    simp only [Array.getElem?_toList]
    cases hj : ops[j]? with
    | none => simp
    | some x =>
      simp only [Option.bind_some]
      cases hd : x.dst with
      | none => simp
      | some d =>
        simp only [Option.bind_some]
        have ht := hs.tm d
        simp only [opd] at ht
        rw [Array.getD_eq_getD_getElem?] at ht
        cases hget : s.tm.get d with
        | none =>
          rw [hget] at ht
          simp only at ht ⊢
          cases hc : a.tmps[d]? with
          | none => simp
          | some y =>
            rw [hc] at ht
            simp only [Option.getD_some] at ht
            unfold undef at ht
            cases ht
            simp
        | some v =>
          rw [hget] at ht
          simp only at ht ⊢
          cases hc : a.tmps[d]? with
          | none =>
            rw [hc] at ht
            simp only [Option.getD_none] at ht
            unfold undef at ht
            cases ht
            simp
          | some y =>
            rw [hc] at ht
            simp only [Option.getD_some] at ht
            cases ht <;> simp

/-- what happens from one state of a frame to another. -/
def StepS (P : Program) (f : Ren) (s : St) (w : World) (g : Ren) (s' : St) (w' : World) : Prop := Step P f s.h s.n w g s'.h s'.n w'

theorem evOps_cons (call : CallF) (ops : List Oper) (o : Oper) (l : List Oper) (s : St) : evOps P call ops (o :: l) s = opStep P call ops o (evOps P call ops l) s := rfl

/-- OPERATIONS ONE BEHIND THE OTHER. -/
theorem evOps_ok {call : CallF} (hcall : CallOK P call) (ops : Array Oper) {Q : Exit → Act → World → Prop} :
    ∀ (l : List Oper) (k : Nat), (∀ i, l[i]? = ops[k + i]?) → ∀ (f : Ren) (s s' : St) (a : Act) (w : World), evOps P call ops.toList l s = some s' → SR P f s a w →
      (∀ g a' w', SR P g s' a' w' → StepS P f s w g s' w' → Q .normal a' w') → wpOps P ops Q (List.range' k l.length) a w
  | [], k, _, f, s, s', a, w, he, hs, hq => by
    cases he
    simp only [List.length_nil, List.range'_zero, wpOps]
    exact hq f a w hs (.refl hs.r)
  | o :: l, k, hl, f, s, s', a, w, he, hs, hq => by
    have hk : ops[k]? = some o := by have := hl 0; simpa using this.symm
    have hl' : ∀ i, l[i]? = ops[k + 1 + i]? := fun i => by have := hl (i + 1); simpa [Nat.add_assoc, Nat.add_comm 1 i] using this
    simp only [List.length_cons, List.range'_succ, wpOps, hk]
    rw [evOps_cons] at he
    unfold opStep at he
    rw [wanted_eq hs ops o]
    split at he
    · rename_i hw
      rw [if_pos hw]
      left
      split at he
      · rename_i hc
        obtain ⟨v, h', n', ds', h1, h2⟩ := evO_ok hs.r hcall (hs.opr hc) hs.ds he
        obtain ⟨h3, h4⟩ := putK_ok h1
        refine h2 _ Q (fun g v' w' dl hv hst hd => ?_)
        have hs' := hs.put (dst := o.dst) h4 hv hst hd
        exact evOps_ok hcall ops l (k + 1) hl' g _ s' _ w' h3 hs' fun g' a'' w'' k1 k2 => hq g' a'' w'' k1 (hst.trans k2)
      · cases he
    · rename_i hw
      rw [if_neg (by rw [hw]; simp)]
      obtain ⟨h3, h4⟩ := putK_ok he
      have hs' := hs.put (dst := o.dst) (v := undef) (v' := undef) h4 vr_undef (.refl hs.r) hs.ds
      exact evOps_ok hcall ops l (k + 1) hl' f _ s' _ w h3 hs' hq

end
end Go.Proofs.YtedbjceeakmjgaaGreatDoor.Ev
