/- The evaluator of closed runs: EvC2 -/
import Derived.Test.YtedbjceeakmjgaaGreatDoorEvC1
import Derived.Defers
namespace Go.Proofs.YtedbjceeakmjgaaGreatDoor.Ev
set_option linter.unusedSimpArgs false

section
variable {P : Program}

theorem results_list {f : Ren} {s : St} {a : Act} {w : World} (hs : SR P f s a w) : ∀ (rs : List ResultVar) {l : List Value}, resultsA P s.tm s.h rs = some l →
    ∃ l', VL f l l' ∧ (rs.mapM (fun
      | .tmp t => pure (a.tmps.getD t undef)
      | .cell x t => do loadVar t (← asAddr (a.tmps.getD x undef)) : ResultVar → Sem Value)).run P w = .ok l' w
  | [], l, h => by cases h; exact ⟨[], .nil, by simp⟩
  | .tmp t :: rs, l, h => by
    simp only [resultsA] at h
    split at h
    · rename_i r hr
      cases h
      obtain ⟨l', h1, h2⟩ := results_list hs rs hr
      refine ⟨_, .cons (hs.tm t) h1, ?_⟩
      simp only [List.mapM_cons, Sem.run_bind, Sem.run_pure, Result.andThen_ok, h2]
    · cases h
  | .cell x t :: rs, l, h => by
    simp only [resultsA] at h
    split at h
    · rename_i v hv
      split at h
      · rename_i r hr
        cases h
        obtain ⟨l', h1, h2⟩ := results_list hs rs hr
        obtain ⟨v', b, o, k1, k2, k3⟩ := hs.r.loadVar (hs.tm x) hv
        refine ⟨_, .cons k1 h1, ?_⟩
        have hA : asAddr (a.tmps.getD x undef) = pure ⟨b, o, none⟩ := by rw [k2]; rfl
        simp only [List.mapM_cons, Sem.run_bind, hA, Sem.run_pure, Result.andThen_ok, k3, h2]
      · cases h
    · cases h

theorem results_ok {f : Ren} {s : St} {a : Act} {w : World} (hs : SR P f s a w) {fn : Func} {l : List Value} (h : resultsA P s.tm s.h fn.results.toList = some l) :
    ∃ v', VR f (match l with | [v] => v | l => .tuple ⟨l⟩) v' ∧ (results fn a.tmps).run P w = .ok v' w := by
  obtain ⟨l', h1, h2⟩ := results_list hs _ h
  have hm : (fn.results.mapM (fun
      | .tmp t => pure (a.tmps.getD t undef)
      | .cell x t => do loadVar t (← asAddr (a.tmps.getD x undef)) : ResultVar → Sem Value)).run P w = .ok ⟨l'⟩ w := by
    rw [Array.mapM_eq_mapM_toList, Sem.run_map, h2]; rfl
  have key : (results fn a.tmps).run P w = .ok (if h : (⟨l'⟩ : Array Value).size = 1 then (⟨l'⟩ : Array Value)[0] else .tuple ⟨l'⟩) w := by
    show ((fn.results.mapM (fun
      | .tmp t => pure (a.tmps.getD t undef)
      | .cell x t => do loadVar t (← asAddr (a.tmps.getD x undef)) : ResultVar → Sem Value)) >>= fun vs => pure (if h : vs.size = 1 then vs[0] else .tuple vs)).run P w = _
    rw [Sem.run_bind, hm]
    rfl
  rw [key]
  cases h1 with
  | nil => exact ⟨_, .tuple' .nil, rfl⟩
  | cons hv ht =>
    cases ht with
    | nil => exact ⟨_, hv, rfl⟩
    | cons hv2 ht2 => exact ⟨_, .tuple' (.cons hv (.cons hv2 ht2)), rfl⟩

/-- memory that only grew. -/
structure Grew (w w' : World) : Prop where
  size : w.heap.size ≤ w'.heap.size
  old : ∀ b, b < w.heap.size → w'.heap[b]? = w.heap[b]?
  same : w'.tape = w.tape ∧ w'.os = w.os ∧ w'.output = w.output

theorem R.grew {f : Ren} {h : Mem} {n : Nat} {w w' : World} (hr : R P f h n w) (hg : Grew w w') : Step P f h n w f h n w' :=
  ⟨⟨fun b L hb => Nat.lt_of_lt_of_le (hr.lt b L hb) hg.size, hr.fresh, hr.inj, fun b L o hb ho => by rw [hg.old _ (hr.lt b L hb)]; exact hr.obj b L o hb ho⟩,
    .refl f, fun _ _ hb => ⟨hb, rfl⟩, fun _ _ hb => .inl hb, fun m hm _ => hg.old m hm, hg.size, hg.same, Nat.le_refl _⟩

/-- what is given of some functions is so. -/
structure GivOK (P : Program) (G : Giv) : Prop where
  idle : ∀ f, G.idle f = true → funOk P f = true ∧ ∀ (w : World), CallsD P f #[] .returning w fun e u w' => (∃ v, e = .returned v) ∧ u = .returning ∧ Grew w w'
  tells : ∀ f args v, G.tells f args = some v → ∀ (g : Ren) (args' : List Value) (w : World), VL g args args' →
    Calls P f ⟨args'⟩ w fun e w' => (∃ v', e = .returned v' ∧ VR g v v') ∧ Grew w w'

theorem leaves_idle {G : Giv} (hG : GivOK P G) {fn : Func} {tmps : Array Value} {R' : Ending → World → Prop} : ∀ {f : Ren} {ds dl : List Deferred} {w : World}, DR f ds dl →
    ds.all (idleD G) = true →
    (∀ w', Grew w w' → ∃ v, (results fn tmps).run P w' = .ok v w' ∧ R' (.returned v) w') → Leaves P fn tmps R' dl .returning w := by
  intro f ds dl w hd
  induction hd generalizing w with
  | nil =>
    intro _ h
    exact h w ⟨Nat.le_refl _, fun _ _ => rfl, rfl, rfl, rfl⟩
  | @cons fv c c' a a' l l' hc ha t ih =>
    intro hall h
    simp only [List.all_cons, Bool.and_eq_true] at hall
    obtain ⟨hi, hall⟩ := hall
    unfold idleD at hi
    cases fv with
    | func g =>
      simp only [Bool.and_eq_true, List.isEmpty_iff] at hi
      obtain ⟨⟨rfl, rfl⟩, hi⟩ := hi
      cases hc
      cases ha
      obtain ⟨hok, hid⟩ := hG.idle g hi
      have hinv : (invoke (.fn (.func g) ⟨[]⟩) ⟨[]⟩).run P w = .ok (.enter g #[]) w := by
        have := run_callFunc (P := P) (f := g) (args := (⟨[]⟩ : Array Value) ++ ⟨[]⟩) hok w
        exact this
      refine leaves_cons (by simp) hinv (CallsD.mono (hid w) fun e u w' hh => ?_)
      obtain ⟨⟨v, rfl⟩, rfl, hg⟩ := hh
      simp only [settle]
      exact ih hall fun w'' hg' => h w'' ⟨Nat.le_trans hg.size hg'.size, fun b hb => (hg'.old b (Nat.lt_of_lt_of_le hb hg.size)).trans (hg.old b hb),
        hg'.same.1.trans hg.same.1, hg'.same.2.1.trans hg.same.2.1, hg'.same.2.2.trans hg.same.2.2⟩
    | _ => simp at hi

theorem tmK_cons {β : Type} (c : T Value) (o : Nat) (v : Value) (l : List Value) (k : T Value → Option β) :
    tmK c o (v :: l) k = T.setK (Nat.succ o) c o v fun c => natK (Nat.succ o) fun o => tmK c o l k := rfl

theorem tmK_ok {β : Type} {k : T Value → Option β} {z : β} : ∀ {l : List Value} {c : T Value} {o : Nat}, tmK c o l k = some z →
    ∃ c', k c' = some z ∧ ∀ i, c'.get i = if o ≤ i ∧ i < o + l.length then l[i - o]? else c.get i
  | [], c, o, h => ⟨c, h, fun i => by rw [if_neg (by simp)]⟩
  | v :: l, c, o, h => by
    rw [tmK_cons, T.setK_set, natK_eq] at h
    obtain ⟨c', h1, h2⟩ := tmK_ok h
    refine ⟨c', h1, fun i => ?_⟩
    rw [h2, T.get_set]
    simp only [List.length_cons]
    by_cases hi : i = o
    · subst hi
      rw [if_neg (by omega), if_pos rfl, if_pos (by omega)]; simp
    · by_cases h5 : o.succ ≤ i ∧ i < o.succ + l.length
      · rw [if_pos h5, if_pos (by omega), show i - o = i - o.succ + 1 by omega]; simp
      · rw [if_neg h5, if_neg hi, if_neg (by omega)]

/-- what a piece of code does. -/
def CodeOK (P : Program) (ev : Code → St → Option (Exit × St)) : Prop :=
  ∀ (c : Code) (s : St) (e : Exit) (s' : St), ev c s = some (e, s') → ∀ (f : Ren) (a : Act) (w : World), SR P f s a w → ∀ (Q : Exit → Act → World → Prop),
    (∀ g a' w', SR P g s' a' w' → StepS P f s w g s' w' → Q e a' w') → c.wp P Q a w

theorem start_tm {f : Ren} {args args' : List Value} {n : Nat} (ha : VL f args args') (_hn : args.length ≤ n) {c : T Value} (hc : ∀ i, c.get i = args[i]?) (t : Nat) :
    VR f (opd c (.tmp t)) (((⟨args'⟩ : Array Value) ++ Array.replicate (n - (⟨args'⟩ : Array Value).size) undef).getD t undef) := by
  simp only [opd, hc]
  rw [Array.getD_eq_getD_getElem?]
  by_cases ht : t < args.length
  · obtain ⟨v', h1, h2⟩ := ha.ex (List.getElem?_eq_getElem ht)
    rw [List.getElem?_eq_getElem ht]
    have hlt : t < (⟨args'⟩ : Array Value).size := by simp [← ha.len, ht]
    rw [Array.getElem?_append_left hlt]
    simp only [List.getElem?_toArray, h1, Option.getD_some]
    exact h2
  · rw [List.getElem?_eq_none (by omega)]
    have hge : ¬ t < (⟨args'⟩ : Array Value).size := by simp [← ha.len]; omega
    rw [Array.getElem?_append_right (by omega)]
    have : ((Array.replicate (n - (⟨args'⟩ : Array Value).size) undef)[t - (⟨args'⟩ : Array Value).size]?).getD undef = undef := by
      rw [Array.getElem?_replicate]; split <;> rfl
    rw [this]
    exact vr_undef

theorem callBody_ok {G : Giv} (hG : GivOK P G) {ev : Code → St → Option (Exit × St)} (hev : CodeOK P ev) {fid : FuncId} {fn : Func} {c : Code} (hf : P.funcs[fid]? = some fn) (hb : fn.body = some c)
    {args : List Value} {h : Mem} {n : Nat} {v : Value} {h' : Mem} {n' : Nat} (he : callBody P G ev fn c args h n = some (v, h', n')) {f : Ren} {w : World} {args' : List Value} (hr : R P f h n w)
    (ha : VL f args args') : Calls P fid ⟨args'⟩ w fun
      | .returned v', w' => ∃ g, VR g v v' ∧ Step P f h n w g h' n' w'
      | .panicked _, _ => False
      | .outgrown, _ => False := by
  unfold callBody at he
  split at he
  · rename_i hlen
    have hlen' : args.length ≤ fn.ntmps := Nat.le_of_ble_eq_true hlen
    obtain ⟨tm, h1, h2⟩ := tmK_ok he
    have htm : ∀ i, tm.get i = args[i]? := fun i => by
      rw [h2]
      by_cases hi : i < args.length
      · rw [if_pos (by omega)]; simp
      · rw [if_neg (by omega), List.getElem?_eq_none (by omega)]; rfl
    have hs : SR P f ⟨tm, h, n, [], fn.ntmps⟩ { tmps := (⟨args'⟩ : Array Value) ++ Array.replicate (fn.ntmps - (⟨args'⟩ : Array Value).size) undef, defers := [] } w :=
      ⟨hr, fun t => start_tm ha hlen' htm t, by simp [← ha.len]; omega, .nil⟩
    refine calls_of_wp_defers hf hb ?_
    have fin : ∀ (s : St), endA P G fn.results.toList s = some (v, h', n') → ∀ g a' w', SR P g s a' w' → StepS P f ⟨tm, h, n, [], fn.ntmps⟩ w g s w' →
        Leaves P fn a'.tmps (fun
          | .returned v', w' => ∃ g, VR g v v' ∧ Step P f h n w g h' n' w'
          | .panicked _, _ => False
          | .outgrown, _ => False) a'.defers .returning w' := by
      intro s hend g a' w' hs' hst
      unfold endA at hend
      split at hend
      · rename_i hall
        have hres : ∀ l, resultsA P s.tm s.h fn.results.toList = some l → (match l with | [v] => v | l => Value.tuple ⟨l⟩) = v → s.h = h' → s.n = n' →
            Leaves P fn a'.tmps (fun
              | .returned v', w' => ∃ g, VR g v v' ∧ Step P f h n w g h' n' w'
              | .panicked _, _ => False
              | .outgrown, _ => False) a'.defers .returning w' := by
          intro l hl hv e1 e2
          subst e1; subst e2
          refine leaves_idle hG hs'.ds hall fun w'' hg => ?_
          have hst2 := hs'.r.grew hg
          have hs'' : SR P g s a' w'' := ⟨hst2.r, hs'.tm, hs'.sz, hs'.ds⟩
          obtain ⟨v', k1, k2⟩ := results_ok hs'' hl
          exact ⟨v', k2, g, by rw [← hv]; exact k1, hst.trans hst2⟩
        split at hend
        · rename_i x hl
          rw [nfK_eq] at hend
          cases hend
          exact hres _ hl rfl rfl rfl
        · rename_i l hn hl
          rw [nfK_eq] at hend
          cases hend
          refine hres _ hl ?_ rfl rfl
          split
          · rename_i x; exact (hn x rfl).elim
          · rfl
        · cases hend
      · cases hend
    split at h1
    · rename_i s hc
      exact hev _ _ _ _ hc f _ w hs _ fun g a' w' hs' hst => fin s h1 g a' w' hs' hst
    · rename_i s hc
      exact hev _ _ _ _ hc f _ w hs _ fun g a' w' hs' hst => fin s h1 g a' w' hs' hst
    · cases h1
  · cases he

theorem callStep_ok {G : Giv} (hG : GivOK P G) {ev : Code → St → Option (Exit × St)} (hev : CodeOK P ev) : CallOK P (callStep P G ev) := by
  intro fid args h n v h' n' he f w args' hr ha
  unfold callStep at he
  split at he
  · rename_i v0 ht
    cases he
    refine Calls.mono (hG.tells fid args v ht f args' w ha) fun e w' hh => ?_
    obtain ⟨⟨v', rfl, h1⟩, h2⟩ := hh
    exact ⟨f, h1, hr.grew h2⟩
  · split at he
    · rename_i fn hf
      split at he
      · rename_i c hb
        exact callBody_ok hG hev hf hb he hr ha
      · cases he
    · cases he

end
end Go.Proofs.YtedbjceeakmjgaaGreatDoor.Ev
