/- The evaluator of closed runs: EvF5 -/
import Derived.Test.YtedbjceeakmjgaaGreatDoorEvF4
import Derived.Test.YtedbjceeakmjgaaGreatDoorEvF2
namespace Go.Proofs.YtedbjceeakmjgaaGreatDoor.Ev
set_option linter.unusedSimpArgs false

section
variable {P : Program}

theorem f_index {f : Ren} {w : World} {t : TypeId} {x x' i i' : Value} {fr : FR} (hx : VR f x x') (hi : VR f i i') (he : fIndex P t x i = some fr) :
    FOK P f w ((Instr.index t x' i').run P w) fr := by
  unfold fIndex at he
  split at he
  · rename_i k hk
    obtain ⟨kd, rfl⟩ := hi.natV hk
    split at he
    · rename_i l
      cases hx
      split at he
      · rename_i hu
        split at he
        · rename_i b hb
          cases he
          rw [listGet_eq] at hb
          refine ⟨_, .int _ _, ?_⟩
          have h1 : (ByteArray.mk ⟨l⟩)[k]? = some b := by
            show (ByteArray.mk ⟨l⟩).data[k]? = some b
            simpa using hb
          simp [Instr.index, asIntOf, run_underlying hu, h1]
        · cases he
      · cases he
    · cases he
  · cases he

theorem f_len {f : Ren} {h : Mem} {n : Nat} {w : World} (hr : R P f h n w) {t : TypeId} {x x' : Value} {fr : FR} (hx : VR f x x') (he : fLen P h t x = some fr) :
    FOK P f w ((Builtin.len_ #[t] 0 #[x']).run P w) fr := by
  unfold fLen at he
  split at he
  · rename_i e hu
    split at he
    · cases he
      cases hx with
      | snil l c => exact ⟨_, .int _ _, by simp [Builtin.len_, run_underlying hu, goInt]⟩
      | slice hb hl h1 h0 => exact ⟨_, .int _ _, by simp [Builtin.len_, run_underlying hu, goInt]⟩
      | sliceE hb h0 => exact ⟨_, .int _ _, by simp [Builtin.len_, run_underlying hu, goInt]⟩
    · cases he
  · rename_i hu
    split at he
    · rename_i l
      cases he; cases hx
      have hsz : (ByteArray.mk ⟨l⟩).size = l.length := by simp [ByteArray.size]
      exact ⟨_, .int _ _, by simp [Builtin.len_, run_underlying hu, goInt, hsz]⟩
    · cases he
  · rename_i a b hu
    split at he
    · cases he; cases hx
      exact ⟨_, .int _ _, by simp [Builtin.len_, run_underlying hu, goInt]⟩
    · rename_i b
      split at he
      · rename_i es clock hg
        cases he
        cases hx with
        | @map _ L hb =>
        obtain ⟨es', h1, h2, h3⟩ := hr.obj b L _ hb hg
        refine ⟨_, .int _ _, ?_⟩
        simp [Builtin.len_, run_underlying hu, goInt, Go.getObj, Sem.run, h1, h2]
      · cases he
    · cases he
  · cases he

theorem f_minMax {f : Ren} {w : World} {mx : Bool} {args args' : List Value} {fr : FR} (ha : VL f args args') (he : fMinMax P mx args = some fr) (ats : Array TypeId) (t : TypeId) :
    FOK P f w ((match mx with | true => Builtin.max_ ats t ⟨args'⟩ | false => Builtin.min_ ats t ⟨args'⟩).run P w) fr := by
  unfold fMinMax at he
  split at he
  · rename_i hg
    simp only [List.all_eq_true] at hg
    have : args' = args := vl_eq_of ha.len fun i v v' hv hv' => (ha.at i v v' hv hv').ground 2 (hg v (List.mem_of_getElem? hv))
    subst this
    cases mx <;> exact f_ansG he
  · cases he

theorem f_nilCheck {f : Ren} {w : World} {x x' : Value} {o : Oper} {fr : FR} {ρ : Operand → Value} {y : Operand} (ho : o.op = .nilCheck y) (hy : ρ y = x') (hx : VR f x x') (he : fNilCheck x = some fr) :
    ∃ r, FOK P f w r fr ∧ (execOp ρ o).run P w = (match r with | .ok v w => .ok (.value v) w | .halt h w => .halt h w) := by
  refine ⟨.ok x' w, ?_, ?_⟩
  · unfold fNilCheck at he
    split at he
    · cases he
    · cases he
    · cases he
    · cases he
    · cases he; exact ⟨x', hx, rfl⟩
  · unfold fNilCheck at he
    simp only [execOp, ho, hy]
    split at he
    · cases he
    · cases he
    · cases he
    · cases he
    · rename_i h1 h2 h3 h4
      cases he
      cases hx with
      | pnil => exact (h1 rfl).elim
      | nilIface => exact (h2 rfl).elim
      | nilFunc => exact (h3 rfl).elim
      | func fn a a' b b' =>
        cases fn with
        | method m => exact (h4 _ _ _ rfl).elim
        | _ => rfl
      | _ => rfl

/- maps -/

theorem bytesEq_eq : ∀ (a b : List UInt8), bytesEq a b = (a == b)
  | [], [] => rfl
  | [], _ :: _ => rfl
  | _ :: _, [] => rfl
  | x :: a, y :: b => by
    unfold bytesEq
    split
    · rename_i h
      have := Nat.eq_of_beq_eq_true h
      have hxy : x = y := UInt8.toNat_inj.1 this
      subst hxy
      rw [bytesEq_eq a b]; simp
    · rename_i h
      have hxy : x ≠ y := fun e => by subst e; simp at h
      have : (x == y) = false := by simpa using hxy
      simp [this]

theorem byteArr_beq (a b : List UInt8) : (ByteArray.mk ⟨a⟩ == ByteArray.mk ⟨b⟩) = (a == b) := by
  show ((⟨a⟩ : Array UInt8) == ⟨b⟩) = (a == b)
  simp

theorem sameNowA_eq {d : TypeDesc} {x y : Value} {b : Bool} (h : sameNowA d x y = some b) : Instr.sameNow d x y = some b := by
  unfold sameNowA at h
  split at h
  · split at h
    · rename_i k a k' c
      split at h
      · rename_i hk
        have := of_decide_eq_true hk
        subst this
        cases h
        simp [Instr.sameNow]
        by_cases e : a = c <;> simp [e]
      · cases h
    · cases h
  · split at h
    · cases h
      simp only [Instr.sameNow, bytesEq_eq, byteArr_beq]
    · cases h
  · split at h
    · cases h; rfl
    · cases h
  · cases h

/-- a map's entries and what they stand for. -/
def ML (f : Ren) (es : List (Value × Value × Nat)) (es' : List MapEntry) : Prop :=
  es'.length = es.length ∧ ∀ (i : Nat) k v n, es[i]? = some (k, v, n) → ∃ v', es'[i]? = some ⟨k, v', n⟩ ∧ VR f v v'

theorem ML.tail {f : Ren} {e : Value × Value × Nat} {es : List (Value × Value × Nat)} {e' : MapEntry} {es' : List MapEntry} (h : ML f (e :: es) (e' :: es')) : ML f es es' :=
  ⟨by simpa using h.1, fun i k v n hi => by simpa using h.2 (i + 1) k v n (by simpa using hi)⟩

theorem find_now {f : Ren} {d : TypeDesc} {k : Value} : ∀ {es : List (Value × Value × Nat)} {es' : List MapEntry} {i : Nat} {r : Option (Nat × Value × Nat)}, ML f es es' → findNowA d k es i = some r →
    match r with
    | none => Instr.findNow d k es' i = some none
    | some (j, v, n) => ∃ v', Instr.findNow d k es' i = some (some (j, v')) ∧ VR f v v' ∧ i ≤ j ∧ ∃ k', es[j - i]? = some (k', v, n)
  | [], es', i, r, hm, h => by
    have : es' = [] := List.length_eq_zero_iff.1 hm.1
    subst this
    simp [findNowA] at h; subst h; rfl
  | (k', v, n) :: es, [], i, r, hm, h => by simp [ML] at hm
  | (k', v, n) :: es, e' :: es', i, r, hm, h => by
    obtain ⟨v', h1, h2⟩ := hm.2 0 k' v n rfl
    simp at h1
    subst h1
    simp only [findNowA] at h
    split at h
    · rename_i hs
      cases h
      exact ⟨v', by simp [Instr.findNow, sameNowA_eq hs], h2, Nat.le_refl _, k', by simp⟩
    · rename_i hs
      have ih := find_now (hm.tail) h
      cases r with
      | none => simpa [Instr.findNow, sameNowA_eq hs] using ih
      | some r =>
        obtain ⟨j, v₁, n₁⟩ := r
        obtain ⟨v₂, a1, a2, a3, k₂, a4⟩ := ih
        refine ⟨v₂, by simpa [Instr.findNow, sameNowA_eq hs] using a1, a2, by omega, k₂, ?_⟩
        rw [show j - i = (j - i.succ) + 1 by omega]
        simpa using a4
    · cases h

theorem find_ask {f : Ren} {t : TypeId} {k : Value} {w : World} : ∀ {es : List (Value × Value × Nat)} {es' : List MapEntry} {i : Nat} {r : Option (Nat × Value × Nat)}, ML f es es' →
    findAskA P t k es i = some r →
    match r with
    | none => (Instr.findAsking t k es' i).run P w = .ok none w
    | some (j, v, n) => ∃ v', (Instr.findAsking t k es' i).run P w = .ok (some (j, v')) w ∧ VR f v v' ∧ i ≤ j ∧ ∃ k', es[j - i]? = some (k', v, n)
  | [], es', i, r, hm, h => by
    have : es' = [] := List.length_eq_zero_iff.1 hm.1
    subst this
    simp [findAskA] at h; subst h; rfl
  | (k', v, n) :: es, [], i, r, hm, h => by simp [ML] at hm
  | (k', v, n) :: es, e' :: es', i, r, hm, h => by
    obtain ⟨v', h1, h2⟩ := hm.2 0 k' v n rfl
    simp at h1
    subst h1
    simp only [findAskA] at h
    split at h
    · rename_i hs
      cases h
      exact ⟨v', by simp [Instr.findAsking, pure_run hs w], h2, Nat.le_refl _, k', by simp⟩
    · rename_i hs
      have ih := find_ask (w := w) (hm.tail) h
      cases r with
      | none => simpa [Instr.findAsking, pure_run hs w] using ih
      | some r =>
        obtain ⟨j, v₁, n₁⟩ := r
        obtain ⟨v₂, a1, a2, a3, k₂, a4⟩ := ih
        refine ⟨v₂, by simpa [Instr.findAsking, pure_run hs w] using a1, a2, by omega, k₂, ?_⟩
        rw [show j - i = (j - i.succ) + 1 by omega]
        simpa using a4
    · cases h

theorem check_key {d : TypeDesc} {e : Bool} {t : TypeId} {k : Value} (hu : P.underlying t = some d) (h : checkKeyA P d e t k = true) (w : World) :
    (Instr.checkKey e 10000 t k).run P w = .ok () w := by
  unfold checkKeyA at h
  split at h
  · rename_i hp
    show (Instr.checkKey e (9999 + 1) t k).run P w = _
    unfold Instr.checkKey
    cases d <;> simp [plainD] at hp <;> simp [run_underlying hu]
  · split at h
    · rename_i hs; exact pure_run hs w
    · cases h

/-- looking a key up in a map. -/
theorem find_key {f : Ren} {t : TypeId} {k k' : Value} {e : Bool} {es : List (Value × Value × Nat)} {es' : List MapEntry} {r : Option (Nat × Value × Nat)} (hk : VR f k k') (hm : ML f es es')
    (h : findKeyA P t k e es = some r) (w : World) : k' = k ∧ (Instr.checkKey e 10000 t k).run P w = .ok () w ∧
    match r with
    | none => (Instr.findKey t k es').run P w = .ok none w
    | some (j, v, n) => ∃ v', (Instr.findKey t k es').run P w = .ok (some (j, v')) w ∧ VR f v v' ∧ ∃ k', es[j]? = some (k', v, n) := by
  unfold findKeyA at h
  split at h
  · rename_i hg
    refine ⟨hk.ground 4 hg, ?_⟩
    split at h
    · rename_i d hu
      split at h
      · rename_i hc
        refine ⟨check_key hu hc w, ?_⟩
        split at h
        · have := find_now hm h
          cases r with
          | none => simp [Instr.findKey, run_underlying hu, this]
          | some r =>
            obtain ⟨j, v, n⟩ := r
            obtain ⟨v', a1, a2, a3, k₂, a4⟩ := this
            exact ⟨v', by simp [Instr.findKey, run_underlying hu, a1], a2, k₂, by simpa using a4⟩
        · rename_i hp
          have hnow : es' ≠ [] → Instr.findNow d k es' 0 = none := by
            intro hne
            cases es' with
            | nil => exact absurd rfl hne
            | cons x l =>
              have : Instr.sameNow d k x.key = none := by cases d <;> simp [plainD] at hp <;> rfl
              simp [Instr.findNow, this]
          have := find_ask (P := P) (w := w) hm h
          by_cases hne : es' = []
          · subst hne
            have : es = [] := List.length_eq_zero_iff.1 hm.1.symm
            subst this
            simp [findAskA] at h
            subst h
            simp [Instr.findKey, run_underlying hu, Instr.findNow]
          · cases r with
            | none => simp [Instr.findKey, run_underlying hu, hnow hne, this]
            | some r =>
              obtain ⟨j, v, n⟩ := r
              obtain ⟨v', a1, a2, a3, k₂, a4⟩ := this
              exact ⟨v', by simp [Instr.findKey, run_underlying hu, hnow hne, a1], a2, k₂, by simpa using a4⟩
      · cases h
    · cases h
  · cases h

theorem R.mapAt {f : Ren} {h : Mem} {n : Nat} {w : World} (hr : R P f h n w) {b : Nat} {L : Loc} {es : List (Value × Value × Nat)} {clock : Nat} (hb : f b = some L)
    (hg : h.get b = some (.map es clock)) : ∃ es', w.heap[L.n]? = some (.map ⟨es'⟩ clock) ∧ ML f es es' := by
  obtain ⟨es', h1, h2, h3⟩ := hr.obj b L _ hb hg
  obtain ⟨l⟩ := es'
  exact ⟨l, h1, by simpa using h2, fun i k v n hi => by simpa using h3 i k v n hi⟩

theorem f_lookup {f : Ren} {h : Mem} {n : Nat} {w : World} (hr : R P f h n w) {t : TypeId} {x x' k k' : Value} {ok : Bool} {fr : FR} (hx : VR f x x') (hk : VR f k k')
    (he : fLookup P h t x k ok = some fr) : FOK P f w ((Instr.lookup t x' k' ok).run P w) fr := by
  unfold fLookup at he
  split at he
  · rename_i kt elem hu
    split at he
    · rename_i es hes
      have hmap : ∃ es', ML f es es' ∧ ((x' = .map none ∧ es' = []) ∨ ∃ r clock, x' = .map (some r) ∧ w.heap[r]? = some (.map ⟨es'⟩ clock)) := by
        unfold mapA at hes
        split at hes
        · cases hes; cases hx
          exact ⟨[], ⟨rfl, by simp⟩, .inl ⟨rfl, rfl⟩⟩
        · split at hes
          · rename_i hg
            cases hes
            cases hx with
            | @map _ L hb =>
            obtain ⟨es', h1, h2⟩ := hr.mapAt hb hg
            exact ⟨es', h2, .inr ⟨_, _, rfl, h1⟩⟩
          · cases hes
        · cases hes
      obtain ⟨es', hm, hrun⟩ := hmap
      have hemp : (⟨es'⟩ : Array MapEntry).isEmpty = es.isEmpty := by
        have := hm.1
        cases es <;> cases es' <;> simp_all
      have key : ∀ (r : Result Value), (∀ (g : Array MapEntry), g = ⟨es'⟩ → ((do
          Instr.checkKey g.isEmpty 10000 kt k'
          let (v, ok') ← match ← Instr.findKey kt k' g.toList with
            | some (_, v) => pure (v, true)
            | none => pure (← zeroValue elem, false)
          pure (if ok then .tuple #[v, .bool ok'] else v) : Sem Value).run P w = r)) → (Instr.lookup t x' k' ok).run P w = r := by
        intro r hrr
        rcases hrun with ⟨rfl, rfl⟩ | ⟨q, clock, rfl, hq⟩
        · rw [← hrr #[] rfl]
          simp only [Instr.lookup, Sem.run_bind, run_underlying hu, Result.andThen_ok, Sem.run_pure]
          rfl
        · rw [← hrr ⟨es'⟩ rfl]
          simp only [Instr.lookup, Sem.run_bind, run_underlying hu, Result.andThen_ok, Sem.run_pure, Go.getObj, Sem.run, hq]
          rfl
      split at he
      · rename_i j v m hf
        obtain ⟨rfl, h1, v', h2, h3, _⟩ := find_key hk hm hf w
        rw [key (.ok (if ok then .tuple #[v', .bool true] else v') w) (by
          intro g hg; subst hg
          simp only [Sem.run_bind, hemp, h1, h2, Result.andThen_ok, Sem.run_pure])]
        exact f_holds h3 he
      · rename_i hf
        obtain ⟨rfl, h1, h2⟩ := find_key hk hm hf w
        split at he
        · rename_i z hz
          split at he
          · rename_i hg
            have hzz : VR f z z := vr_ground 3 z hg
            rw [key (.ok (if ok then .tuple #[z, .bool false] else z) w) (by
              intro g hg; subst hg
              simp only [Sem.run_bind, hemp, h1, h2, Result.andThen_ok, Sem.run_pure, run_zv hz])]
            split at he
            · cases he; exact ⟨_, .tuple' (.cons hzz (.single (.bool false))), rfl⟩
            · cases he; exact ⟨z, hzz, rfl⟩
          · cases he
        · cases he
      · cases he
    · cases he
  · cases he

end
end Go.Proofs.YtedbjceeakmjgaaGreatDoor.Ev
