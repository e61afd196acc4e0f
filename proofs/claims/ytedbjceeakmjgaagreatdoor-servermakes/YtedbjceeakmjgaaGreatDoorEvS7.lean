/- The evaluator of closed runs: EvS7 -/
import Derived.Test.YtedbjceeakmjgaaGreatDoorEvS6
namespace Go.Proofs.YtedbjceeakmjgaaGreatDoor.Ev
set_option linter.unusedSimpArgs false

section
variable {P : Program}

/-- a new block that is no row of cells. -/
theorem R.pushObj {f : Ren} {h : Mem} {n : Nat} {w : World} (hr : R P f h n w) {o : AObj} {x : Obj} (ho : ∀ g, RLe f g → OR P g ⟨w.heap.size, 0, 0, 0⟩ o (some x)) :
    Step P f h n w (f.put n ⟨w.heap.size, 0, 0, 0⟩) (h.set n o) (n + 1) { w with heap := w.heap.push x } :=
  hr.push rfl rfl (ho _ (Ren.put_le (hr.fresh n (Nat.le_refl _)))) ⟨rfl, rfl, rfl⟩

theorem ptr_put (f : Ren) (n m : Nat) : VR (f.put n ⟨m, 0, 0, 0⟩) (.pointer (some ⟨n, 0, none⟩)) (.pointer (some ⟨m, 0, none⟩)) := by
  have := VR.ptr (f := f.put n ⟨m, 0, 0, 0⟩) (b := n) (o := 0) (L := ⟨m, 0, 0, 0⟩) (by simp [Ren.put])
  simpa using this

theorem rangeA_ok {β : Type} {f : Ren} {h : Mem} {n : Nat} {w : World} (hr : R P f h n w) {t : TypeId} {x x' : Value} (hx : VR f x x') {k : Mem → Option β} {r : β}
    (he : rangeA P h n t x k = some r) :
    ∃ h' w' v' g, k h' = some r ∧ (Instr.range t x').run P w = .ok v' w' ∧ VR g (.pointer (some ⟨n, 0, none⟩)) v' ∧ Step P f h n w g h' (n + 1) w' := by
  unfold rangeA at he
  split at he
  · rename_i kt el hu
    split at he
    · cases hx
      rw [T.setK_set] at he
      refine ⟨_, _, _, _, he, ?_, ptr_put f n w.heap.size, hr.pushObj (x := .mapIter none 0 #[] 0) fun g _ => ⟨rfl, rfl⟩⟩
      simp [Instr.range, run_underlying hu]
    · rename_i b
      split at he
      · rename_i es clock hg
        rw [T.setK_set] at he
        cases hx with
        | @map _ L hb =>
        obtain ⟨es', hh, hml⟩ := hr.mapAt hb hg
        have hgo : (Go.getObj L.n).run P w = .ok (.map ⟨es'⟩ clock) w := by simp [Go.getObj, Sem.run, hh]
        refine ⟨_, _, _, _, he, ?_, ptr_put f n w.heap.size, hr.pushObj (x := .mapIter (some L.n) clock #[] clock) fun g hle => ⟨rfl, L, hle _ _ hb, rfl⟩⟩
        simp [Instr.range, run_underlying hu, hgo]
      · cases he
    · cases he
  · rename_i hu
    split at he
    · rename_i l
      cases hx
      rw [T.setK_set] at he
      refine ⟨_, _, _, _, he, ?_, ptr_put f n w.heap.size, hr.pushObj (x := .stringIter ⟨⟨l⟩⟩ 0) fun g _ => ⟨rfl, rfl⟩⟩
      simp [Instr.range, run_underlying hu]
    · cases he
  · cases he

theorem run_setIter {w : World} {r : Nat} {m m' : Option Nat} {s s' a a' : Nat} {q q' : Array Nat} (h : w.heap[r]? = some (.mapIter m s q a)) :
    (Go.setObj r (.mapIter m' s' q' a')).run P w = .ok () { w with heap := w.heap.setIfInBounds r (.mapIter m' s' q' a') } := by
  simp [Go.setObj, Sem.run, h]

theorem ML.filter {f : Ren} (p : Nat → Bool) : ∀ {es : List (Value × Value × Nat)} {es' : List MapEntry}, ML f es es' →
    ML f (es.filter fun e => p e.2.2) (es'.filter fun e => p e.born)
  | [], es', hm => by
    have : es' = [] := List.length_eq_zero_iff.1 hm.1
    subst this
    exact ⟨rfl, by simp⟩
  | (k, u, i) :: es, [], hm => by simp [ML] at hm
  | (k, u, i) :: es, e' :: es', hm => by
    obtain ⟨v', h1, h2⟩ := hm.2 0 k u i rfl
    simp at h1
    subst h1
    have ih := ML.filter p hm.tail
    simp only [List.filter_cons]
    by_cases hp : p i = true
    · simp only [hp, if_true]
      refine ⟨by simp [ih.1], fun q kq vq nq hq => ?_⟩
      cases q with
      | zero => simp at hq; obtain ⟨rfl, rfl, rfl⟩ := hq; exact ⟨v', by simp, h2⟩
      | succ q => simpa using ih.2 q kq vq nq (by simpa using hq)
    · simp only [hp]
      exact ih

theorem ML.all {f : Ren} (p : Nat → Bool) : ∀ {es : List (Value × Value × Nat)} {es' : List MapEntry}, ML f es es' → (es'.all fun e => p e.born) = es.all fun e => p e.2.2
  | [], es', hm => by
    have : es' = [] := List.length_eq_zero_iff.1 hm.1
    subst this
    rfl
  | (k, u, i) :: es, [], hm => by simp [ML] at hm
  | (k, u, i) :: es, e' :: es', hm => by
    obtain ⟨v', h1, h2⟩ := hm.2 0 k u i rfl
    simp at h1
    subst h1
    simp only [List.all_cons, ML.all p hm.tail]

theorem beq_nat (a b : Nat) : Nat.beq a b = (a == b) := by
  by_cases h : a = b
  · subst h; simp
  · cases hb : Nat.beq a b
    · simp [h]
    · exact absurd (Nat.eq_of_beq_eq_true hb) h

theorem nextM_ok {β : Type} {f : Ren} {h : Mem} {n : Nat} {w : World} (hr : R P f h n w) {r m since last : Nat} {seen : List Nat} {L : Loc} (hb : f r = some L)
    (hg : h.get r = some (.iter (some m) since seen last)) {ty : TypeId} {k : Value → Mem → Option β} {z : β} (he : nextM h r m since seen last k = some z) :
    ∃ v h' w' v', k v h' = some z ∧ (Instr.next (.pointer (some ⟨L.n, 0, none⟩)) false ty).run P w = .ok v' w' ∧ VR f v v' ∧ Step P f h n w f h' n w' := by
  obtain ⟨hsh, Lm, hm, ho⟩ := hr.obj r L _ hb hg
  unfold nextM at he
  split at he
  · rename_i es clock hgm
    obtain ⟨es', hh, hml⟩ := hr.mapAt hm hgm
    have hgo : (Go.getObj L.n).run P w = .ok (.mapIter (some Lm.n) since ⟨seen⟩ last) w := by simp [Go.getObj, Sem.run, ho]
    have hgm' : (Go.getObj Lm.n).run P w = .ok (.map ⟨es'⟩ clock) w := by simp [Go.getObj, Sem.run, hh]
    split at he
    · cases he
    · rename_i hcond
      have hc : (!(⟨seen⟩ : Array Nat).isEmpty && !(⟨es'⟩ : Array MapEntry).isEmpty && (⟨es'⟩ : Array MapEntry).all (fun e => decide (e.born ≥ last))) = false := by
        have h1 : (⟨seen⟩ : Array Nat).isEmpty = seen.isEmpty := by simp
        have h2 : (⟨es'⟩ : Array MapEntry).isEmpty = es.isEmpty := by
          have := hml.1
          cases es <;> cases es' <;> simp_all
        have h3 : (⟨es'⟩ : Array MapEntry).all (fun e => decide (e.born ≥ last)) = es.all fun e => Nat.ble last e.2.2 := by
          rw [← ML.all (fun b => Nat.ble last b) hml]
          simp only [List.all_toArray]
          congr 1
          funext e
          by_cases h : last ≤ e.born
          · simp [h, Nat.ble_eq_true_of_le h]
          · have : Nat.ble last e.born = false := by
              cases hb : Nat.ble last e.born
              · rfl
              · exact absurd (Nat.le_of_ble_eq_true hb) h
            simp [h, this]
        rw [h1, h2, h3]; exact hcond
      -- what is left
      have hfil : (⟨es'⟩ : Array MapEntry).filter (fun e => !(⟨seen⟩ : Array Nat).contains e.born) = ⟨es'.filter fun e => !seen.any (Nat.beq e.born)⟩ := by
        apply Array.ext'
        simp only [Array.toList_filter]
        congr 1
        funext e
        congr 1
        simp only [List.contains_toArray]
        rw [← List.any_beq]
        congr 1
        funext x
        exact (beq_nat _ _).symm
      have hmf := ML.filter (fun b => !seen.any (Nat.beq b)) hml
      split at he
      · rename_i hnil
        rw [hnil] at hmf
        have hnil' : (es'.filter fun e => !seen.any (Nat.beq e.born)) = [] := List.length_eq_zero_iff.1 hmf.1
        refine ⟨_, _, w, .tuple #[.bool false], he, ?_, .tuple' (.single (.bool false)), .refl hr⟩
        simp only [Instr.next, Sem.run_bind, hgo, Result.andThen_ok, hgm', hc, Bool.false_eq_true, if_false, hfil, hnil']
        simp [Question.forced]
      · rename_i key v b hone
        rw [hone] at hmf
        split at he
        · rename_i hcc
          simp only [Bool.and_eq_true] at hcc
          have hlt : b < since := Nat.le_of_ble_eq_true hcc.1
          obtain ⟨v', e1, e2⟩ := hmf.2 0 key v b rfl
          have hone' : (es'.filter fun e => !seen.any (Nat.beq e.born)) = [⟨key, v', b⟩] := by
            have hl := hmf.1
            generalize (es'.filter fun e => !seen.any (Nat.beq e.born)) = q at hl e1
            match q, hl, e1 with
            | [a], _, e1 => simp at e1; rw [e1]
          rw [T.setK_set] at he
          refine ⟨_, _, { w with heap := w.heap.setIfInBounds L.n (.mapIter (some Lm.n) since ((⟨seen⟩ : Array Nat).push b) clock) }, .tuple #[.bool true, key, v'], he, ?_,
            .tuple' (.cons (.bool true) (.cons (vr_ground 4 key hcc.2) (.single e2))), ?_⟩
          · simp only [Instr.next, Sem.run_bind, hgo, Result.andThen_ok, hgm', hc, Bool.false_eq_true, if_false, hfil, hone']
            have hge : ¬ (since ≤ b) := by omega
            simp [Question.forced, hlt, hge]
            rw [run_setIter ho]
            rfl
          · refine hr.change hb ⟨_, hg, by simp⟩ rfl ⟨hsh, Lm, hm, ?_⟩ ⟨rfl, rfl, rfl⟩
            simp
        · cases he
      · cases he
  · cases he

end
end Go.Proofs.YtedbjceeakmjgaaGreatDoor.Ev
