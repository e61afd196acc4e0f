/- The evaluator of closed runs: EvS6 -/
import Derived.Test.YtedbjceeakmjgaaGreatDoorEvS5
namespace Go.Proofs.YtedbjceeakmjgaaGreatDoor.Ev
set_option linter.unusedSimpArgs false

section
variable {P : Program}

theorem sameBits1_eq {x y : Value} (h : sameBits1 x y = true) (n : Nat) : Instr.sameBits n x y = true := by
  unfold sameBits1 at h
  split at h
  · cases n <;> simpa [Instr.sameBits] using h
  · simp only [Bool.and_eq_true] at h
    have h1 := of_decide_eq_true h.1
    have h2 := of_decide_eq_true h.2
    subst h1; subst h2
    cases n <;> simp [Instr.sameBits]
  · rw [bytesEq_eq] at h
    rename_i a b
    have : Instr.sameBits n (.string ⟨⟨a⟩⟩) (.string ⟨⟨b⟩⟩) = (ByteArray.mk ⟨a⟩ == ByteArray.mk ⟨b⟩) := by cases n <;> rfl
    rw [this, byteArr_beq]; exact h
  · cases h

theorem sameBitsL_eq (n : Nat) : ∀ {a b : List Value}, sameBitsL a b = true → a.length = b.length ∧ ((a.zip b).all fun (x, y) => Instr.sameBits n x y) = true
  | [], [], _ => ⟨rfl, rfl⟩
  | [], _ :: _, h => by simp [sameBitsL] at h
  | _ :: _, [], h => by simp [sameBitsL] at h
  | x :: a, y :: b, h => by
    simp only [sameBitsL, Bool.and_eq_true] at h
    obtain ⟨h1, h2⟩ := sameBitsL_eq n h.2
    exact ⟨by simp [h1], by simp only [List.zip_cons_cons, List.all_cons, sameBits1_eq h.1 n, h2, Bool.and_self]⟩

theorem sameBitsA_eq {x y : Value} (h : sameBitsA x y = true) : Instr.sameBits 10000 x y = true := by
  unfold sameBitsA at h
  split at h
  · rename_i a b
    obtain ⟨h1, h2⟩ := sameBitsL_eq 9999 h
    show Instr.sameBits (9999 + 1) _ _ = true
    simp only [Instr.sameBits, List.size_toArray, h1, beq_self_eq_true, Bool.true_and, h2]
  · exact sameBits1_eq h 10000

theorem listSet_eq {α : Type} : ∀ (l : List α) (n : Nat) (b : α), listSet l n b = l.set n b
  | [], n, b => by simp [listSet]
  | a :: l, 0, b => by simp [listSet]
  | a :: l, n + 1, b => by simp [listSet, listSet_eq l n b]

theorem keyP_eq {t k e : TypeId} (h : keyP P t = some (k, e)) : P.underlying t = some (.map k e) := by
  unfold keyP at h
  split at h
  · cases h; assumption
  · cases h

theorem getM_eq {h : Mem} {r : Nat} {es : List (Value × Value × Nat)} {clock : Nat} (hg : getM h r = some (es, clock)) : h.get r = some (.map es clock) := by
  unfold getM at hg
  split at hg
  · cases hg; assumption
  · cases hg

theorem keyOf_eq {es : List (Value × Value × Nat)} {i : Nat} {k v : Value} {n : Nat} (h : es[i]? = some (k, v, n)) : keyOf es i = k := by
  unfold keyOf
  rw [listGet_eq, h]

/-- what is laid in a map's block. -/
theorem R.mapChange {f : Ren} {h : Mem} {n : Nat} {w : World} (hr : R P f h n w) {b : Nat} {L : Loc} (hb : f b = some L) {es₀ : List (Value × Value × Nat)} {clock₀ : Nat} (hg : h.get b = some (.map es₀ clock₀))
    {es : List (Value × Value × Nat)} {es' : List MapEntry} {clock : Nat} (hm : ML f es es') :
    Step P f h n w f (h.set b (.map es clock)) n { w with heap := w.heap.setIfInBounds L.n (.map ⟨es'⟩ clock) } := by
  refine hr.change hb ⟨_, hg, by simp⟩ rfl ⟨⟨es'⟩, rfl, by simpa using hm.1, fun i k v m hi => ?_⟩ ⟨rfl, rfl, rfl⟩
  obtain ⟨v', h1, h2⟩ := hm.2 i k v m hi
  exact ⟨v', by simpa using h1, h2⟩

theorem run_setMap {w : World} {r : Nat} {es es' : Array MapEntry} {c c' : Nat} (h : w.heap[r]? = some (.map es c)) :
    (Go.setObj r (.map es' c')).run P w = .ok () { w with heap := w.heap.setIfInBounds r (.map es' c') } := by
  simp [Go.setObj, Sem.run, h]

theorem updateA_ok {β : Type} {f : Ren} {h : Mem} {n : Nat} {w : World} (hr : R P f h n w) {t : TypeId} {m m' key key' x x' : Value} (hm : VR f m m') (hk : VR f key key') (hx : VR f x x')
    {k : Mem → Option β} {r : β} (he : updateA P h t m key x k = some r) :
    ∃ h' w', k h' = some r ∧ (Instr.mapUpdate t m' key' x').run P w = .ok () w' ∧ Step P f h n w f h' n w' := by
  unfold updateA at he
  split at he
  · rename_i b
    cases hm with
    | @map _ L hb =>
    split at he
    · rename_i kt el es clock hkp hgm
      have hu := keyP_eq hkp
      have hg := getM_eq hgm
      obtain ⟨es', hh, hml⟩ := hr.mapAt hb hg
      split at he
      · rename_i i v j hf
        obtain ⟨rfl, c1, v', c2, c3, k', c4⟩ := find_key hk hml hf w
        split at he
        · rename_i hsb
          rw [T.setK_set] at he
          rw [keyOf_eq c4] at hsb
          obtain ⟨v'', d1, d2⟩ := hml.2 i k' v j c4
          have hi : i < es'.length := (List.getElem?_eq_some_iff.1 d1).1
          have hML : ML f (listSet es i (key', x, j)) (es'.set i ⟨key', x', j⟩) := by
            refine ⟨by simp [listSet_eq, hml.1], fun q kq vq nq hq => ?_⟩
            rw [listSet_eq, List.getElem?_set] at hq
            rw [List.getElem?_set]
            by_cases hqi : i = q
            · subst hqi
              have hi2 : i < es.length := by rw [← hml.1]; exact hi
              rw [if_pos rfl, if_pos hi2] at hq
              cases hq
              exact ⟨x', by rw [if_pos rfl, if_pos hi], hx⟩
            · rw [if_neg hqi] at hq
              rw [if_neg hqi]
              exact hml.2 q kq vq nq hq
          refine ⟨_, _, he, ?_, hr.mapChange hb hg hML⟩
          have hmod : (⟨es'⟩ : Array MapEntry).modify i (fun e => { e with key := key', val := x' }) = ⟨es'.set i ⟨key', x', j⟩⟩ := by
            apply Array.ext_getElem?
            intro q
            rw [Array.getElem?_modify]
            simp only [List.getElem?_toArray, List.getElem?_set]
            by_cases hqi : i = q
            · subst hqi
              rw [if_pos rfl, if_pos rfl, if_pos hi, d1]; rfl
            · rw [if_neg hqi, if_neg hqi]
          have hst : (Instr.keyThatStays k' key').run P w = .ok key' w := by
            unfold Instr.keyThatStays
            rw [if_pos (sameBitsA_eq hsb)]; rfl
          have hgo : (Go.getObj L.n).run P w = .ok (.map ⟨es'⟩ clock) w := by simp [Go.getObj, Sem.run, hh]
          have hold : (((⟨es'⟩ : Array MapEntry)[i]?).map (·.key)).getD key' = k' := by
            have : (⟨es'⟩ : Array MapEntry)[i]? = some ⟨k', v'', j⟩ := by simpa using d1
            rw [this]; rfl
          simp only [Instr.mapUpdate, Sem.run_bind, run_underlying hu, Result.andThen_ok, hgo, c1, c2, hold, hst, hmod, run_setMap hh]
        · cases he
      · rename_i hf
        obtain ⟨rfl, c1, c2⟩ := find_key hk hml hf w
        rw [T.setK_set] at he
        have hML : ML f (es ++ [(key', x, clock)]) (es' ++ [⟨key', x', clock⟩]) := by
          refine ⟨by simp [hml.1], fun q kq vq nq hq => ?_⟩
          rw [List.getElem?_append] at hq ⊢
          rw [hml.1]
          split at hq
          · rename_i hlt; rw [if_pos hlt]; exact hml.2 q kq vq nq hq
          · rename_i hlt
            rw [if_neg hlt]
            cases hqq : q - es.length with
            | zero => rw [hqq] at hq; simp at hq; obtain ⟨rfl, rfl, rfl⟩ := hq; exact ⟨x', by simp, hx⟩
            | succ u => rw [hqq] at hq; simp at hq
        refine ⟨_, _, he, ?_, hr.mapChange hb hg hML⟩
        have hgo : (Go.getObj L.n).run P w = .ok (.map ⟨es'⟩ clock) w := by simp [Go.getObj, Sem.run, hh]
        have hpush : (⟨es'⟩ : Array MapEntry).push ⟨key', x', clock⟩ = ⟨es' ++ [⟨key', x', clock⟩]⟩ := by apply Array.ext'; simp
        simp only [Instr.mapUpdate, Sem.run_bind, run_underlying hu, Result.andThen_ok, hgo, c1, c2, hpush, run_setMap hh]
      · cases he
    · cases he
  · cases he

theorem rep_nil {α : Type} : ∀ n, rep ([] : List α) n = []
  | 0 => rfl
  | n + 1 => by simp [rep, rep_nil n]

theorem zeroCells_eq (z : List Value) (n : Nat) : (Builtin.zeroCells ⟨z⟩ n).toList = rep z n := by
  unfold Builtin.zeroCells
  by_cases h : z.length = 0
  · have : z = [] := List.length_eq_zero_iff.1 h
    subst this
    simp [rep_nil]
  · have := zeros_eq z n z.length rfl (by omega)
    simp only [List.size_toArray] at this ⊢
    rw [this]

theorem clearA_ok {β : Type} {f : Ren} {h : Mem} {n : Nat} {w : World} (hr : R P f h n w) {t : TypeId} {x x' : Value} (hx : VR f x x') {k : Mem → Option β} {r : β}
    (he : clearA P h t x k = some r) : ∃ h' w', k h' = some r ∧ (∀ ty, (Builtin.clear_ #[t] ty #[x']).run P w = .ok (.tuple #[]) w') ∧ Step P f h n w f h' n w' := by
  unfold clearA at he
  split at he
  · rename_i kt el hu
    split at he
    · cases hx
      exact ⟨h, w, he, fun ty => by simp [Builtin.clear_, run_underlying hu], .refl hr⟩
    · rename_i b
      split at he
      · rename_i es clock hg
        rw [T.setK_set] at he
        cases hx with
        | @map _ L hb =>
        obtain ⟨es', hh, hml⟩ := hr.mapAt hb hg
        refine ⟨_, _, he, fun ty => ?_, hr.mapChange hb hg (es := []) (es' := []) ⟨rfl, by simp⟩⟩
        have hgo : (Go.getObj L.n).run P w = .ok (.map ⟨es'⟩ clock) w := by simp [Go.getObj, Sem.run, hh]
        simp [Builtin.clear_, run_underlying hu, hgo, run_setMap hh]
      · cases he
    · cases he
  · rename_i e hu
    split at he
    · rename_i l c
      cases hx
      exact ⟨h, w, he, fun ty => by simp [Builtin.clear_, run_underlying hu], .refl hr⟩
    · rename_i b o s m
      split at he
      · refine ⟨h, w, he, fun ty => ?_, .refl hr⟩
        cases hx with
        | slice hb hl h1 h0 => simp [Builtin.clear_, run_underlying hu]
        | sliceE hb h0 => simp [Builtin.clear_, run_underlying hu]
      · rename_i m
        split at he
        · rename_i z hz
          split at he
          · rename_i hg
            cases hx with
            | @slice _ _ _ _ cap' L hb hl h1 h0 =>
            have hzz : VL f (cellsA z) (cellsA z) := (vr_ground 3 z hg).cells
            obtain ⟨h', w', c1, c2, c3, _⟩ := storeA_ok hr hb (rep_VL hzz (m + 1)) he
            refine ⟨h', w', c1, fun ty => ?_, c3⟩
            have hzc : (Builtin.zeroCells z.cells (m + 1)).toList = rep (cellsA z) (m + 1) := by
              rw [cellsA_eq]; exact zeroCells_eq (cellsA z) (m + 1)
            simp [Builtin.clear_, run_underlying hu, run_zv hz, hzc, c2]
          · cases he
        · cases he
    · cases he
  · cases he

end
end Go.Proofs.YtedbjceeakmjgaaGreatDoor.Ev
