/- The evaluator of closed runs: EvS1 -/
import Derived.Test.YtedbjceeakmjgaaGreatDoorEvF8
namespace Go.Proofs.YtedbjceeakmjgaaGreatDoor.Ev
set_option linter.unusedSimpArgs false

section
variable {P : Program}

theorem oneA_eq (v : Value) : v.oneCell' = oneA v := by cases v <;> rfl

theorem put_nil (l : List Value) (o : Nat) : layL.put l o [] = l := by cases l <;> simp [layL.put]

/-- cells laid over a row of cells. -/
theorem run_stores (g o : Nat) (e : TypeId) (fr : Nat × Nat) : ∀ (vs : List Value) (i : Nat) (c : List Value) (w : World), w.heap[g]? = some (.cells ⟨c⟩ e fr) →
    (∀ j, j < c.length → ¬ (fr.1 ≤ j ∧ j < fr.2)) → o + i + vs.length ≤ c.length → (∀ v ∈ vs, v.oneCell' = true) →
    (storeCells ⟨g, o, none⟩ vs i).run P w = .ok () { w with heap := w.heap.setIfInBounds g (.cells ⟨layL.put c (o + i) vs⟩ e fr) }
  | [], i, c, w, hg, hf, hl, h1 => by
    simp only [storeCells, Sem.run_pure, put_nil]
    have : w.heap.setIfInBounds g (.cells ⟨c⟩ e fr) = w.heap := by
      apply Array.ext_getElem?
      intro j
      by_cases hj : g = j
      · subst hj
        have hlt := (Array.getElem?_eq_some_iff.1 hg).1
        rw [Array.getElem?_setIfInBounds_self_of_lt hlt, hg]
      · rw [Array.getElem?_setIfInBounds_ne hj]
    rw [this]
  | v :: vs, i, c, w, hg, hf, hl, h1 => by
    simp only [List.length_cons] at hl
    have hi : o + i < c.length := by omega
    have hc : w.cell? ⟨g, o + i, none⟩ = some c[o + i] := cell_of hg (by simp [List.getElem?_eq_getElem hi])
    have hfr : w.frozen? ⟨g, o + i, none⟩ = false := by
      have := hf (o + i) hi
      simp only [World.frozen?, hg]
      simp only [Bool.and_eq_false_iff, decide_eq_false_iff_not]
      by_cases h : fr.1 ≤ o + i
      · exact .inr fun h2 => this ⟨h, h2⟩
      · exact .inl h
    have hset : w.setCell ⟨g, o + i, none⟩ v = { w with heap := w.heap.setIfInBounds g (.cells ⟨c.set (o + i) v⟩ e fr) } := by
      unfold World.setCell
      congr 1
      apply Array.ext_getElem?
      intro j
      have hlt := (Array.getElem?_eq_some_iff.1 hg).1
      rw [Array.getElem?_modify]
      by_cases hj : g = j
      · subst hj
        rw [Array.getElem?_setIfInBounds_self_of_lt hlt, if_pos rfl, hg]
        simp
      · rw [Array.getElem?_setIfInBounds_ne hj, if_neg hj]
    have hst : (store ⟨g, o + i, none⟩ v).run P w = .ok () { w with heap := w.heap.setIfInBounds g (.cells ⟨c.set (o + i) v⟩ e fr) } := by
      rw [run_store P w _ v .plain (h1 v (by simp)), hc]
      simp only [hfr, Bool.false_eq_true, if_false, hset]
    have hlt := (Array.getElem?_eq_some_iff.1 hg).1
    have ih := run_stores g o e fr vs (i + 1) (c.set (o + i) v) { w with heap := w.heap.setIfInBounds g (.cells ⟨c.set (o + i) v⟩ e fr) }
      (Array.getElem?_setIfInBounds_self_of_lt hlt) (by simpa using hf) (by simp; omega) (fun u hu => h1 u (by simp [hu]))
    simp only [storeCells, Sem.run_bind, addr_add, hst, Result.andThen_ok, ih]
    congr 2
    apply Array.ext_getElem?
    intro j
    by_cases hj : g = j
    · subst hj
      rw [Array.getElem?_setIfInBounds_self_of_lt (by simpa using hlt), Array.getElem?_setIfInBounds_self_of_lt hlt]
      congr 3
      apply List.ext_getElem?
      intro k
      rw [put_at, put_at]
      simp only [List.length_set, List.length_cons, List.getElem?_set]
      by_cases hk : o + i = k
      · subst hk
        rw [if_neg (by omega), if_pos (by omega)]
        simp [hi]
      · by_cases h2 : o + (i + 1) ≤ k ∧ k < o + (i + 1) + vs.length ∧ k < c.length
        · rw [if_pos h2, if_pos (by omega), show k - (o + i) = k - (o + (i + 1)) + 1 by omega]; simp
        · rw [if_neg h2, if_neg hk, if_neg (by omega)]
    · rw [Array.getElem?_setIfInBounds_ne hj, Array.getElem?_setIfInBounds_ne hj, Array.getElem?_setIfInBounds_ne hj]

theorem wrCells_cons {β : Type} (sz : Nat) (c : T Value) (o : Nat) (v : Value) (l : List Value) (k : T Value → Option β) :
    wrCells sz c o (v :: l) k = wrStep sz c o v fun c o => wrCells sz c o l k := rfl

theorem wr_eq {β : Type} {sz : Nat} {k : T Value → Option β} {r : β} : ∀ {l : List Value} {c : T Value} {o : Nat}, wrCells sz c o l k = some r →
    ∃ c', k c' = some r ∧ (l ≠ [] → o + l.length ≤ sz) ∧ (∀ v ∈ l, oneA v = true) ∧ ∀ i, c'.get i = if o ≤ i ∧ i < o + l.length then l[i - o]? else c.get i
  | [], c, o, h => ⟨c, h, fun h => absurd rfl h, by simp, fun i => by rw [if_neg (by simp)]⟩
  | v :: l, c, o, h => by
    rw [wrCells_cons] at h
    unfold wrStep at h
    split at h
    · rename_i hc
      simp only [Bool.and_eq_true] at hc
      have hlt : o < sz := Nat.le_of_ble_eq_true hc.1
      rw [T.setK_set] at h
      obtain ⟨c', h1, h2, h3, h4⟩ := wr_eq h
      refine ⟨c', h1, fun _ => ?_, fun u hu => ?_, fun i => ?_⟩
      · by_cases hl : l = []
        · subst hl; simp; omega
        · have := h2 hl; simp only [List.length_cons]; omega
      · rcases List.mem_cons.1 hu with rfl | hu
        · exact hc.2
        · exact h3 u hu
      · rw [h4, T.get_set]
        simp only [List.length_cons]
        by_cases hi : i = o
        · subst hi
          rw [if_neg (by omega), if_pos rfl, if_pos (by omega)]; simp
        · by_cases h5 : o.succ ≤ i ∧ i < o.succ + l.length
          · rw [if_pos h5, if_pos (by omega), show i - o = i - o.succ + 1 by omega]; simp
          · rw [if_neg h5, if_neg hi, if_neg (by omega)]
    · cases h

theorem VL.one {f : Ren} {l l' : List Value} (h : VL f l l') (h1 : ∀ v ∈ l, oneA v = true) : ∀ v ∈ l', v.oneCell' = true := by
  induction h with
  | nil => simp
  | cons h t ih =>
    intro v hv
    rcases List.mem_cons.1 hv with rfl | hv
    · rw [oneA_eq, h.one]; exact h1 _ (by simp)
    · exact ih (fun u hu => h1 u (by simp [hu])) v hv

/-- A STORE. -/
theorem storeA_ok {β : Type} {f : Ren} {h : Mem} {n : Nat} {w : World} (hr : R P f h n w) {b o : Nat} {L : Loc} {vs vs' : List Value} {k : Mem → Option β} {r : β} (hb : f b = some L)
    (hv : VL f vs vs') (he : storeA h b o vs k = some r) :
    ∃ h' w', k h' = some r ∧ (storeCells ⟨L.n, o + L.sh, none⟩ vs').run P w = .ok () w' ∧ Step P f h n w f h' n w' ∧ ∃ x, w'.heap = w.heap.setIfInBounds L.n x := by
  unfold storeA at he
  split at he
  · rename_i c sz e hg
    obtain ⟨c', h1, h2, h3, h4⟩ := wr_eq he
    rw [T.setK_set] at h1
    obtain ⟨cc, fr, a1, a2, a3, a4, a5, a6⟩ := hr.cells hb hg
    obtain ⟨cc⟩ := cc
    simp only [List.size_toArray] at a2
    have hlen := hv.len
    by_cases hnil : vs = []
    · subst hnil
      have : vs' = [] := List.length_eq_zero_iff.1 hlen.symm
      subst this
      -- nothing is laid down
      have hgc : ∀ i, c'.get i = c.get i := fun i => by rw [h4, if_neg (by simp)]
      refine ⟨_, w, h1, rfl, ?_, .cells ⟨cc⟩ e fr, ?_⟩
      · refine hr.change hb ⟨_, getW_eq hg, by simp⟩ (x := .cells ⟨cc⟩ e fr) ?_ ⟨⟨cc⟩, fr, rfl, by simpa using a2, a3, a4, a5, fun i v hi hv' => a6 i v hi (by rw [← hgc]; exact hv')⟩ ⟨rfl, rfl, rfl⟩
        apply Array.ext_getElem?
        intro j
        have hlt := (Array.getElem?_eq_some_iff.1 a1).1
        by_cases hj : L.n = j
        · subst hj; rw [Array.getElem?_setIfInBounds_self_of_lt hlt, a1]
        · rw [Array.getElem?_setIfInBounds_ne hj]
      · apply Array.ext_getElem?
        intro j
        have hlt := (Array.getElem?_eq_some_iff.1 a1).1
        by_cases hj : L.n = j
        · subst hj; rw [Array.getElem?_setIfInBounds_self_of_lt hlt, a1]
        · rw [Array.getElem?_setIfInBounds_ne hj]
    · have hsz := h2 hnil
      have hrun := run_stores (P := P) L.n (o + L.sh) e fr vs' 0 cc w a1 (by rw [a2]; exact a4) (by omega) (hv.one h3)
      refine ⟨_, _, h1, hrun, ?_, _, rfl⟩
      refine hr.change hb ⟨_, getW_eq hg, by simp⟩ rfl ⟨_, fr, rfl, by simp [put_len, a2], a3, a4, a5, fun i v hi hv' => ?_⟩ ⟨rfl, rfl, rfl⟩
      rw [h4] at hv'
      simp only [List.getElem?_toArray, Nat.add_zero, put_at]
      split at hv'
      · rename_i hio
        rw [if_pos (by omega), show i + L.sh - (o + L.sh) = i - o by omega]
        exact hv.ex hv'
      · rename_i hio
        rw [if_neg (by omega)]
        obtain ⟨v', b1, b2⟩ := a6 i v hi hv'
        exact ⟨v', by simpa using b1, b2⟩
  · cases he

end
end Go.Proofs.YtedbjceeakmjgaaGreatDoor.Ev
