/- The evaluator of closed runs: EvS2 -/
import Derived.Test.YtedbjceeakmjgaaGreatDoorEvS1
import Derived.Laws.Append
namespace Go.Proofs.YtedbjceeakmjgaaGreatDoor.Ev
set_option linter.unusedSimpArgs false

section
variable {P : Program}

theorem mkCells_cons {β : Type} (c : T Value) (o : Nat) (v : Value) (l : List Value) (k : T Value → Nat → Option β) :
    mkCells c o (v :: l) k = T.setK (Nat.succ o) c o v fun c => natK (Nat.succ o) fun o => mkCells c o l k := rfl

theorem mk_eq {β : Type} {k : T Value → Nat → Option β} {r : β} : ∀ {l : List Value} {c : T Value} {o : Nat}, mkCells c o l k = some r →
    ∃ c', k c' (o + l.length) = some r ∧ ∀ i, c'.get i = if o ≤ i ∧ i < o + l.length then l[i - o]? else c.get i
  | [], c, o, h => ⟨c, h, fun i => by rw [if_neg (by simp)]⟩
  | v :: l, c, o, h => by
    rw [mkCells_cons, T.setK_set, natK_eq] at h
    obtain ⟨c', h1, h2⟩ := mk_eq h
    refine ⟨c', by rw [← h1]; congr 1; simp; omega, fun i => ?_⟩
    rw [h2, T.get_set]
    simp only [List.length_cons]
    by_cases hi : i = o
    · subst hi
      rw [if_neg (by omega), if_pos rfl, if_pos (by omega)]; simp
    · by_cases h5 : o.succ ≤ i ∧ i < o.succ + l.length
      · rw [if_pos h5, if_pos (by omega), show i - o = i - o.succ + 1 by omega]; simp
      · rw [if_neg h5, if_neg hi, if_neg (by omega)]

/-- a block of these cells, laid down anew: what it is like. -/
theorem newA_ok {β : Type} {h : Mem} {N : Nat} {l : List Value} {e : TypeId} {k : Mem → Option β} {r : β} (he : newA h N l e k = some r) :
    ∃ c, k (h.set N (.cells c l.length e)) = some r ∧ ∀ i, c.get i = l[i]? := by
  obtain ⟨c, h1, h2⟩ := mk_eq he
  rw [T.setK_set] at h1
  refine ⟨c, by simpa using h1, fun i => ?_⟩
  rw [h2]
  by_cases hi : i < l.length
  · rw [if_pos (by omega)]; simp
  · rw [if_neg (by omega), List.getElem?_eq_none (by omega)]; rfl

/-- a new block of cells, both ways. -/
theorem R.pushCells {f : Ren} {h : Mem} {n : Nat} {w w' : World} (hr : R P f h n w) {l : List Value} {l' : List Value} {e : TypeId} {fr : Nat × Nat} {c : T Value} {z : Nat} (hc : ∀ i, c.get i = l[i]?)
    (hh : w'.heap = w.heap.push (.cells ⟨l'⟩ e fr)) (hs : w'.tape = w.tape ∧ w'.os = w.os ∧ w'.output = w.output) (hz : ∀ y, sizeP P e = some y → y = z)
    (hfr : ∀ j, j < l'.length → ¬ (fr.1 ≤ j ∧ j < fr.2)) (hl : l.length ≤ l'.length) (hv : ∀ (i : Nat) v, l[i]? = some v → ∃ v', l'[i]? = some v' ∧ VR f v v') :
    Step P f h n w (f.put n ⟨w.heap.size, l'.length, z, 0⟩) (h.set n (.cells c l.length e)) (n + 1) w' := by
  refine hr.push rfl hh ⟨⟨l'⟩, fr, rfl, rfl, by simpa using hl, hfr, hz, fun i v hi hg => ?_⟩ hs
  rw [hc] at hg
  obtain ⟨v', h1, h2⟩ := hv i v hg
  exact ⟨v', by simpa using h1, h2.mono (Ren.put_le (hr.fresh n (Nat.le_refl _)))⟩

/-- a row that was grown where it lay goes by another name; the old one is dead. -/
theorem R.move {f : Ren} {h : Mem} {n : Nat} {w w' : World} (hr : R P f h n w) {b : Nat} {L L' : Loc} {o : AObj} {x : Obj} (hb : f b = some L) (ha : alive h b) (hL : L'.n = L.n)
    (hh : w'.heap = w.heap.setIfInBounds L.n x) (ho : OR P (f.put n L') L' o (some x)) (hs : w'.tape = w.tape ∧ w'.os = w.os ∧ w'.output = w.output) :
    Step P f h n w (f.put n L') ((h.set n o).set b .dead) (n + 1) w' := by
  have hn : f n = none := hr.fresh n (Nat.le_refl _)
  have hbn : b ≠ n := fun e => by subst e; rw [hb] at hn; cases hn
  have hle : RLe f (f.put n L') := Ren.put_le hn
  have hl := hr.lt b L hb
  have hgood : ∀ c, alive ((h.set n o).set b .dead) c → c = n ∨ (c ≠ b ∧ alive h c) := by
    intro c ⟨y, hy, hd⟩
    rw [T.get_set] at hy
    split at hy
    · cases hy; exact absurd rfl hd
    · rename_i h1
      rw [T.get_set] at hy
      split at hy
      · rename_i h2; exact .inl h2
      · exact .inr ⟨h1, y, hy, hd⟩
  refine ⟨⟨?_, ?_, ?_, ?_⟩, hle, ?_, ?_, ?_, ?_, hs, Nat.le_succ _⟩
  · intro c M hc
    simp only [Ren.put] at hc
    rw [hh, Array.size_setIfInBounds]
    split at hc
    · cases hc; omega
    · exact hr.lt c M hc
  · intro c hc
    simp only [Ren.put]
    rw [if_neg (by omega)]
    exact hr.fresh c (by omega)
  · have hput : ∀ c M, f.put n L' c = some M → (c = n ∧ M = L') ∨ (c ≠ n ∧ f c = some M) := by
      intro c M hc
      simp only [Ren.put] at hc
      split at hc
      · rename_i e; cases hc; exact .inl ⟨e, rfl⟩
      · rename_i e; exact .inr ⟨e, hc⟩
    intro c c' M M' hc hc' he h1 h2
    rcases hput c M hc with ⟨e1, rfl⟩ | ⟨e1, f1⟩ <;> rcases hput c' M' hc' with ⟨e2, rfl⟩ | ⟨e2, f2⟩
    · rw [e1, e2]
    · rcases hgood c' h2 with e3 | ⟨g3, g4⟩
      · exact absurd e3 e2
      · exact absurd (hr.inj c' b M' L f2 hb (by omega) g4 ha) g3
    · rcases hgood c h1 with e3 | ⟨g3, g4⟩
      · exact absurd e3 e1
      · exact absurd (hr.inj c b M L f1 hb (by omega) g4 ha) g3
    · rcases hgood c h1 with e3 | ⟨g1, g2⟩
      · exact absurd e3 e1
      · rcases hgood c' h2 with e4 | ⟨g3, g4⟩
        · exact absurd e4 e2
        · exact hr.inj c c' M M' f1 f2 he g2 g4
  · intro c M y hc hy
    rw [T.get_set] at hy
    split at hy
    · cases hy; trivial
    · rename_i h1
      rw [T.get_set] at hy
      split at hy
      · rename_i h2
        subst h2
        cases hy
        simp only [Ren.put, if_true] at hc
        cases hc
        rw [hh, hL, Array.getElem?_setIfInBounds_self_of_lt hl]
        exact ho
      · rename_i h2
        simp only [Ren.put, if_neg h2] at hc
        by_cases hd : y = .dead
        · subst hd; trivial
        · have hne : L.n ≠ M.n := fun he => h1 (hr.inj c b M L hc hb he.symm ⟨y, hy, hd⟩ ha)
          rw [hh, Array.getElem?_setIfInBounds_ne hne]
          exact (hr.obj c M y hc hy).mono hle
  · intro c hc hf
    have h1 : c ≠ n := by omega
    have h2 : c ≠ b := fun e => by subst e; rw [hb] at hf; cases hf
    exact ⟨by simp [Ren.put, h1, hf], by rw [T.get_set, if_neg h2, T.get_set, if_neg h1]⟩
  · intro c M hc
    simp only [Ren.put] at hc
    split at hc
    · cases hc; exact .inr (.inr ⟨b, L, hb, hL.symm⟩)
    · exact .inl hc
  · intro m hm hf
    rw [hh, Array.getElem?_setIfInBounds_ne (hf b L hb)]
  · rw [hh, Array.size_setIfInBounds]; exact Nat.le_refl _

end
end Go.Proofs.YtedbjceeakmjgaaGreatDoor.Ev
