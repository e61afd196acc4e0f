/- The evaluator of closed runs: EvW -/
import Derived.Test.YtedbjceeakmjgaaGreatDoorEvR
namespace Go.Proofs.YtedbjceeakmjgaaGreatDoor.Ev
set_option linter.unusedSimpArgs false

def alive (h : Mem) (b : Nat) : Prop := ∃ o, h.get b = some o ∧ o ≠ .dead

/-- what an abstract block is like, and what it stands for. -/
def OR (P : Program) (f : Ren) (L : Loc) : AObj → Option Obj → Prop
  | .dead, _ => True
  | .cells c sz e, o => ∃ c' fr, o = some (.cells c' e fr) ∧ c'.size = L.C ∧ sz + L.sh ≤ L.C ∧ (∀ j, j < L.C → ¬ (fr.1 ≤ j ∧ j < fr.2)) ∧
      (∀ z, sizeP P e = some z → z = L.sz) ∧ ∀ i v, i < sz → c.get i = some v → ∃ v', c'[i + L.sh]? = some v' ∧ VR f v v'
  | .map es clock, o => ∃ es', o = some (.map es' clock) ∧ es'.size = es.length ∧
      ∀ (i : Nat) k v n, es[i]? = some (k, v, n) → ∃ v', es'[i]? = some ⟨k, v', n⟩ ∧ VR f v v'
  | .iter m since seen stepped, o => match m with
      | none => L.sh = 0 ∧ o = some (.mapIter none since ⟨seen⟩ stepped)
      | some m => L.sh = 0 ∧ ∃ Lm, f m = some Lm ∧ o = some (.mapIter (some Lm.n) since ⟨seen⟩ stepped)
  | .siter s pos, o => L.sh = 0 ∧ o = some (.stringIter ⟨⟨s⟩⟩ pos)

/-- The abstract memory stands for the world's, by f; names from n on are free. -/
structure R (P : Program) (f : Ren) (h : Mem) (n : Nat) (w : World) : Prop where
  lt : ∀ b L, f b = some L → L.n < w.heap.size
  fresh : ∀ b, n ≤ b → f b = none
  inj : ∀ b b' L L', f b = some L → f b' = some L' → L.n = L'.n → alive h b → alive h b' → b = b'
  obj : ∀ b L o, f b = some L → h.get b = some o → OR P f L o w.heap[L.n]?

/-- one step of both: what f doesn't know stays. -/
structure Step (P : Program) (f : Ren) (h : Mem) (n : Nat) (w : World) (g : Ren) (h' : Mem) (n' : Nat) (w' : World) : Prop where
  r : R P g h' n' w'
  le : RLe f g
  old : ∀ b, b < n → f b = none → g b = none ∧ h'.get b = h.get b
  img : ∀ b L, g b = some L → f b = some L ∨ w.heap.size ≤ L.n ∨ ∃ b₀ L₀, f b₀ = some L₀ ∧ L₀.n = L.n
  frame : ∀ m, m < w.heap.size → (∀ b L, f b = some L → L.n ≠ m) → w'.heap[m]? = w.heap[m]?
  size : w.heap.size ≤ w'.heap.size
  same : w'.tape = w.tape ∧ w'.os = w.os ∧ w'.output = w.output
  cnt : n ≤ n'

theorem RLe.refl (f : Ren) : RLe f f := fun _ _ h => h
theorem RLe.trans {f g k : Ren} (h : RLe f g) (h' : RLe g k) : RLe f k := fun b L hb => h' b L (h b L hb)

theorem Step.refl {P : Program} {f : Ren} {h : Mem} {n : Nat} {w : World} (hr : R P f h n w) : Step P f h n w f h n w :=
  ⟨hr, .refl f, fun _ _ hb => ⟨hb, rfl⟩, fun _ _ hb => .inl hb, fun _ _ _ => rfl, Nat.le_refl _, ⟨rfl, rfl, rfl⟩, Nat.le_refl _⟩

theorem Step.trans {P : Program} {f g k : Ren} {h h' h'' : Mem} {n n' n'' : Nat} {w w' w'' : World} (a : Step P f h n w g h' n' w') (b : Step P g h' n' w' k h'' n'' w'') :
    Step P f h n w k h'' n'' w'' where
  r := b.r
  le := a.le.trans b.le
  old := fun x hx hf => by
    obtain ⟨h1, h2⟩ := a.old x hx hf
    obtain ⟨h3, h4⟩ := b.old x (Nat.lt_of_lt_of_le hx a.cnt) h1
    exact ⟨h3, h4.trans h2⟩
  img := fun x L hk => by
    rcases b.img x L hk with h1 | h1 | ⟨b₀, L₀, h1, h2⟩
    · exact a.img x L h1
    · exact .inr (.inl (Nat.le_trans a.size h1))
    · rcases a.img b₀ L₀ h1 with h3 | h3 | ⟨b₁, L₁, h3, h4⟩
      · exact .inr (.inr ⟨b₀, L₀, h3, h2⟩)
      · exact .inr (.inl (h2 ▸ h3))
      · exact .inr (.inr ⟨b₁, L₁, h3, h4.trans h2⟩)
  frame := fun m hm hf => by
    rw [b.frame m (Nat.lt_of_lt_of_le hm a.size), a.frame m hm hf]
    intro x L hg
    rcases a.img x L hg with h1 | h1 | ⟨b₀, L₀, h1, h2⟩
    · exact hf x L h1
    · omega
    · exact h2 ▸ hf b₀ L₀ h1
  size := Nat.le_trans a.size b.size
  same := ⟨b.same.1.trans a.same.1, b.same.2.1.trans a.same.2.1, b.same.2.2.trans a.same.2.2⟩
  cnt := Nat.le_trans a.cnt b.cnt

/-- the same memory, another count of what was drawn. -/
theorem R.drew {P : Program} {f : Ren} {h : Mem} {n : Nat} {w w' : World} (hr : R P f h n w) (hh : w'.heap = w.heap) : R P f h n w' :=
  ⟨fun b L hb => hh ▸ hr.lt b L hb, hr.fresh, hr.inj, fun b L o hb ho => hh ▸ hr.obj b L o hb ho⟩

theorem OR.mono {P : Program} {f g : Ren} (hfg : RLe f g) {L : Loc} {o : AObj} {x : Option Obj} (h : OR P f L o x) : OR P g L o x := by
  cases o with
  | dead => trivial
  | cells c sz e =>
    obtain ⟨c', fr, h1, h2, h3, h4, h5, h6⟩ := h
    refine ⟨c', fr, h1, h2, h3, h4, h5, fun i v hi hv => ?_⟩
    obtain ⟨v', h7, h8⟩ := h6 i v hi hv
    exact ⟨v', h7, h8.mono hfg⟩
  | map es clock =>
    obtain ⟨es', h1, h2, h3⟩ := h
    refine ⟨es', h1, h2, fun i k v n hi => ?_⟩
    obtain ⟨v', h4, h5⟩ := h3 i k v n hi
    exact ⟨v', h4, h5.mono hfg⟩
  | iter m since seen stepped =>
    cases m with
    | none => exact h
    | some m =>
      obtain ⟨h0, Lm, h1, h2⟩ := h
      exact ⟨h0, Lm, hfg _ _ h1, h2⟩
  | siter s pos => exact h

/-- one name more. -/
def Ren.put (f : Ren) (b : Nat) (L : Loc) : Ren := fun x => if x = b then some L else f x

theorem Ren.put_le {f : Ren} {b : Nat} {L : Loc} (hb : f b = none) : RLe f (f.put b L) := by
  intro x M hx
  unfold Ren.put
  split
  · rename_i h; subst h; rw [hb] at hx; cases hx
  · exact hx

/-- a new block. -/
theorem R.push {P : Program} {f : Ren} {h : Mem} {n : Nat} {w w' : World} (hr : R P f h n w) {L : Loc} {o : AObj} {x : Obj} (hL : L.n = w.heap.size)
    (hh : w'.heap = w.heap.push x) (ho : OR P (f.put n L) L o (some x)) (hs : w'.tape = w.tape ∧ w'.os = w.os ∧ w'.output = w.output) :
    Step P f h n w (f.put n L) (h.set n o) (n + 1) w' := by
  have hn : f n = none := hr.fresh n (Nat.le_refl _)
  have hle : RLe f (f.put n L) := Ren.put_le hn
  have hget : ∀ b M, f b = some M → w'.heap[M.n]? = w.heap[M.n]? := by
    intro b M hb
    have := hr.lt b M hb
    rw [hh, Array.getElem?_push]
    split
    · omega
    · rfl
  refine ⟨⟨?_, ?_, ?_, ?_⟩, hle, ?_, ?_, ?_, ?_, hs, Nat.le_succ _⟩
  · intro b M hb
    simp only [Ren.put] at hb
    rw [hh, Array.size_push]
    split at hb
    · cases hb; omega
    · have := hr.lt b M hb; omega
  · intro b hb
    simp only [Ren.put]
    split
    · omega
    · exact hr.fresh b (by omega)
  · intro b b' M M' hb hb' he ha ha'
    simp only [Ren.put] at hb hb'
    split at hb <;> split at hb'
    · omega
    · cases hb; have := hr.lt b' M' hb'; omega
    · cases hb'; have := hr.lt b M hb; omega
    · rename_i h1 h2
      refine hr.inj b b' M M' hb hb' he ?_ ?_
      · obtain ⟨y, hy, hd⟩ := ha
        rw [T.get_set, if_neg h1] at hy
        exact ⟨y, hy, hd⟩
      · obtain ⟨y, hy, hd⟩ := ha'
        rw [T.get_set, if_neg h2] at hy
        exact ⟨y, hy, hd⟩
  · intro b M y hb hy
    rw [T.get_set] at hy
    simp only [Ren.put] at hb
    split at hb
    · rename_i h1
      cases hb
      rw [if_pos h1] at hy
      cases hy
      rw [hL, hh]
      simpa using ho
    · rename_i h1
      rw [if_neg h1] at hy
      rw [hget b M hb]
      exact (hr.obj b M y hb hy).mono hle
  · intro b hb hf
    have h1 : b ≠ n := by omega
    exact ⟨by simp [Ren.put, h1, hf], by rw [T.get_set, if_neg h1]⟩
  · intro b M hb
    simp only [Ren.put] at hb
    split at hb
    · cases hb; exact .inr (.inl (by omega))
    · exact .inl hb
  · intro m hm _
    rw [hh, Array.getElem?_push]
    split
    · omega
    · rfl
  · rw [hh, Array.size_push]; omega

/-- a block changed. -/
theorem R.change {P : Program} {f : Ren} {h : Mem} {n : Nat} {w w' : World} (hr : R P f h n w) {b : Nat} {L : Loc} {o : AObj} {x : Obj} (hb : f b = some L)
    (ha : alive h b) (hh : w'.heap = w.heap.setIfInBounds L.n x) (ho : OR P f L o (some x)) (hs : w'.tape = w.tape ∧ w'.os = w.os ∧ w'.output = w.output) :
    Step P f h n w f (h.set b o) n w' := by
  have hl := hr.lt b L hb
  refine ⟨⟨?_, hr.fresh, ?_, ?_⟩, .refl f, ?_, fun _ _ h => .inl h, ?_, ?_, hs, Nat.le_refl _⟩
  · intro c M hc
    rw [hh, Array.size_setIfInBounds]; exact hr.lt c M hc
  · intro c c' M M' hc hc' he h1 h2
    have key : ∀ c, alive (h.set b o) c → alive h c := by
      intro c ⟨y, hy, hd⟩
      rw [T.get_set] at hy
      split at hy
      · rename_i h3; subst h3; exact ha
      · exact ⟨y, hy, hd⟩
    exact hr.inj c c' M M' hc hc' he (key c h1) (key c' h2)
  · intro c M y hc hy
    rw [T.get_set] at hy
    split at hy
    · rename_i h1
      subst h1
      rw [hb] at hc; cases hc; cases hy
      rw [hh, Array.getElem?_setIfInBounds_self_of_lt hl]
      exact ho
    · rename_i h1
      by_cases hd : y = .dead
      · subst hd; trivial
      · have hne : L.n ≠ M.n := fun he => h1 (hr.inj c b M L hc hb he.symm ⟨y, hy, hd⟩ ha)
        rw [hh, Array.getElem?_setIfInBounds_ne hne]
        exact hr.obj c M y hc hy
  · intro c _ hf
    refine ⟨hf, ?_⟩
    rw [T.get_set, if_neg (fun e => by subst e; rw [hb] at hf; cases hf)]
  · intro m hm hf
    rw [hh, Array.getElem?_setIfInBounds_ne (hf b L hb)]
  · rw [hh, Array.size_setIfInBounds]; exact Nat.le_refl _

/-- a block that nobody may look at any more. -/
theorem R.kill {P : Program} {f : Ren} {h : Mem} {n : Nat} {w : World} (hr : R P f h n w) {b : Nat} {L : Loc} (hb : f b = some L) :
    Step P f h n w f (h.set b .dead) n w := by
  refine ⟨⟨hr.lt, hr.fresh, ?_, ?_⟩, .refl f, ?_, fun _ _ h => .inl h, fun _ _ _ => rfl, Nat.le_refl _, ⟨rfl, rfl, rfl⟩, Nat.le_refl _⟩
  · intro c c' M M' hc hc' he h1 h2
    have key : ∀ c, alive (h.set b .dead) c → alive h c := by
      intro c ⟨y, hy, hd⟩
      rw [T.get_set] at hy
      split at hy
      · cases hy; exact absurd rfl hd
      · exact ⟨y, hy, hd⟩
    exact hr.inj c c' M M' hc hc' he (key c h1) (key c' h2)
  · intro c M y hc hy
    rw [T.get_set] at hy
    split at hy
    · cases hy; trivial
    · exact hr.obj c M y hc hy
  · intro c _ hf
    refine ⟨hf, ?_⟩
    rw [T.get_set, if_neg (fun e => by subst e; rw [hb] at hf; cases hf)]

end Go.Proofs.YtedbjceeakmjgaaGreatDoor.Ev
