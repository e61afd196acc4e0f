/- LexScans: the lists that came out so far. -/
import Derived.Test.YthnnmgiihpdblabMj
namespace Go.Proofs.Ythnnmgiihpdblab
open Go.RowKit

theorem scans_len {l : List UInt8} {i : Nat} {ts us : List Tok} {R : Res} (h : Scans l i ts R) (hR : R = .ok us) : us.length ≤ ts.length + (l.length - i) + 1 := by
  induction h with
  | done _ => cases hR; simp
  | err _ _ => cases hR
  | go h hs _ ih =>
    rename_i t j R _
    have h1 := step_lt h hs
    have h2 := ih hR
    have h3 : t.toList.length ≤ 1 := by cases t <;> simp
    rw [List.length_append] at h2
    omega

def toksOf : Res → List Tok
  | .ok ts => ts
  | .err _ _ => []

theorem toks_le (l : List UInt8) : (toksOf (scanP l)).length ≤ 20000 := by
  by_cases h : 16000 < l.length
  · unfold scanP; rw [if_pos h]; exact Nat.zero_le _
  · cases hR : scanP l with
    | err e p => exact Nat.zero_le _
    | ok ts =>
      have := scans_len (scanP_scans (by omega)) hR
      simp at this
      show ts.length ≤ 20000
      omega

def ELof (G : Nat → Option Nat) (N C : Nat → Nat) (i : Nat) : List Value := (List.range i).map fun t => sv (G t) (N t) (C t)
theorem ELof_get (G : Nat → Option Nat) (N C : Nat → Nat) (i t : Nat) (h : t < i) : (ELof G N C i)[t]? = some (sv (G t) (N t) (C t)) := by
  simp [ELof, h]
theorem ELof_set (G : Nat → Option Nat) (N C : Nat → Nat) (i : Nat) (g : Option Nat) (c : Nat) : ELof (setAt G i g) N (setAt C i c) (i + 1) = ELof G N C i ++ [sv g (N i) c] := by
  unfold ELof
  rw [List.range_succ, List.map_append]
  congr 1
  · apply List.map_congr_left
    intro t ht
    have : t ≠ i := by have := List.mem_range.1 ht; omega
    simp [setAt, this]
  · simp [setAt]

structure L1 (W w : World) (B ga : Nat) (ask : Nat → List UInt8) (N : Nat → Nat) (TS : Nat → List Tok) (i : Nat) (v : Value) (G : Nat → Option Nat) (C : Nat → Nat) : Prop where
  aown : w.ownsRow B 25 1 v i (ELof G N C i)
  own : ∀ t, t < i → w.ownsRow B 37 4 (sv (G t) (N t) (C t)) (N t) (tokCells (TS t))
  sep : ∀ t u, t < i → u < i → t ≠ u → G t = none ∨ G t ≠ G u
  aG : ∀ t, t < i → G t = none ∨ G t ≠ v.ownBlock
  aga : v.ownBlock ≠ some ga
  gga : ∀ t, t < i → G t ≠ some ga
  asked : ∀ t, t < 4 → w.cell? ⟨ga, t, none⟩ = some (S (ask t))
  galt : ga < w.heap.size
  low : B ≤ ga
  below : Below B W w

theorem L1.grown {W w w' : World} {B ga : Nat} {ask : Nat → List UInt8} {N : Nat → Nat} {TS : Nat → List Tok} {i : Nat} {v : Value} {G : Nat → Option Nat} {C : Nat → Nat} {row : Option Nat} (h : L1 W w B ga ask N TS i v G C) (hg : w.grownBy w' row) (hr : row = none) : L1 W w' B ga ask N TS i v G C := by
  subst hr
  have hN : ∀ o : Option Nat, o = none ∨ o ≠ none := fun o => by cases o <;> simp
  refine ⟨h.aown.kept hg (hN _), fun t ht => (h.own t ht).kept hg (hN _), h.sep, h.aG, h.aga, h.gga, fun t ht => ?_, Nat.lt_of_lt_of_le h.galt hg.size, h.low, h.below.grown hg (by have := h.galt; have := h.low; omega) (fun k e => by cases e)⟩
  rw [(cells_of_block (hg.block ga h.galt (by simp)) t).1]; exact h.asked t ht

theorem Below.toGrown {w w' : World} (h : Below w.heap.size w w') : w.grownBy w' none := ⟨h.os, h.tape, h.output, h.size, fun k hk _ => h.block k hk⟩

theorem L1.add {W u w' : World} {B ga : Nat} {ask : Nat → List UInt8} {N : Nat → Nat} {TS : Nat → List Tok} {i : Nat} {v : Value} {G : Nat → Option Nat} {C : Nat → Nat} {q cap ct : Nat} {gt : Option Nat} (h : L1 W u B ga ask N TS i v G C) (ht : u.ownsRow B 37 4 (sv gt (N i) ct) (N i) (tokCells (TS i)))
    (hn : ∀ g, gt = some g → (∀ t, t < i → G t ≠ some g) ∧ g ≠ ga ∧ v.ownBlock ≠ some g) (hown : w'.ownsRow B 25 1 (.slice (some ⟨q, 0, none⟩) (i + 1) cap) (i + 1) (ELof G N C i ++ [sv gt (N i) ct]))
    (hp : (v.ownBlock = some q ∧ u.grownBy w' (some q)) ∨ (q = u.heap.size ∧ u.grownBy w' none)) : L1 W w' B ga ask N TS (i + 1) (.slice (some ⟨q, 0, none⟩) (i + 1) cap) (setAt G i gt) (setAt C i ct) := by
  obtain ⟨row, hrow, hg⟩ : ∃ row : Option Nat, (row = none ∨ row = v.ownBlock) ∧ u.grownBy w' row := by
    rcases hp with ⟨e, hg⟩ | ⟨_, hg⟩
    · exact ⟨some q, .inr e.symm, hg⟩
    · exact ⟨none, .inl rfl, hg⟩
  have hN : ∀ o : Option Nat, (o = none ∨ o ≠ v.ownBlock) → o = none ∨ o ≠ row := fun o ho => by
    rcases hrow with e | e
    · rw [e]; cases o <;> simp
    · rw [e]; exact ho
  have hS : ∀ g : Nat, some g ≠ v.ownBlock → some g ≠ row := fun g ho => (hN _ (.inr ho)).resolve_left (by simp)
  have hgtv : gt = none ∨ gt ≠ v.ownBlock := by
    cases gt with
    | none => exact .inl rfl
    | some g => exact .inr (Ne.symm (hn g rfl).2.2)
  have hq : ∀ o : Option Nat, (o = none ∨ o ≠ v.ownBlock) → (∀ g, o = some g → g < u.heap.size) → o = none ∨ o ≠ some q := fun o h1 h2 => by
    rcases hp with ⟨e, _⟩ | ⟨e, _⟩
    · rw [← e]; exact h1
    · cases o with
      | none => exact .inl rfl
      | some g => right; intro e2; have := h2 g rfl; cases e2; omega
  have hlt : ∀ t, t < i + 1 → t ≠ i → t < i := fun t h1 h2 => by omega
  have olt : ∀ t g, t < i → G t = some g → g < u.heap.size := fun t g h1 h2 => ((h.own t h1).lt g (by rw [sv_block]; exact h2)).2
  have glt : ∀ g, gt = some g → g < u.heap.size := fun g e => (ht.lt g (by rw [sv_block]; exact e)).2
  refine ⟨by rw [ELof_set]; exact hown, fun t h1 => ?_, fun t s h1 h2 h3 => ?_, fun t h1 => ?_, ?_, fun t h1 => ?_, fun t h1 => ?_, Nat.lt_of_lt_of_le h.galt hg.size, h.low, h.below.grown hg (by have := h.galt; have := h.low; omega) ?_⟩
  · unfold setAt
    by_cases e : t = i
    · subst e; rw [if_pos rfl, if_pos rfl]
      exact ht.kept hg (by rw [sv_block]; exact hN _ hgtv)
    · rw [if_neg e, if_neg e]
      exact (h.own t (hlt t h1 e)).kept hg (by rw [sv_block]; exact hN _ (h.aG t (hlt t h1 e)))
  · unfold setAt
    by_cases e : t = i
    · rw [if_pos e, if_neg (by omega)]
      cases hgt : gt with
      | none => exact .inl rfl
      | some g => right; exact fun e2 => (hn g hgt).1 s (by omega) e2.symm
    · rw [if_neg e]
      by_cases e2 : s = i
      · rw [if_pos e2]
        cases hgt : gt with
        | none => cases G t <;> simp
        | some g => right; exact (hn g hgt).1 t (hlt t h1 e)
      · rw [if_neg e2]; exact h.sep t s (hlt t h1 e) (hlt s h2 e2) h3
  · show setAt G i gt t = none ∨ setAt G i gt t ≠ some q
    unfold setAt
    by_cases e : t = i
    · rw [if_pos e]; exact hq _ hgtv glt
    · rw [if_neg e]; exact hq _ (h.aG t (hlt t h1 e)) (fun g e2 => olt t g (hlt t h1 e) e2)
  · show some q ≠ some ga
    rcases hp with ⟨e, _⟩ | ⟨e, _⟩
    · rw [← e]; exact h.aga
    · intro e2; cases e2; have := h.galt; omega
  · unfold setAt
    by_cases e : t = i
    · rw [if_pos e]; intro e2; exact (hn ga e2).2.1 rfl
    · rw [if_neg e]; exact h.gga t (hlt t h1 e)
  · rw [(cells_of_block (hg.block ga h.galt (hS ga (Ne.symm h.aga))) t).1]; exact h.asked t h1
  · intro k e
    rcases hrow with e2 | e2
    · rw [e2] at e; cases e
    · exact (h.aown.lt k (by rw [← e2]; exact e)).1

/-- what owned wants -/
theorem L1.ls {W w : World} {B ga : Nat} {ask : Nat → List UInt8} {N : Nat → Nat} {TS : Nat → List Tok} {i q cap : Nat} {G : Nat → Option Nat} {C : Nat → Nat} (h : L1 W w B ga ask N TS i (.slice (some ⟨q, 0, none⟩) i cap) G C) : Ls w B q i 0 G N C := by
  have hql : B ≤ q ∧ q < w.heap.size := h.aown.lt q rfl
  refine ⟨fun t ht => ?_, fun t g _ ht e => ?_, fun t ht e => ?_, fun t u g h1 h2 h3 e e2 => ?_, fun t ht e => ?_, hql.1, hql.2⟩
  · have := h.aown.cells (g := q) rfl t _ (ELof_get G N C i t ht)
    rwa [Addr.add_lit, Nat.zero_add] at this
  · have := h.own t ht
    rw [e] at this
    exact .of_own this
  · have := h.own t ht
    rw [e] at this
    rcases this.2 with ⟨h1, h2⟩ | ⟨g, c, cur, h1, _⟩
    · injection h1 with _ h3 h4
      exact ⟨h3, h4⟩
    · injection h1 with h1
      cases h1
  · rcases h.sep t u h1 h2 h3 with h4 | h4
    · rw [h4] at e; cases e
    · exact h4 (by rw [e, e2])
  · rcases h.aG t ht with h4 | h4
    · rw [h4] at e; cases e
    · exact h4 e

theorem L1.row {W w : World} {B ga : Nat} {ask : Nat → List UInt8} {N : Nat → Nat} {TS : Nat → List Tok} {i : Nat} {v : Value} {G : Nat → Option Nat} {C : Nat → Nat} (h : L1 W w B ga ask N TS i v G C) (hN : ∀ t, N t = (TS t).length) (t : Nat) (ht : t < i) : TokRow w (sv (G t) (N t) (C t)) (TS t) := by
  have ho := h.own t ht
  cases hg : G t with
  | none =>
    rw [hg] at ho
    rcases ho.2 with ⟨h1, h2⟩ | ⟨g, c, cur, h1, _⟩
    · have hz : TS t = [] := List.length_eq_zero_iff.1 (by rw [← hN]; exact h2)
      rw [h1, hz]; exact .nil w
    · injection h1 with h1
      cases h1
  | some g =>
    rw [hg] at ho
    rw [hN] at ho ⊢
    exact .of_own ho

end Go.Proofs.Ythnnmgiihpdblab
