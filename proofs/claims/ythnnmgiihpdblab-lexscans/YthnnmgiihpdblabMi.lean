/- Lists of tokens that are written over and grown: what holds of them. -/
import Derived.Test.YthnnmgiihpdblabMh
namespace Go.Proofs.Ythnnmgiihpdblab
open Go.RowKit

/-- the first n tokens of a row are of kind k -/
def Mk (w : World) (g n : Nat) (k : Int) : Prop := ∀ i, i < n → w.cell? ⟨g, i * 4, none⟩ = some (.int .i64 k)

theorem Mk.grown {w w' : World} {g n : Nat} {k : Int} {row : Option Nat} (h : Mk w g n k) (hg : w.grownBy w' row) (hlt : g < w.heap.size) (hne : some g ≠ row) : Mk w' g n k := fun i hi => by
  rw [(cells_of_block (hg.block g hlt hne) (i * 4)).1]; exact h i hi

abbrev sv (o : Option Nat) (n c : Nat) : Value := .slice (o.map fun g => ⟨g, 0, none⟩) n c
theorem sv_block (o : Option Nat) (n c : Nat) : (sv o n c).ownBlock = o := by cases o <;> rfl

structure Ls (w : World) (B gl m lo : Nat) (G : Nat → Option Nat) (N C : Nat → Nat) : Prop where
  cell : ∀ i, i < m → w.cell? ⟨gl, i, none⟩ = some (sv (G i) (N i) (C i))
  row : ∀ i g, lo ≤ i → i < m → G i = some g → Rw w B g (N i) (C i)
  nil : ∀ i, i < m → G i = none → N i = 0 ∧ C i = 0
  sep : ∀ i j g, i < m → j < m → i ≠ j → G i = some g → G j ≠ some g
  ne : ∀ i, i < m → G i ≠ some gl
  low : B ≤ gl
  lt : gl < w.heap.size

theorem Ls.up {w : World} {B gl m lo : Nat} {G : Nat → Option Nat} {N C : Nat → Nat} (h : Ls w B gl m lo G N C) (lo' : Nat) (hl : lo ≤ lo') : Ls w B gl m lo' G N C :=
  ⟨h.cell, fun i g h1 h2 h3 => h.row i g (by omega) h2 h3, h.nil, h.sep, h.ne, h.low, h.lt⟩
theorem Ls.grown {w w' : World} {B gl m lo : Nat} {G : Nat → Option Nat} {N C : Nat → Nat} {row : Option Nat} (h : Ls w B gl m lo G N C) (hg : w.grownBy w' row) (hne : some gl ≠ row) (hr : ∀ i, lo ≤ i → i < m → G i = none ∨ G i ≠ row) : Ls w' B gl m lo G N C := by
  refine ⟨fun i hi => ?_, fun i g h1 h2 h3 => ?_, h.nil, h.sep, h.ne, h.low, Nat.lt_of_lt_of_le h.lt hg.size⟩
  · rw [(cells_of_block (hg.block gl h.lt hne) i).1]; exact h.cell i hi
  · refine (h.row i g h1 h2 h3).grown hg ?_
    rcases hr i h1 h2 with h4 | h4
    · rw [h4] at h3; cases h3
    · rw [← h3]; exact h4

/-- four cells: a token of a kind -/
def st4 (w : World) (g k : Nat) (a : Int) : World := (((w.setCell ⟨g, k * 4, none⟩ (.int .i64 a)).setCell ⟨g, k * 4 + 1, none⟩ (.string ⟨#[]⟩)).setCell ⟨g, k * 4 + 2, none⟩ (.int .i64 0)).setCell ⟨g, k * 4 + 3, none⟩ (.int .i64 0)

theorem scO (w : World) (a b : Addr) (v : Value) (h : a ≠ b) : (w.setCell a v).cell? b = w.cell? b := World.cell?_setCell_other _ _ _ _ h
theorem st4_other {w : World} {g k : Nat} {a : Int} (b o : Nat) (h : b ≠ g) : (st4 w g k a).cell? ⟨b, o, none⟩ = w.cell? ⟨b, o, none⟩ := by
  have hh : ∀ x, (⟨g, x, none⟩ : Addr) ≠ ⟨b, o, none⟩ := fun x e => h (by injection e with e1; exact e1.symm)
  unfold st4
  rw [scO _ _ _ _ (hh _), scO _ _ _ _ (hh _), scO _ _ _ _ (hh _), scO _ _ _ _ (hh _)]
theorem st4_less {w : World} {g k : Nat} {a : Int} (i : Nat) (h : i < k) : (st4 w g k a).cell? ⟨g, i * 4, none⟩ = w.cell? ⟨g, i * 4, none⟩ := by
  have hh : ∀ x, k * 4 ≤ x → (⟨g, x, none⟩ : Addr) ≠ ⟨g, i * 4, none⟩ := fun x hx e => by injection e with _ e2; omega
  unfold st4
  rw [scO _ _ _ _ (hh _ (by omega)), scO _ _ _ _ (hh _ (by omega)), scO _ _ _ _ (hh _ (by omega)), scO _ _ _ _ (hh _ (Nat.le_refl _))]
theorem st4_here {w : World} {B g n c k : Nat} {a : Int} (h : Rw w B g n c) (hk : k < n) : (st4 w g k a).cell? ⟨g, k * 4, none⟩ = some (.int .i64 a) := by
  unfold st4
  obtain ⟨u, hu⟩ := h.cell (k * 4) (by omega)
  rw [World.cell?_setCell_other _ _ _ _ (by simp), World.cell?_setCell_other _ _ _ _ (by simp), World.cell?_setCell_other _ _ _ _ (by simp), World.cell?_setCell_same _ _ _ hu]
theorem st4_below {W w : World} {B g k : Nat} {a : Int} (h : Below B W w) (hg : B ≤ g) : Below B W (st4 w g k a) :=
  (((h.setCell (p := ⟨g, k * 4, none⟩) hg _).setCell (p := ⟨g, k * 4 + 1, none⟩) hg _).setCell (p := ⟨g, k * 4 + 2, none⟩) hg _).setCell (p := ⟨g, k * 4 + 3, none⟩) hg _
theorem st4_size {w : World} {g k : Nat} {a : Int} : (st4 w g k a).heap.size = w.heap.size := by simp [st4]
theorem Ls.st4 {w : World} {B gl m : Nat} {G : Nat → Option Nat} {N C : Nat → Nat} (h : Ls w B gl m 0 G N C) (j g k : Nat) (a : Int) (hj : j < m) (hg : G j = some g) : Ls (st4 w g k a) B gl m 0 G N C := by
  have hne : gl ≠ g := fun e => h.ne j hj (by rw [hg, e])
  refine ⟨fun i hi => ?_, fun i g2 h1 h2 h3 => ((((h.row i g2 h1 h2 h3).set g _ _).set g _ _).set g _ _).set g _ _, h.nil, h.sep, h.ne, h.low, by rw [st4_size]; exact h.lt⟩
  rw [st4_other _ _ hne]; exact h.cell i hi

/-- an entry of all: what it reads -/
structure Ent (w : World) (v : Value) (k : Int) (o : Option Nat) (n : Nat) : Prop where
  v : ∃ c, v = sv o n c
  nil : o = none → n = 0
  le : n ≤ 2000000
  mark : ∀ g, o = some g → g < w.heap.size ∧ Mk w g n k

theorem Ent.grown {w w' : World} {v : Value} {k : Int} {o : Option Nat} {n : Nat} {row : Option Nat} (h : Ent w v k o n) (hg : w.grownBy w' row) (hne : o = none ∨ o ≠ row) : Ent w' v k o n :=
  ⟨h.v, h.nil, h.le, fun g e => ⟨Nat.lt_of_lt_of_le (h.mark g e).1 hg.size, (h.mark g e).2.grown hg (h.mark g e).1 (by
    rcases hne with h1 | h1
    · rw [h1] at e; cases e
    · rw [← e]; exact h1)⟩⟩

/-- the second half's state: of list j, all its T entries (blocks Eo, lengths En), x in the block xo -/
structure P2 (W w : World) (B gl m j : Nat) (G : Nat → Option Nat) (N C : Nat → Nat) (va : Value) (T : Nat) (EL : List Value) (Eo : Nat → Option Nat) (En : Nat → Nat) (xo : Option Nat) (nx cx : Nat) : Prop where
  ls : Ls w B gl m (j + 1) G N C
  mark : ∀ i g, j < i → i < m → G i = some g → Mk w g (N i) (-5 - (i : Int))
  aown : w.ownsRow B 25 1 va T EL
  ent : ∀ t v, EL[t]? = some v → Ent w v (-5 - ((t / 20 : Nat) : Int)) (Eo t) (En t)
  xnil : xo = none → nx = 0 ∧ cx = 0
  xr : ∀ g, xo = some g → Rw w B g nx cx ∧ Mk w g nx (-5 - (j : Int))
  aE : ∀ t, t < T → Eo t = none ∨ Eo t ≠ va.ownBlock
  aX : xo = none ∨ xo ≠ va.ownBlock
  aL : va.ownBlock ≠ some gl
  aG : ∀ i, j < i → i < m → G i = none ∨ G i ≠ va.ownBlock
  xL : xo ≠ some gl
  xG : ∀ i, j < i → i < m → G i = none ∨ G i ≠ xo
  xE : ∀ t, t < T → Eo t = xo → xo ≠ none → t / 20 = j ∧ En t ≤ nx
  eG : ∀ t i, t < T → j < i → i < m → Eo t = none ∨ Eo t ≠ G i
  below : Below B W w
  hB : B ≤ w.heap.size


theorem P2.len {W w : World} {B gl m j : Nat} {G : Nat → Option Nat} {N C : Nat → Nat} {va : Value} {T : Nat} {EL : List Value} {Eo : Nat → Option Nat} {En : Nat → Nat} {xo : Option Nat} {nx cx : Nat} (h : P2 W w B gl m j G N C va T EL Eo En xo nx cx) : EL.length = T := by simpa using h.aown.1

/-- Blocks that all speak of are there already. -/
theorem P2.old {W w : World} {B gl m j : Nat} {G : Nat → Option Nat} {N C : Nat → Nat} {va : Value} {T : Nat} {EL : List Value} {Eo : Nat → Option Nat} {En : Nat → Nat} {xo : Option Nat} {nx cx : Nat} (h : P2 W w B gl m j G N C va T EL Eo En xo nx cx) : (∀ t g, t < T → Eo t = some g → g < w.heap.size) ∧ (∀ g, xo = some g → g < w.heap.size) ∧ (∀ i g, j < i → i < m → G i = some g → g < w.heap.size) ∧ (∀ q, va.ownBlock = some q → B ≤ q ∧ q < w.heap.size) :=
  ⟨fun t g ht e => ((h.ent t _ (List.getElem?_eq_getElem (by rw [h.len]; exact ht))).mark g e).1, fun g e => (h.xr g e).1.lt, fun i g h1 h2 e => (h.ls.row i g h1 h2 e).lt, fun q e => h.aown.lt q e⟩

/-- What touches none of it leaves it. -/
theorem P2.grown {W w : World} {B gl m j : Nat} {G : Nat → Option Nat} {N C : Nat → Nat} {va : Value} {T : Nat} {EL : List Value} {Eo : Nat → Option Nat} {En : Nat → Nat} {xo : Option Nat} {nx cx : Nat} {w' : World} (h : P2 W w B gl m j G N C va T EL Eo En xo nx cx) (hg : w.grownBy w' none) : P2 W w' B gl m j G N C va T EL Eo En xo nx cx := by
  have hN : ∀ o : Option Nat, o = none ∨ o ≠ none := fun o => by cases o <;> simp
  refine ⟨h.ls.grown hg (by simp) (fun i _ _ => hN _), fun i g h1 h2 h3 => (h.mark i g h1 h2 h3).grown hg (h.old.2.2.1 i g h1 h2 h3) (by simp), h.aown.kept hg (hN _), fun t v hv => (h.ent t v hv).grown hg (hN _), h.xnil, fun g e => ⟨(h.xr g e).1.grown hg (by simp), (h.xr g e).2.grown hg (h.xr g e).1.lt (by simp)⟩, h.aE, h.aX, h.aL, h.aG, h.xL, h.xG, h.xE, h.eG, h.below.grown hg h.hB (fun k e => by cases e), Nat.le_trans h.hB hg.size⟩

def setAt {α : Type} (f : Nat → α) (T : Nat) (a : α) : Nat → α := fun t => if t = T then a else f t

/-- x is put behind all. -/
theorem P2.put {W w : World} {B gl m j : Nat} {G : Nat → Option Nat} {N C : Nat → Nat} {va : Value} {T : Nat} {EL : List Value} {Eo : Nat → Option Nat} {En : Nat → Nat} {xo : Option Nat} {nx cx : Nat} {w' : World} {q cap : Nat} (h : P2 W w B gl m j G N C va T EL Eo En xo nx cx) (hT : T / 20 = j) (hnx : nx ≤ 2000000) (hown : w'.ownsRow B 25 1 (.slice (some ⟨q, 0, none⟩) (T + 1) cap) (T + 1) (EL ++ [sv xo nx cx]))
    (hp : (va.ownBlock = some q ∧ w.grownBy w' (some q)) ∨ (q = w.heap.size ∧ w.grownBy w' none)) :
    P2 W w' B gl m j G N C (.slice (some ⟨q, 0, none⟩) (T + 1) cap) (T + 1) (EL ++ [sv xo nx cx]) (setAt Eo T xo) (setAt En T nx) xo nx cx := by
  have hlen := h.len
  obtain ⟨o1, o2, o3, o4⟩ := h.old
  obtain ⟨row, hrow, hg⟩ : ∃ row : Option Nat, (row = none ∨ row = va.ownBlock) ∧ w.grownBy w' row := by
    rcases hp with ⟨e, hg⟩ | ⟨_, hg⟩
    · exact ⟨some q, .inr e.symm, hg⟩
    · exact ⟨none, .inl rfl, hg⟩
  have hN : ∀ o : Option Nat, (o = none ∨ o ≠ va.ownBlock) → o = none ∨ o ≠ row := fun o ho => by
    rcases hrow with e | e
    · rw [e]; cases o <;> simp
    · rw [e]; exact ho
  have hS : ∀ g : Nat, (some g = none ∨ some g ≠ va.ownBlock) → some g ≠ row := fun g ho => (hN _ ho).resolve_left (by simp)
  have hq : ∀ o : Option Nat, (o = none ∨ o ≠ va.ownBlock) → (∀ g, o = some g → g < w.heap.size) → o = none ∨ o ≠ some q := fun o h1 h2 => by
    rcases hp with ⟨e, _⟩ | ⟨e, _⟩
    · rw [← e]; exact h1
    · cases o with
      | none => exact .inl rfl
      | some g => right; intro e2; have := h2 g rfl; cases e2; omega
  have hlt : ∀ t, t < T + 1 → t ≠ T → t < T := fun t h1 h2 => by omega
  refine ⟨h.ls.grown hg (hS gl (.inr (Ne.symm h.aL))) (fun i h1 h2 => hN _ (h.aG i h1 h2)), fun i g h1 h2 h3 => (h.mark i g h1 h2 h3).grown hg (o3 i g h1 h2 h3) (hS g (by rw [← h3]; exact h.aG i h1 h2)), hown, ?_, h.xnil, fun g e => ⟨(h.xr g e).1.grown hg (hS g (by rw [← e]; exact h.aX)), (h.xr g e).2.grown hg (h.xr g e).1.lt (hS g (by rw [← e]; exact h.aX))⟩, ?_, hq _ h.aX o2, ?_, fun i h1 h2 => hq _ (h.aG i h1 h2) (fun g e => o3 i g h1 h2 e), h.xL, h.xG, ?_, ?_, h.below.grown hg h.hB ?_, Nat.le_trans h.hB hg.size⟩
  · intro t v hv
    unfold setAt
    by_cases ht : t = T
    · rw [if_pos ht, if_pos ht]
      have e : v = sv xo nx cx := by
        rw [ht, ← hlen, List.getElem?_append_right (Nat.le_refl _), Nat.sub_self] at hv
        simpa using hv.symm
      rw [ht, hT]
      exact ⟨⟨cx, e⟩, fun e => (h.xnil e).1, hnx, fun g e => ⟨Nat.lt_of_lt_of_le (h.xr g e).1.lt hg.size, (h.xr g e).2.grown hg (h.xr g e).1.lt (hS g (by rw [← e]; exact h.aX))⟩⟩
    · rw [if_neg ht, if_neg ht]
      have hlt2 : t < T := by
        have := (List.getElem?_eq_some_iff.1 hv).1
        simp at this; omega
      rw [List.getElem?_append_left (by omega)] at hv
      exact (h.ent t v hv).grown hg (hN _ (h.aE t hlt2))
  · intro t ht
    show setAt Eo T xo t = none ∨ setAt Eo T xo t ≠ some q
    unfold setAt
    by_cases e : t = T
    · rw [if_pos e]; exact hq _ h.aX o2
    · rw [if_neg e]; exact hq _ (h.aE t (hlt t ht e)) (fun g e2 => o1 t g (hlt t ht e) e2)
  · show some q ≠ some gl
    rcases hp with ⟨e, _⟩ | ⟨e, _⟩
    · rw [← e]; exact h.aL
    · intro e2; cases e2; have := h.ls.lt; omega
  · intro t ht
    unfold setAt
    by_cases e : t = T
    · rw [if_pos e, if_pos e]; intro _ _; exact ⟨by rw [e]; exact hT, Nat.le_refl _⟩
    · rw [if_neg e, if_neg e]; exact h.xE t (hlt t ht e)
  · intro t i ht h1 h2
    unfold setAt
    by_cases e : t = T
    · rw [if_pos e]
      rcases h.xG i h1 h2 with h3 | h3
      · rw [h3]; cases xo <;> simp
      · right; exact Ne.symm h3
    · rw [if_neg e]; exact h.eG t i (hlt t ht e) h1 h2
  · intro k e
    rcases hrow with e2 | e2
    · rw [e2] at e; cases e
    · exact (o4 k (by rw [← e2]; exact e)).1

/-- x grows by one. -/
theorem P2.grow {W w : World} {B gl m j : Nat} {G : Nat → Option Nat} {N C : Nat → Nat} {va : Value} {T : Nat} {EL : List Value} {Eo : Nat → Option Nat} {En : Nat → Nat} {xo : Option Nat} {nx cx : Nat} {w' : World} {g' cap : Nat} {xs : List Value} (h : P2 W w B gl m j G N C va T EL Eo En xo nx cx) (hx : w.ownsRow B 37 4 (sv xo nx cx) nx xs) (hown : w'.ownsRow B 37 4 (.slice (some ⟨g', 0, none⟩) (nx + 1) cap) (nx + 1) (xs ++ tokC ⟨-5 - (j : Int), [], 0, 0⟩))
    (hp : (xo = some g' ∧ w.grownBy w' (some g')) ∨ (g' = w.heap.size ∧ w.grownBy w' none)) :
    P2 W w' B gl m j G N C va T EL Eo En (some g') (nx + 1) cap := by
  have hlen := h.len
  obtain ⟨o1, o2, o3, o4⟩ := h.old
  have hxl : xs.length = nx * 4 := hx.1
  have hmk : Mk w' g' (nx + 1) (-5 - (j : Int)) := fun i hi => by
    have hc := hown.cells (g := g') rfl (i * 4) (.int .i64 (-5 - (j : Int)))
    rw [Addr.add_lit, Nat.zero_add] at hc
    apply hc
    rcases Nat.lt_or_ge i nx with h1 | h1
    · rw [List.getElem?_append_left (by omega)]
      have h3 : i * 4 < xs.length := by omega
      have h4 : xs[i * 4]? = some xs[i * 4] := List.getElem?_eq_getElem h3
      cases hxo : xo with
      | none => have := (h.xnil hxo).1; omega
      | some g =>
        subst hxo
        have h5 := hx.cells (g := g) rfl (i * 4) xs[i * 4] h4
        rw [Addr.add_lit, Nat.zero_add] at h5
        have h6 := (h.xr g rfl).2 i h1
        rw [h5] at h6
        rw [h4]; exact h6
    · obtain rfl : i = nx := by omega
      rw [List.getElem?_append_right (by omega), hxl, Nat.sub_self]; rfl
  have hrw : Rw w' B g' (nx + 1) cap := .of_own hown
  obtain ⟨row, hrow, hg⟩ : ∃ row : Option Nat, (row = none ∨ (row = xo ∧ xo = some g')) ∧ w.grownBy w' row := by
    rcases hp with ⟨e, hg⟩ | ⟨_, hg⟩
    · exact ⟨some g', .inr ⟨e.symm, e⟩, hg⟩
    · exact ⟨none, .inl rfl, hg⟩
  have hN : ∀ o : Option Nat, (o = none ∨ o ≠ xo) → o = none ∨ o ≠ row := fun o ho => by
    rcases hrow with e | ⟨e, _⟩
    · rw [e]; cases o <;> simp
    · rw [e]; exact ho
  have hS : ∀ g : Nat, some g ≠ xo → some g ≠ row := fun g ho => (hN _ (.inr ho)).resolve_left (by simp)
  have hq : ∀ o : Option Nat, (o = none ∨ o ≠ xo) → (∀ g, o = some g → g < w.heap.size) → o = none ∨ o ≠ some g' := fun o h1 h2 => by
    rcases hp with ⟨e, _⟩ | ⟨e, _⟩
    · rw [← e]; exact h1
    · cases o with
      | none => exact .inl rfl
      | some g => right; intro e2; have := h2 g rfl; cases e2; omega
  have hax : va.ownBlock = none ∨ va.ownBlock ≠ xo := by
    rcases h.aX with e | e
    · rw [e]; cases va.ownBlock <;> simp
    · exact .inr (Ne.symm e)
  refine ⟨h.ls.grown hg (hS gl (Ne.symm h.xL)) (fun i h1 h2 => hN _ (h.xG i h1 h2)), fun i g h1 h2 h3 => (h.mark i g h1 h2 h3).grown hg (o3 i g h1 h2 h3) (hS g (by rw [← h3]; exact (h.xG i h1 h2).resolve_left (by rw [h3]; simp))), h.aown.kept hg (hN _ hax), ?_, (fun e => by cases e), (fun g e => by cases e; exact ⟨hrw, hmk⟩), h.aE, ?_, h.aL, h.aG, ?_, ?_, ?_, h.eG, h.below.grown hg h.hB ?_, Nat.le_trans h.hB hg.size⟩
  · intro t v hv
    have ht : t < T := by have := (List.getElem?_eq_some_iff.1 hv).1; omega
    have he := h.ent t v hv
    by_cases hex : Eo t = none ∨ Eo t ≠ xo
    · exact he.grown hg (hN _ hex)
    · have e1 : Eo t = xo := Classical.byContradiction fun h1 => hex (.inr h1)
      have e2 : xo ≠ none := fun h1 => hex (.inl (by rw [e1, h1]))
      obtain ⟨e3, e4⟩ := h.xE t ht e1 e2
      refine ⟨he.v, he.nil, he.le, fun g e => ⟨Nat.lt_of_lt_of_le (he.mark g e).1 hg.size, ?_⟩⟩
      rcases hp with ⟨e5, _⟩ | ⟨_, hg2⟩
      · have : g = g' := by rw [e1, e5] at e; cases e; rfl
        rw [this, e3]
        exact fun i hi => hmk i (by omega)
      · exact (he.mark g e).2.grown hg2 (he.mark g e).1 (by simp)
  · right
    intro e
    rcases hp with ⟨e5, _⟩ | ⟨e5, _⟩
    · rcases h.aX with h1 | h1
      · rw [h1] at e5; cases e5
      · exact h1 (by rw [e5, e])
    · have := (o4 g' e.symm).2; omega
  · intro e
    rcases hp with ⟨e5, _⟩ | ⟨e5, _⟩
    · exact h.xL (by rw [e5, e])
    · cases e; have := h.ls.lt; omega
  · exact fun i h1 h2 => hq _ (h.xG i h1 h2) (fun g e => o3 i g h1 h2 e)
  · intro t ht e _
    rcases hp with ⟨e5, _⟩ | ⟨e5, _⟩
    · obtain ⟨h1, h2⟩ := h.xE t ht (by rw [e, e5]) (by rw [e5]; simp)
      exact ⟨h1, by omega⟩
    · have := o1 t g' ht e; omega
  · intro k e
    rcases hrow with e2 | ⟨e2, e3⟩
    · rw [e2] at e; cases e
    · rw [e2, e3] at e
      cases e
      exact (h.xr g' e3).1.low

end Go.Proofs.Ythnnmgiihpdblab
