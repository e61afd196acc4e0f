/- CacheRooms: what holds at each step, and how a step changes it. -/
import Derived.Test.YtnpffhgmakbdnaaRoVb
namespace Go.Proofs.Ytnpffhgmakbdnaa
open Go.RowKit
theorem WT.zero {K : Nat → Nat} {w : World} {t lo : Nat} {v : Value} (h : WT K w t v lo 0) (lo' : Nat) : WT K w t v lo' 0 := by
  rcases h with h | ⟨g, o, cap, cs, e1, e2, e3, e4, _, e6⟩
  · exact .inl h
  · exact .inr ⟨g, o, cap, cs, e1, e2, e3, e4, fun j hj => by omega, e6⟩
structure MS (W w : World) (K : Nat → Nat) (Wb Nb : Nat) (cs ns : Array Value) (nx lo ln : Nat → Nat) : Prop where
  bs : BS W w K
  wb : TB K w 2 Wb (.cells cs 58)
  nb : TB K w 3 Nb (.cells ns 59)
  cz : cs.size = 8
  nz : ns.size = 8
  wt : ∀ x, x < 8 → ∃ v, cs[x]? = some v ∧ WT K w (10 + x) v (lo x) (ln x)
  nn : ∀ x, x < 8 → ns[x]? = some (.int .i64 (nx x))
section
variable {W w w' : World} {K K' : Nat → Nat} {Wb Nb : Nat} {cs ns : Array Value} {nx lo ln : Nat → Nat} {x : Nat}
theorem MS.mv {T : Nat → Prop} (h : MS W w K Wb Nb cs ns nx lo ln) (m : Mv T w w' K K') (hT : ∀ y, y = 0 ∨ (2 ≤ y ∧ y ≤ 3) ∨ (10 ≤ y ∧ y < 18) → ¬ T y) : MS W w' K' Wb Nb cs ns nx lo ln :=
  ⟨h.bs.mv m (hT _ (by omega)), h.wb.mv m (hT _ (by omega)), h.nb.mv m (hT _ (by omega)), h.cz, h.nz, fun x hx => by
    obtain ⟨v, h1, h2⟩ := h.wt x hx
    exact ⟨v, h1, h2.mv m (hT _ (by omega))⟩, h.nn⟩
theorem MS.nc (h : MS W w K Wb Nb cs ns nx lo ln) (hx : x < 8) : w.cell? ⟨Nb, x, none⟩ = some (.int .i64 (nx x)) := by
  unfold World.cell?; rw [h.nb.at_]; exact h.nn x hx
theorem MS.wc (h : MS W w K Wb Nb cs ns nx lo ln) (hx : x < 8) : ∃ v, cs[x]? = some v ∧ w.cell? ⟨Wb, x, none⟩ = some v ∧ WT K w (10 + x) v (lo x) (ln x) := by
  obtain ⟨v, h1, h2⟩ := h.wt x hx
  exact ⟨v, h1, by unfold World.cell?; rw [h.wb.at_]; exact h1, h2⟩
theorem MS.nf (h : MS W w K Wb Nb cs ns nx lo ln) (n : Nat) : w.frozen? ⟨Nb, n, none⟩ = false := by unfold World.frozen?; rw [h.nb.at_]; rfl
theorem MS.wf (h : MS W w K Wb Nb cs ns nx lo ln) (n : Nat) : w.frozen? ⟨Wb, n, none⟩ = false := by unfold World.frozen?; rw [h.wb.at_]; rfl
theorem TB.set {K : Nat → Nat} {w : World} {t A n : Nat} {cs : Array Value} {ty : TypeId} {f : Nat × Nat} (h : TB K w t A (.cells cs ty f)) (v : Value) : TB K (w.setCell ⟨A, n, none⟩ v) t A (.cells (cs.setIfInBounds n v) ty f) := by
  refine ⟨?_, h.k⟩
  unfold World.setCell
  simp [Array.getElem?_modify, h.at_]
theorem MS.setN (h : MS W w K Wb Nb cs ns nx lo ln) (hx : x < 8) (v : Nat) : MS W (w.setCell ⟨Nb, x, none⟩ (.int .i64 v)) K Wb Nb cs (ns.setIfInBounds x (.int .i64 v)) (upd nx x v) lo ln ∧ Mv (fun y => y = 3) w (w.setCell ⟨Nb, x, none⟩ (.int .i64 v)) K K := by
  have m := Mv.of_set w K ⟨Nb, x, none⟩ (.int .i64 v) h.nb.k
  refine ⟨⟨h.bs.mv m (by omega), h.wb.mv m (by omega), h.nb.set _, h.cz, by simpa using h.nz, fun y hy => ?_, fun y hy => ?_⟩, m⟩
  · obtain ⟨u, h1, h2⟩ := h.wt y hy
    exact ⟨u, h1, h2.mv m (by omega)⟩
  · rw [Array.getElem?_setIfInBounds]
    by_cases e : x = y
    · subst e
      rw [if_pos rfl, if_pos (by rw [h.nz]; exact hx), upd_same]
    · rw [if_neg e, upd_ne nx _ (fun q => e q.symm)]
      exact h.nn y hy
theorem MS.setW (h : MS W w K Wb Nb cs ns nx lo ln) (hx : x < 8) {v : Value} {l k : Nat} (hv : WT K w (10 + x) v l k) : MS W (w.setCell ⟨Wb, x, none⟩ v) K Wb Nb (cs.setIfInBounds x v) ns nx (upd lo x l) (upd ln x k) ∧ Mv (fun y => y = 2) w (w.setCell ⟨Wb, x, none⟩ v) K K := by
  have m := Mv.of_set w K ⟨Wb, x, none⟩ v h.wb.k
  refine ⟨⟨h.bs.mv m (by omega), h.wb.set _, h.nb.mv m (by omega), by simpa using h.cz, h.nz, fun y hy => ?_, h.nn⟩, m⟩
  by_cases e : x = y
  · subst e
    refine ⟨v, ?_, ?_⟩
    · rw [Array.getElem?_setIfInBounds, if_pos rfl, if_pos (by rw [h.cz]; exact hx)]
    · rw [upd_same, upd_same]; exact hv.mv m (by omega)
  · obtain ⟨u, h1, h2⟩ := h.wt y hy
    refine ⟨u, ?_, ?_⟩
    · rw [Array.getElem?_setIfInBounds, if_neg e]; exact h1
    · rw [upd_ne lo _ (fun q => e q.symm), upd_ne ln _ (fun q => e q.symm)]; exact h2.mv m (by omega)
/-- one more is appended and laid down -/
theorem MS.push (h : MS W w K Wb Nb cs ns nx lo ln) (hx : x < 8) {v : Value} (hv : cs[x]? = some v) {N k : Nat} (hb : w.heap[N]? = some (.cells #[.int .i64 (k : Nat)] 3 (0, 0))) (hk : ln x = 0 ∨ lo x + ln x = k) (hlk : ln x ≤ k) (hsm : ln x ≤ 1000000000) :
    ∃ v' w1 K', (∀ r, (Builtin.append_ #[57, 57] r #[v, .slice (some ⟨N, 0, none⟩) 1 1]).run Try.prog w = .ok v' w1) ∧ w1.cell? ⟨Wb, x, none⟩ = some v ∧ w1.frozen? ⟨Wb, x, none⟩ = false ∧
      MS W (w1.setCell ⟨Wb, x, none⟩ v') K' Wb Nb (cs.setIfInBounds x v') ns nx (upd lo x (k - ln x)) (upd ln x (ln x + 1)) ∧ Mv (fun y => y = 10 + x ∨ y = 2) w (w1.setCell ⟨Wb, x, none⟩ v') K K' := by
  obtain ⟨u, hu, hwt⟩ := h.wt x hx
  rw [hv] at hu
  cases hu
  have hwt' : WT K w (10 + x) v (k - ln x) (ln x) := by
    rcases hk with e | e
    · rw [e] at hwt ⊢; exact hwt.zero _
    · rw [show k - ln x = lo x by omega]; exact hwt
  obtain ⟨v', w1, K', hr, hn, m⟩ := hwt'.app (s := ((k : Nat) : Int)) (by congr 1; omega) hb hsm
  have wb1 := h.wb.mv m (by omega)
  have nb1 := h.nb.mv m (by omega)
  have m2 := Mv.of_set w1 K' ⟨Wb, x, none⟩ v' wb1.k
  refine ⟨v', w1, K', hr, by unfold World.cell?; rw [wb1.at_]; exact hv, by unfold World.frozen?; rw [wb1.at_]; rfl, ⟨(h.bs.mv m (by omega)).mv m2 (by omega), wb1.set _, nb1.mv m2 (by omega), by simpa using h.cz, h.nz, fun y hy => ?_, h.nn⟩, (m.mono (fun _ q => .inl q)).trans (m2.mono (fun _ q => .inr q))⟩
  by_cases e : x = y
  · subst e
    refine ⟨v', ?_, ?_⟩
    · rw [Array.getElem?_setIfInBounds, if_pos rfl, if_pos (by rw [h.cz]; exact hx)]
    · rw [upd_same, upd_same]; exact hn.mv m2 (by omega)
  · obtain ⟨u, h1, h2⟩ := h.wt y hy
    refine ⟨u, ?_, ?_⟩
    · rw [Array.getElem?_setIfInBounds, if_neg e]; exact h1
    · rw [upd_ne lo _ (fun q => e q.symm), upd_ne ln _ (fun q => e q.symm)]; exact (h2.mv m (by omega)).mv m2 (by omega)
end
abbrev gR (n most : Nat) : Cf := ⟨n, most, 64 * n * most, 64⟩
structure RS (W w : World) (K : Nat → Nat) (p mm Wb Nb n most : Nat) (C : List Cl) (cs ns : Array Value) (nx lo ln : Nat → Nat) (i : Nat) : Prop where
  ms : MS W w K Wb Nb cs ns nx lo ln
  tc : TC K w 1 p (gR n most) mm C
  rm : RM n C nx ln
  tie : ∀ x, ln x = 0 ∨ lo x + ln x = nx x
  bd : ∀ x, nx x ≤ i + 1
section
variable {W w w' : World} {K : Nat → Nat} {p mm Wb Nb n most : Nat} {C : List Cl} {cs ns : Array Value} {nx lo ln : Nat → Nat} {i x : Nat}
theorem RS.mv {T : Nat → Prop} {K' : Nat → Nat} (h : RS W w K p mm Wb Nb n most C cs ns nx lo ln i) (m : Mv T w w' K K') (hT : ∀ y, y ≤ 3 ∨ (10 ≤ y ∧ y < 18) → ¬ T y) : RS W w' K' p mm Wb Nb n most C cs ns nx lo ln i :=
  ⟨h.ms.mv m (fun y hy => hT y (by omega)), h.tc.mv m (hT _ (by omega)), h.rm, h.tie, h.bd⟩
theorem RS.up (h : RS W w K p mm Wb Nb n most C cs ns nx lo ln i) : RS W w K p mm Wb Nb n most C cs ns nx lo ln (i + 1) := ⟨h.ms, h.tc, h.rm, h.tie, fun x => by have := h.bd x; omega⟩
/-- one that begins -/
theorem RS.one (h : RS W w K p mm Wb Nb n most C cs ns nx lo ln i) (hx : x < 8) (hz : nx x = 0) : RS W (w.setCell ⟨Nb, x, none⟩ (.int .i64 (1 : Nat))) K p mm Wb Nb n most C cs (ns.setIfInBounds x (.int .i64 (1 : Nat))) (upd nx x 1) lo ln i := by
  obtain ⟨m1, m2⟩ := h.ms.setN hx 1
  have hl := h.rm.le x
  refine ⟨m1, h.tc.mv m2 (by omega), rm_one h.rm hz, fun y => ?_, fun y => ?_⟩
  · by_cases e : y = x
    · subst e; left; omega
    · rw [upd_ne nx _ e]; exact h.tie y
  · unfold upd
    split
    · omega
    · exact h.bd y
/-- the first is given up -/
theorem RS.ends (h : RS W w K p mm Wb Nb n most C cs ns nx lo ln i) (hx : x < 8) (hp : 0 < ln x) {v : Value} (hv : cs[x]? = some v) : ∃ v', (∀ w, (Instr.slice 57 v (some (.int .i64 1)) none none).run Try.prog w = .ok v' w) ∧
    RS W (w.setCell ⟨Wb, x, none⟩ v') K p mm Wb Nb n most C (cs.setIfInBounds x v') ns nx (upd lo x (lo x + 1)) (upd ln x (ln x - 1)) i := by
  obtain ⟨u, hu, hwt⟩ := h.ms.wt x hx
  rw [hv] at hu
  cases hu
  obtain ⟨v', hr, hn⟩ := hwt.cut hp
  obtain ⟨m1, m2⟩ := h.ms.setW hx hn
  refine ⟨v', hr, m1, h.tc.mv m2 (by omega), rm_end h.rm hp, fun y => ?_, h.bd⟩
  by_cases e : y = x
  · subst e
    rw [upd_same, upd_same]
    have := h.tie y
    omega
  · rw [upd_ne lo _ e, upd_ne ln _ e]; exact h.tie y
end
end Go.Proofs.Ytnpffhgmakbdnaa
