/- Rows of tokens that are written over and grown: what append leaves, parted by whether there was room. -/
import Derived.Test.YthnnmgiihpdblabMg
namespace Go.Proofs.Ythnnmgiihpdblab
open Go.RowKit

theorem append_parted {w : World} (base : Nat) (t ty e : TypeId) (i : TypeInfo) (z : Value) (size bytes : Nat) (ht : Try.prog.underlying t = some (.slice e)) (hi : Try.prog.info? e = some i) (hz : i.zero = some z)
    (hsize : i.size = size) (hby : i.bytes = bytes) (hzs : z.cells.size = size) (hsz : 0 < size) (v : Value) (n : Nat) (xs : List Value) (hown : w.ownsRow base e size v n xs)
    (a : Addr) (c : Nat) (news : List Value) (hl : news.length = 1 * size) (hnews : ∀ j u, news[j]? = some u → w.cell? (a.add j) = some u) (h1 : ∀ u ∈ news, u.oneCell' = true)
    (h63 : n + 1 ≤ maxLen) (hbytes : (n + 1) * bytes ≤ 140737488355328) (hbase : base ≤ w.heap.size) :
    ∃ g cap w', (Builtin.append_ #[t, t] ty #[v, .slice (some a) 1 c]).run Try.prog w = .ok (.slice (some ⟨g, 0, none⟩) (n + 1) cap) w' ∧ w'.ownsRow base e size (.slice (some ⟨g, 0, none⟩) (n + 1) cap) (n + 1) (xs ++ news) ∧
      ((v.ownBlock = some g ∧ w.grownBy w' (some g)) ∨ (g = w.heap.size ∧ w.grownBy w' none)) ∧ g < w'.heap.size := by
  obtain ⟨g, cap, w', hr, h2, h3, h4, h5⟩ := run_append_lies (P := Try.prog) w t ty base e i z size bytes ht hi hz hsize hby hzs hsz v n xs hown a 1 c news hl hnews h1 (by omega) h63 hbytes hbase w.heap.size rfl
  refine ⟨g, cap, w', hr, h2, ?_, h5⟩
  subst hsize hby
  have hm : n + 1 ≤ 9223372036854775807 := by unfold maxLen at h63; omega
  rcases hown.2 with ⟨rfl, rfl⟩ | ⟨g0, cap0, cur, rfl, hb0, hg0, hnc, hcm, hcs, htake⟩
  · have hr2 := run_append_nil (P := Try.prog) w t ty e i z ht hi hz a 1 c news hl hnews (by omega) (by omega) (by omega)
    simp only [Nat.zero_add] at hr
    rw [hr2] at hr
    cases hr
    exact .inr ⟨rfl, ⟨rfl, rfl, rfl, by simp, fun k hk _ => Below.heap_alloc w.drew _ k hk⟩⟩
  · by_cases hroom : n + 1 ≤ cap0
    · have hfit : n * i.size + news.length ≤ cur.size := by
        rw [hl, hcs, ← Nat.add_mul]; exact Nat.mul_le_mul_right _ hroom
      have hr2 := run_append_room (P := Try.prog) w t ty e i ht hi g0 n cap0 cur hg0 a 1 c news hl hnews h1 hroom hfit
      rw [hr2] at hr
      cases hr
      exact .inl ⟨rfl, h3⟩
    · have holds : ∀ j u, xs[j]? = some u → w.cell? ((⟨g0, 0, none⟩ : Addr).add j) = some u := hown.cells (g := g0) rfl
      have hr2 := run_append_grow (P := Try.prog) w t ty e i z ht hi hz ⟨g0, 0, none⟩ n cap0 xs hown.1 holds a 1 c news hl hnews (by omega) (by omega) (growslice_fits (by omega) hbytes)
      rw [hr2] at hr
      cases hr
      exact .inr ⟨rfl, ⟨rfl, rfl, rfl, by simp, fun k hk _ => Below.heap_alloc w.drew _ k hk⟩⟩

/-- The operation, for a walk. -/
theorem wpList_append_parted {w : World} {ops : Array Oper} {rest : List Oper} {o : Oper} {ac : Act} {Q : Exit → Act → World → Prop} (hgd : o.guard = none) (s x : Operand) (t : TypeId)
    (ho : o.op = .call { callee := .builtin .append, args := #[s, x], argTypes := #[t, t] })
    (base : Nat) (e : TypeId) (i : TypeInfo) (z : Value) (size bytes : Nat) (ht : Try.prog.underlying t = some (.slice e)) (hi : Try.prog.info? e = some i) (hz : i.zero = some z)
    (hsize : i.size = size) (hby : i.bytes = bytes) (hzs : z.cells.size = size) (hsz : 0 < size) (v : Value) (n : Nat) (xs : List Value) (hs : ac.eval s = v) (hown : w.ownsRow base e size v n xs)
    (a : Addr) (c : Nat) (news : List Value) (hx : ac.eval x = .slice (some a) 1 c) (hl : news.length = 1 * size) (hnews : ∀ j u, news[j]? = some u → w.cell? (a.add j) = some u) (h1 : ∀ u ∈ news, u.oneCell' = true)
    (h63 : n + 1 ≤ maxLen) (hbytes : (n + 1) * bytes ≤ 140737488355328) (hbase : base ≤ w.heap.size)
    (h : ∀ g cap w', w'.ownsRow base e size (.slice (some ⟨g, 0, none⟩) (n + 1) cap) (n + 1) (xs ++ news) → ((v.ownBlock = some g ∧ w.grownBy w' (some g)) ∨ (g = w.heap.size ∧ w.grownBy w' none)) → g < w'.heap.size → wpList Try.prog ops Q rest (ac.put o.dst (.slice (some ⟨g, 0, none⟩) (n + 1) cap)) w') :
    wpList Try.prog ops Q (o :: rest) ac w := by
  refine wpList_plain hgd fun K hK => ?_
  obtain ⟨g, cap, w', hr, h2, h3, h4⟩ := append_parted base t o.type e i z size bytes ht hi hz hsize hby hzs hsz v n xs hown a c news hl hnews h1 h63 hbytes hbase
  unfold Oper.wp execOp
  simp only [ho, resolve, invoke, builtin, Sem.run_bind, Sem.run_pure, Result.andThen_ok, List.map_toArray, List.map_cons, List.map_nil, hs, hx, hr]
  exact hK _ _ (h g cap w' h2 h3 h4)

theorem info25_ex : ∃ i : TypeInfo, Try.prog.info? 25 = some i ∧ i.zero = some (.slice none 0 0) ∧ i.size = 1 ∧ i.bytes = 24 :=
  ⟨(Try.prog.info? 25).getD default, by kernel_rfl, by kernel_rfl, by kernel_rfl, by kernel_rfl⟩

/-- a row that can be written: its block, whole -/
structure Rw (w : World) (B g n c : Nat) : Prop where
  low : B ≤ g
  ex : ∃ cur, w.heap[g]? = some (.cells cur 37 (0, 0)) ∧ cur.size = c * 4
  n : n ≤ c
  c : c ≤ maxLen

theorem Rw.of_own {w : World} {B g n c : Nat} {xs : List Value} (h : w.ownsRow B 37 4 (.slice (some ⟨g, 0, none⟩) n c) n xs) : Rw w B g n c := by
  rcases h.2 with ⟨h1, _⟩ | ⟨g2, c2, cur, h1, h2, h3, h4, h5, h6, h7⟩
  · cases h1
  · injection h1 with h1 _ hc
    injection h1 with h1
    injection h1 with h1
    subst h1 hc
    exact ⟨h2, ⟨cur, h3, h6⟩, h4, h5⟩
theorem Rw.own {w : World} {B g n c : Nat} (h : Rw w B g n c) : ∃ xs, w.ownsRow B 37 4 (.slice (some ⟨g, 0, none⟩) n c) n xs := by
  obtain ⟨cur, h1, h2⟩ := h.ex
  refine ⟨cur.toList.take (n * 4), ?_, .inr ⟨g, c, cur, rfl, h.low, h1, h.n, h.c, h2, rfl⟩⟩
  have := h.n
  simp; omega
theorem Rw.lt {w : World} {B g n c : Nat} (h : Rw w B g n c) : g < w.heap.size := by
  obtain ⟨cur, h1, _⟩ := h.ex
  exact (Array.getElem?_eq_some_iff.1 h1).1
theorem Rw.cell {w : World} {B g n c : Nat} (h : Rw w B g n c) (o : Nat) (ho : o < n * 4) : ∃ u, w.cell? ⟨g, o, none⟩ = some u := by
  obtain ⟨cur, h1, h2⟩ := h.ex
  have := h.n
  have hlt : o < cur.size := by omega
  refine ⟨cur[o], ?_⟩
  unfold World.cell?
  rw [h1]
  simp [hlt]
theorem Rw.frozen {w : World} {B g n c : Nat} (h : Rw w B g n c) (o : Nat) : w.frozen? ⟨g, o, none⟩ = false := by
  obtain ⟨cur, h1, h2⟩ := h.ex
  unfold World.frozen?
  rw [h1]
  simp
theorem Rw.set {w : World} {B g n c : Nat} (h : Rw w B g n c) (g2 o : Nat) (u : Value) : Rw (w.setCell ⟨g2, o, none⟩ u) B g n c := by
  obtain ⟨cur, h1, h2⟩ := h.ex
  by_cases hg : g = g2
  · subst hg
    have hh : (w.setCell ⟨g, o, none⟩ u).heap[g]? = some (.cells (cur.setIfInBounds o u) 37 (0, 0)) := by
      unfold World.setCell
      simp [Array.getElem?_modify, h1]
    exact ⟨h.low, ⟨_, hh, by simpa using h2⟩, h.n, h.c⟩
  · exact ⟨h.low, ⟨cur, by rw [Below.heap_setCell _ _ _ _ hg]; exact h1, h2⟩, h.n, h.c⟩
theorem Rw.grown {w w' : World} {B g n c : Nat} {row : Option Nat} (h : Rw w B g n c) (hg : w.grownBy w' row) (hne : some g ≠ row) : Rw w' B g n c := by
  obtain ⟨cur, h1, h2⟩ := h.ex
  exact ⟨h.low, ⟨cur, by rw [hg.block g h.lt hne]; exact h1, h2⟩, h.n, h.c⟩

end Go.Proofs.Ythnnmgiihpdblab
