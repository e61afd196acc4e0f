/- Services: structs laid into new blocks. -/
import Derived.Test.YtcpjihaicmlmjaaPSh
import Derived.Test.YtcpjihaicmlmjaaPSj
namespace Go.Proofs.Ytcpjihaicmlmjaa
open Go.RowKit
theorem below_set {B : Nat} {w w' : World} (h : Below B w w') {S : Nat} (hS : B ≤ S) (k : Nat) (v : Value) : Below B w (w'.setCell ⟨S, k, none⟩ v) :=
  ⟨h.os, h.tape, h.output, by simpa [World.setCell] using h.size, fun b hb => (Below.heap_setCell _ _ _ _ (show b ≠ S by omega)).trans (h.block b hb)⟩
theorem box4 (w : World) (ty : TypeId) (z0 z1 z2 z3 a0 a1 a2 a3 : Value) (S : Nat) (hS : w.heap.size = S) : ∃ w1 w2 w3 w4 w5, (w.alloc (.cells #[z0, z1, z2, z3] ty) = w1 ∧ w1.setCell ⟨S, 0, none⟩ a0 = w2 ∧ w2.setCell ⟨S, 1, none⟩ a1 = w3 ∧ w3.setCell ⟨S, 2, none⟩ a2 = w4 ∧ w4.setCell ⟨S, 3, none⟩ a3 = w5) ∧ (w1.cell? ⟨S, 0, none⟩ = some z0 ∧ w1.cell? ⟨S, 1, none⟩ = some z1 ∧ w1.cell? ⟨S, 2, none⟩ = some z2 ∧ w1.cell? ⟨S, 3, none⟩ = some z3 ∧ w2.cell? ⟨S, 1, none⟩ = some z1 ∧ w2.cell? ⟨S, 2, none⟩ = some z2 ∧ w2.cell? ⟨S, 3, none⟩ = some z3 ∧ w3.cell? ⟨S, 2, none⟩ = some z2 ∧ w3.cell? ⟨S, 3, none⟩ = some z3 ∧ w4.cell? ⟨S, 3, none⟩ = some z3) ∧ ((∀ n, w1.frozen? ⟨S, n, none⟩ = false) ∧ (∀ n, w2.frozen? ⟨S, n, none⟩ = false) ∧ (∀ n, w3.frozen? ⟨S, n, none⟩ = false) ∧ (∀ n, w4.frozen? ⟨S, n, none⟩ = false)) ∧ w5.heap[S]? = some (.cells #[a0, a1, a2, a3] ty) ∧ Below w.heap.size w w5 ∧ w5.heap.size = S + 1 := by
  refine ⟨_, _, _, _, _, ⟨rfl, rfl, rfl, rfl, rfl⟩, ?_⟩
  obtain ⟨w1, e1⟩ : ∃ w1, w.alloc (.cells #[z0, z1, z2, z3] ty) = w1 := ⟨_, rfl⟩
  rw [e1]
  have k1 : w1.heap[S]? = some (.cells #[z0, z1, z2, z3] ty) := by rw [← e1, ← hS]; exact (MapKept.heap_alloc w _).1
  have s1 : w1.heap.size = S + 1 := by rw [← e1, ← hS]; simp
  have b1 : Below w.heap.size w w1 := by rw [← e1]; exact (Below.refl _ _).alloc (Nat.le_refl _) _
  obtain ⟨w2, e2⟩ : ∃ x, w1.setCell ⟨S, 0, none⟩ a0 = x := ⟨_, rfl⟩
  rw [e2]
  have k2 : w2.heap[S]? = some (.cells #[a0, z1, z2, z3] ty) := by rw [← e2]; unfold World.setCell; simp [Array.getElem?_modify, k1]
  have s2 : w2.heap.size = S + 1 := by rw [← e2]; simpa [World.setCell] using s1
  have b2 : Below w.heap.size w w2 := by rw [← e2]; exact below_set b1 (Nat.le_of_eq hS) _ _
  obtain ⟨w3, e3⟩ : ∃ x, w2.setCell ⟨S, 1, none⟩ a1 = x := ⟨_, rfl⟩
  rw [e3]
  have k3 : w3.heap[S]? = some (.cells #[a0, a1, z2, z3] ty) := by rw [← e3]; unfold World.setCell; simp [Array.getElem?_modify, k2]
  have s3 : w3.heap.size = S + 1 := by rw [← e3]; simpa [World.setCell] using s2
  have b3 : Below w.heap.size w w3 := by rw [← e3]; exact below_set b2 (Nat.le_of_eq hS) _ _
  obtain ⟨w4, e4⟩ : ∃ x, w3.setCell ⟨S, 2, none⟩ a2 = x := ⟨_, rfl⟩
  rw [e4]
  have k4 : w4.heap[S]? = some (.cells #[a0, a1, a2, z3] ty) := by rw [← e4]; unfold World.setCell; simp [Array.getElem?_modify, k3]
  have s4 : w4.heap.size = S + 1 := by rw [← e4]; simpa [World.setCell] using s3
  have b4 : Below w.heap.size w w4 := by rw [← e4]; exact below_set b3 (Nat.le_of_eq hS) _ _
  obtain ⟨w5, e5⟩ : ∃ x, w4.setCell ⟨S, 3, none⟩ a3 = x := ⟨_, rfl⟩
  rw [e5]
  have k5 : w5.heap[S]? = some (.cells #[a0, a1, a2, a3] ty) := by rw [← e5]; unfold World.setCell; simp [Array.getElem?_modify, k4]
  have s5 : w5.heap.size = S + 1 := by rw [← e5]; simpa [World.setCell] using s4
  have b5 : Below w.heap.size w w5 := by rw [← e5]; exact below_set b4 (Nat.le_of_eq hS) _ _
  exact ⟨⟨by unfold World.cell?; rw [k1]; rfl, by unfold World.cell?; rw [k1]; rfl, by unfold World.cell?; rw [k1]; rfl, by unfold World.cell?; rw [k1]; rfl, by unfold World.cell?; rw [k2]; rfl, by unfold World.cell?; rw [k2]; rfl, by unfold World.cell?; rw [k2]; rfl, by unfold World.cell?; rw [k3]; rfl, by unfold World.cell?; rw [k3]; rfl, by unfold World.cell?; rw [k4]; rfl⟩, ⟨fun n => by unfold World.frozen?; rw [k1]; rfl, fun n => by unfold World.frozen?; rw [k2]; rfl, fun n => by unfold World.frozen?; rw [k3]; rfl, fun n => by unfold World.frozen?; rw [k4]; rfl⟩, k5, b5, s5⟩
theorem box3 (w : World) (ty : TypeId) (z0 z1 z2 a0 a1 a2 : Value) (S : Nat) (hS : w.heap.size = S) : ∃ w1 w2 w3 w4, (w.alloc (.cells #[z0, z1, z2] ty) = w1 ∧ w1.setCell ⟨S, 0, none⟩ a0 = w2 ∧ w2.setCell ⟨S, 1, none⟩ a1 = w3 ∧ w3.setCell ⟨S, 2, none⟩ a2 = w4) ∧ (w1.cell? ⟨S, 0, none⟩ = some z0 ∧ w1.cell? ⟨S, 1, none⟩ = some z1 ∧ w1.cell? ⟨S, 2, none⟩ = some z2 ∧ w2.cell? ⟨S, 1, none⟩ = some z1 ∧ w2.cell? ⟨S, 2, none⟩ = some z2 ∧ w3.cell? ⟨S, 2, none⟩ = some z2) ∧ ((∀ n, w1.frozen? ⟨S, n, none⟩ = false) ∧ (∀ n, w2.frozen? ⟨S, n, none⟩ = false) ∧ (∀ n, w3.frozen? ⟨S, n, none⟩ = false)) ∧ w4.heap[S]? = some (.cells #[a0, a1, a2] ty) ∧ Below w.heap.size w w4 ∧ w4.heap.size = S + 1 := by
  refine ⟨_, _, _, _, ⟨rfl, rfl, rfl, rfl⟩, ?_⟩
  obtain ⟨w1, e1⟩ : ∃ w1, w.alloc (.cells #[z0, z1, z2] ty) = w1 := ⟨_, rfl⟩
  rw [e1]
  have k1 : w1.heap[S]? = some (.cells #[z0, z1, z2] ty) := by rw [← e1, ← hS]; exact (MapKept.heap_alloc w _).1
  have s1 : w1.heap.size = S + 1 := by rw [← e1, ← hS]; simp
  have b1 : Below w.heap.size w w1 := by rw [← e1]; exact (Below.refl _ _).alloc (Nat.le_refl _) _
  obtain ⟨w2, e2⟩ : ∃ x, w1.setCell ⟨S, 0, none⟩ a0 = x := ⟨_, rfl⟩
  rw [e2]
  have k2 : w2.heap[S]? = some (.cells #[a0, z1, z2] ty) := by rw [← e2]; unfold World.setCell; simp [Array.getElem?_modify, k1]
  have s2 : w2.heap.size = S + 1 := by rw [← e2]; simpa [World.setCell] using s1
  have b2 : Below w.heap.size w w2 := by rw [← e2]; exact below_set b1 (Nat.le_of_eq hS) _ _
  obtain ⟨w3, e3⟩ : ∃ x, w2.setCell ⟨S, 1, none⟩ a1 = x := ⟨_, rfl⟩
  rw [e3]
  have k3 : w3.heap[S]? = some (.cells #[a0, a1, z2] ty) := by rw [← e3]; unfold World.setCell; simp [Array.getElem?_modify, k2]
  have s3 : w3.heap.size = S + 1 := by rw [← e3]; simpa [World.setCell] using s2
  have b3 : Below w.heap.size w w3 := by rw [← e3]; exact below_set b2 (Nat.le_of_eq hS) _ _
  obtain ⟨w4, e4⟩ : ∃ x, w3.setCell ⟨S, 2, none⟩ a2 = x := ⟨_, rfl⟩
  rw [e4]
  have k4 : w4.heap[S]? = some (.cells #[a0, a1, a2] ty) := by rw [← e4]; unfold World.setCell; simp [Array.getElem?_modify, k3]
  have s4 : w4.heap.size = S + 1 := by rw [← e4]; simpa [World.setCell] using s3
  have b4 : Below w.heap.size w w4 := by rw [← e4]; exact below_set b3 (Nat.le_of_eq hS) _ _
  exact ⟨⟨by unfold World.cell?; rw [k1]; rfl, by unfold World.cell?; rw [k1]; rfl, by unfold World.cell?; rw [k1]; rfl, by unfold World.cell?; rw [k2]; rfl, by unfold World.cell?; rw [k2]; rfl, by unfold World.cell?; rw [k3]; rfl⟩, ⟨fun n => by unfold World.frozen?; rw [k1]; rfl, fun n => by unfold World.frozen?; rw [k2]; rfl, fun n => by unfold World.frozen?; rw [k3]; rfl⟩, k4, b4, s4⟩
/-- numbers in memory, with a tag -/
def GsT (K : Nat → Nat) (w : World) (t : Nat) (oa : Option Addr) (gs : List Int) : Prop := 0 < gs.length → ∃ q off, oa = some ⟨q, off, none⟩ ∧ q < w.heap.size ∧ K q = t ∧ ∀ i, i < gs.length → w.cell? ⟨q, off + i, none⟩ = some (.int .i64 (gs.getD i 0))
theorem GsT.at_ {K : Nat → Nat} {w : World} {t : Nat} {oa : Option Addr} {gs : List Int} (h : GsT K w t oa gs) : GsAt w w.heap.size oa gs := fun h0 => by
  obtain ⟨q, off, e1, e2, _, e3⟩ := h h0
  exact ⟨q, off, e1, e2, e3⟩
theorem GsT.mv {T : Nat → Prop} {K K' : Nat → Nat} {w w' : World} {t : Nat} {oa : Option Addr} {gs : List Int} (h : GsT K w t oa gs) (m : Mv T w w' K K') (ht : ¬ T t) : GsT K' w' t oa gs := fun h0 => by
  obtain ⟨q, off, e1, e2, e3, e4⟩ := h h0
  exact ⟨q, off, e1, Nat.lt_of_lt_of_le e2 m.size, (m.old q e2).trans e3, fun i hi => (cell_of_block (m.kept q e2 (by rw [e3]; exact ht))).trans (e4 i hi)⟩
theorem GsN.tag {K N : Nat → Nat} {w w' : World} {t : Nat} {oa : Option Addr} {gs : List Int} (h : GsN w' w.heap.size oa gs) (hN : ∀ b, N b = t) : GsT (ext w K N) w' t oa gs := fun h0 => by
  obtain ⟨q, off, e1, e2, e3, e4⟩ := h h0
  exact ⟨q, off, e1, e3, (ext_new e2).trans (hN q), e4⟩
def svC (s : Sv) : List Value := [.int .i64 s.prog, .int .i64 s.vers, .slice s.oa s.procs.length s.cap, hd]
def rvC (s : Sv) : List Value := [.int .i64 s.prog, .int .i64 s.vers, .slice s.oa s.procs.length s.cap]
theorem svC_len (s : Sv) : (svC s).length = 4 := rfl
theorem rvC_len (s : Sv) : (rvC s).length = 3 := rfl
def okS (s : Sv) : Prop := isW s.prog = true ∧ isW s.vers = true ∧ riseP 0 s.procs = true ∧ s.procs.length ≤ 17592186044416
/-- the program's registry: its block bears the tag t; what lies below it is never written again, and bears the tag 7 -/
structure PR (K : Nat → Nat) (w : World) (t p : Nat) (oa : Option Addr) (cap : Nat) (L : List Sv) : Prop where
  hd : TB K w t p (.cells #[.slice oa L.length cap] 52 (0, 0))
  row : RW 48 4 svC K w 0 7 (.slice oa L.length cap) L
  gs : ∀ s, s ∈ L → GsT K w 7 s.oa s.procs
  ok : ∀ s, s ∈ L → okS s
  most : L.length ≤ 16
section
variable {K K' : Nat → Nat} {w w' : World} {t p : Nat} {oa : Option Addr} {cap : Nat} {L : List Sv}
theorem PR.mv {T : Nat → Prop} (h : PR K w t p oa cap L) (m : Mv T w w' K K') (ht : ¬ T t) (h7 : ¬ T 7) : PR K' w' t p oa cap L :=
  ⟨h.hd.mv m ht, h.row.mv m h7, fun s hs => (h.gs s hs).mv m h7, h.ok, h.most⟩
theorem PR.c0 (h : PR K w t p oa cap L) : w.cell? ⟨p, 0, none⟩ = some (.slice oa L.length cap) := by unfold World.cell?; rw [h.hd.at_]; rfl
theorem PR.f0 (h : PR K w t p oa cap L) : w.frozen? ⟨p, 0, none⟩ = false := by unfold World.frozen?; rw [h.hd.at_]; rfl
theorem PR.below (h : PR K w t p oa cap L) (hb : Below w.heap.size w w') (N : Nat → Nat) : PR (ext w K N) w' t p oa cap L := h.mv (Mv.of_below hb K N) (fun h => h) (fun h => h)
/-- where the services lie -/
theorem PR.at_ (h : PR K w t p oa cap L) (h0 : 0 < L.length) : ∃ g, oa = some ⟨g, 0, none⟩ ∧ g < w.heap.size ∧ ∀ j s, L[j]? = some s → ∀ k, k < 4 → w.cell? ⟨g, j * 4 + k, none⟩ = (svC s)[k]? := by
  obtain ⟨oa', cap', e, _, hg⟩ := h.row.form
  obtain ⟨g, rfl⟩ := hg h0
  cases e
  exact ⟨g, rfl, (h.row.own.lt g rfl).2, fun j s hs k hk => h.row.cell svC_len rfl hs k hk⟩
end
end Go.Proofs.Ytcpjihaicmlmjaa
