/- The document's shelf: Drop, New. -/
import Derived.Test.YtkkamilmjaochaaPBc
namespace Go.Proofs.Ytkkamilmjaochaa
open Go.RowKit
theorem decoy {D P : Prop} (_ : D) (h : Hid P) : P := h
inductive DropR (L : List Pr) (k : KeyP) : Int → List Pr → Prop
  | none : (∀ y ∈ L, y.k ≠ k) → DropR L k 141 L
  | some (L1 L2 : List Pr) (y : Pr) : L = L1 ++ y :: L2 → y.k = k → (∀ z ∈ L1, z.k ≠ k) → DropR L k 0 (L1 ++ L2)
theorem cut_to (g n cap j : Nat) (hj : j ≤ cap) (w : World) : (Instr.slice 103 (.slice (some ⟨g, 0, none⟩) n cap) none (some (.int .i64 (j : Int))) none).run Try.prog w = .ok (.slice (some ⟨g, 0, none⟩) j cap) w := by
  obtain ⟨i, hi, _, _, _⟩ := info159
  simp [Instr.slice, run_underlying Try.underlying103, Instr.sliceBounds, Instr.sliceBound, asIntOf, sizeOf, typeInfo, hi, Addr.add]
  exact fun h => absurd h (by omega)
theorem cut_from (g n cap j : Nat) (hj : j ≤ n) (w : World) : (Instr.slice 103 (.slice (some ⟨g, 0, none⟩) n cap) (some (.int .i64 (j : Int))) none none).run Try.prog w = .ok (.slice (if cap = j then some ⟨g, 0, none⟩ else some ⟨g, j * 3, none⟩) (n - j) (cap - j)) w := by
  obtain ⟨i, hi, _, hs, _⟩ := info159
  simp [Instr.slice, run_underlying Try.underlying103, Instr.sliceBounds, Instr.sliceBound, asIntOf, sizeOf, typeInfo, hi, hs, Go.WideShapes.add_plain]
  exact fun h => absurd h (by omega)
section
variable {K K' : Nat → Nat} {w w' : World} {B t x most : Nat} {v : Value} {L L1 L2 : List Pr} {y : Pr}
theorem drop_rows {g n cap : Nat} (h : DS K w B t x most (.slice (some ⟨g, 0, none⟩) n cap) (L1 ++ y :: L2)) (hn : (L1 ++ y :: L2).length = n) (hB : B ≤ w.heap.size) (hl : n ≤ 10000000) {oad : Option Addr} {ad : Addr} (hoad : oad = some ad) (had : 0 < L2.length → ad = ⟨g, (L1.length + 1) * 3, none⟩) (c2 : Nat) :
    ∃ o1 c1 w1 o2 c3 w2, (∀ r, (Builtin.append_ #[103, 103] r #[.slice none 0 0, .slice (some ⟨g, 0, none⟩) L1.length cap]).run Try.prog w = .ok (.slice o1 L1.length c1) w1) ∧ w1.cell? ⟨x, 1, none⟩ = some (.slice (some ⟨g, 0, none⟩) n cap) ∧
      (∀ r, (Builtin.append_ #[103, 103] r #[.slice o1 L1.length c1, .slice oad L2.length c2]).run Try.prog w1 = .ok (.slice o2 (L1.length + L2.length) c3) w2) ∧ w2.cell? ⟨x, 1, none⟩ = some (.slice (some ⟨g, 0, none⟩) n cap) ∧ w2.frozen? ⟨x, 1, none⟩ = false ∧
      DS (ext w K (fun _ => t + 1)) (w2.setCell ⟨x, 1, none⟩ (.slice o2 (L1.length + L2.length) c3)) B t x most (.slice o2 (L1.length + L2.length) c3) (L1 ++ L2) ∧ Mv (T2 t) w (w2.setCell ⟨x, 1, none⟩ (.slice o2 (L1.length + L2.length) c3)) K (ext w K (fun _ => t + 1)) := by
  obtain ⟨i, hi, hz, hs, hby⟩ := info159
  subst hoad
  have hlen : L1.length + L2.length + 1 = n := by rw [← hn]; simp; omega
  have hcell : ∀ a : Nat, a < n * 3 → w.cell? ⟨g, a, none⟩ = ((L1 ++ y :: L2).flatMap prC)[a]? := fun a ha => by
    have ho := h.l.own
    rw [hn] at ho
    exact ho.cellAt a ha
  have hfl : (L1 ++ y :: L2).flatMap prC = L1.flatMap prC ++ (prC y ++ L2.flatMap prC) := by simp
  have l1 := fm_len prL L1
  have l2 := fm_len prL L2
  have hone : ∀ (M : List Pr), ∀ u ∈ M.flatMap prC, u.oneCell' = true := fun M u hu => by
    obtain ⟨z, _, hz⟩ := List.mem_flatMap.1 hu
    exact prO z u hz
  obtain ⟨v1, w1, r1, o1, g1, _, a1⟩ := run_append_own_at (P := Try.prog) w w.heap.size 103 0 159 i _ 3 32 Try.underlying103 hi hz hs hby rfl (by omega) (.slice none 0 0) 0 [] ⟨rfl, .inl ⟨rfl, rfl⟩⟩ ⟨g, 0, none⟩ L1.length cap (L1.flatMap prC) (by rw [l1])
    (fun j u hu => by
      have hj : j < L1.length * 3 := by rw [← l1]; exact (List.getElem?_eq_some_iff.1 hu).1
      rw [Go.WideShapes.add_plain, Nat.zero_add, hcell j (by omega), hfl, List.getElem?_append_left (by omega)]
      exact hu) (hone L1) (by unfold maxLen; omega) (by omega) (Nat.le_refl _)
  rw [Nat.zero_add, List.nil_append] at o1
  have f1 : ∃ oo cc, v1 = .slice oo L1.length cc := by
    rcases o1.2 with ⟨e1, e2⟩ | ⟨gg, cc, _, e1, _⟩
    · exact ⟨none, 0, by rw [e2]; exact e1⟩
    · exact ⟨_, _, e1⟩
  obtain ⟨oo, cc, rfl⟩ := f1
  have b1 : ∀ b, b < w.heap.size → w1.heap[b]? = w.heap[b]? := fun b hb => g1.block b hb (fun e => by cases e)
  have hgl : g < w.heap.size := (h.l.own.lt g rfl).2
  obtain ⟨v2, w2, r2, o2, g2, _, a2⟩ := run_append_own_at (P := Try.prog) w1 w.heap.size 103 0 159 i _ 3 32 Try.underlying103 hi hz hs hby rfl (by omega) (.slice oo L1.length cc) L1.length (L1.flatMap prC) o1 ad L2.length c2 (L2.flatMap prC) (by rw [l2])
    (fun j u hu => by
      have hj : j < L2.length * 3 := by rw [← l2]; exact (List.getElem?_eq_some_iff.1 hu).1
      rw [had (by omega), Go.WideShapes.add_plain]
      have e1 : w1.cell? ⟨g, (L1.length + 1) * 3 + j, none⟩ = w.cell? ⟨g, (L1.length + 1) * 3 + j, none⟩ := World.cell?_of_block (a := ⟨g, (L1.length + 1) * 3 + j, none⟩) (b1 g hgl)
      rw [e1, hcell _ (by omega), hfl, List.getElem?_append_right (by omega), List.getElem?_append_right (by rw [prL]; omega), prL, l1, show (L1.length + 1) * 3 + j - L1.length * 3 - 3 = j by omega]
      exact hu) (hone L2) (by unfold maxLen; omega) (by omega) g1.size
  have f2 : ∃ oo cc, v2 = .slice oo (L1.length + L2.length) cc := by
    rcases o2.2 with ⟨e1, e2⟩ | ⟨gg, cc, _, e1, _⟩
    · exact ⟨none, 0, by rw [e2]; exact e1⟩
    · exact ⟨_, _, e1⟩
  obtain ⟨oo2, cc2, rfl⟩ := f2
  have b2 : ∀ b, b < w.heap.size → w2.heap[b]? = w.heap[b]? := fun b hb => (g2.block b (Nat.lt_of_lt_of_le hb g1.size) (fun e => by have := (o1.lt b e.symm).1; omega)).trans (b1 b hb)
  have me1 := (b1 x h.me.lt).trans h.me.at_
  have me2 := (b2 x h.me.lt).trans h.me.at_
  refine ⟨oo, cc, w1, oo2, cc2, w2, fun r => r1, by unfold World.cell?; rw [me1]; rfl, fun r => r2, by unfold World.cell?; rw [me2]; rfl, by unfold World.frozen?; rw [me2]; rfl, ⟨⟨?_, (ext_old h.me.lt).trans h.me.k⟩, ?_, ?_⟩, ⟨g2.os.trans g1.os, g2.tape.trans g1.tape, g2.output.trans g1.output, ?_, fun _ hb => ext_old hb, fun b hb ht => ?_⟩⟩
  · unfold World.setCell; simp [Array.getElem?_modify, me2]
  · have hx : ∀ gg, (Value.slice oo2 (L1.length + L2.length) cc2).ownBlock = some gg → gg ≠ x := fun gg hgg e => by have := (o2.lt gg hgg).1; have := h.me.lt; omega
    have o3 := own_block o2 (fun gg hgg => Below.heap_setCell w2 ⟨x, 1, none⟩ (.slice oo2 (L1.length + L2.length) cc2) gg (hx gg hgg))
    have o4 := own_mono o3 hB
    rw [← List.flatMap_append] at o4
    rw [List.length_append]
    exact o4
  · intro gg hgg
    exact ext_new (o2.lt gg hgg).1
  · have := g1.size; have := g2.size; simp [World.setCell]; omega
  · refine (Below.heap_setCell w2 ⟨x, 1, none⟩ _ b (fun e => ht ?_)).trans (b2 b hb)
    left
    have e' : b = x := e
    rw [e']; exact h.me.k
end
end Go.Proofs.Ytkkamilmjaochaa
