/- Both Writers at once: one call of both. -/
import Derived.Test.YthnnmgiihpdblaaDoorXw
namespace Go.Proofs.YthnnmgiihpdblaaDoor
open Go.RowKit

/-- Both Writers hold the same. -/
structure WW (w : World) (p q : Nat) (v : Value) (M : Int) (S : ByteArray) (E : Int) : Prop where
  pw : PW w p v M (Lib.strCells S) E
  rw : RW w q S M E
  pq : p ≠ q
  qv : some q ≠ v.ownBlock

/-- What stays but both Writers' blocks and the row of the program's. -/
structure KB (p q : Nat) (v v' : Value) (w w' : World) : Prop where
  os : w'.os = w.os
  tape : w'.tape = w.tape
  output : w'.output = w.output
  size : w.heap.size ≤ w'.heap.size
  block : ∀ b, b < w.heap.size → b ≠ p → b ≠ q → some b ≠ v.ownBlock → w'.heap[b]? = w.heap[b]?
  row : v'.ownBlock = v.ownBlock ∨ ∃ g, w.heap.size ≤ g ∧ v'.ownBlock = some g

/-- Between the two calls. -/
structure WB (w0 w : World) (p q : Nat) (v0 v : Value) (M : Int) (S T : ByteArray) (E F : Int) : Prop where
  pw : PW w p v M (Lib.strCells T) F
  rw : RW w q S M E
  pq : p ≠ q
  qv : some q ≠ v.ownBlock
  kb : KB p q v0 v w0 w

theorem WW.first {w w1 : World} {p q : Nat} {v : Value} {M : Int} {S : ByteArray} {E : Int} {r : ByteArray × Int} {e : Ending} (h : WW w p q v M S E) (hp : PWrote p v M r w e w1) :
    e = .returned (.tuple #[]) ∧ ∃ v', WB w w1 p q v v' M S r.1 E r.2 := by
  obtain ⟨h1, v', h2, h3⟩ := hp
  refine ⟨h1, v', h2, h.rw.of_block (h3.block q h.rw.lt (fun e => h.pq e.symm) h.qv), h.pq, ?_, ⟨h3.os, h3.tape, h3.output, h3.size, fun b hb hp _ hv => h3.block b hb hp hv, h3.row⟩⟩
  rcases h3.row with e1 | ⟨g, hg, e1⟩
  · rw [e1]; exact h.qv
  · rw [e1]; intro e2; cases e2; have := h.rw.lt; omega

theorem PW.only {w w' : World} {p q : Nat} {v : Value} {M E : Int} {xs : List Value} (h : PW w p v M xs E) (hO : Only q w w') (hpq : p ≠ q) (hqv : some q ≠ v.ownBlock) : PW w' p v M xs E := by
  have hb : w'.heap[p]? = w.heap[p]? := hO.block p h.lt hpq
  have hg : w.grownBy w' (some q) := ⟨hO.os, hO.tape, hO.output, hO.size, fun k hk hk2 => hO.block k hk (fun e => hk2 (by rw [e]))⟩
  exact ⟨(cells_of_block hb 0).1.trans h.m, (cells_of_block hb 1).1.trans h.s, (cells_of_block hb 2).1.trans h.e, (cells_of_block hb 1).2.trans h.f1, (cells_of_block hb 2).2.trans h.f2,
    h.own.kept hg (.inr fun e => hqv e.symm)⟩

theorem WB.below {w0 w w1 : World} {p q : Nat} {v0 v : Value} {M : Int} {S T : ByteArray} {E F : Int} (h : WB w0 w p q v0 v M S T E F) (hB : Below w.heap.size w w1) : WB w0 w1 p q v0 v M S T E F :=
  ⟨h.pw.below hB, h.rw.below hB, h.pq, h.qv, ⟨hB.os.trans h.kb.os, hB.tape.trans h.kb.tape, hB.output.trans h.kb.output, Nat.le_trans h.kb.size hB.size,
    fun b hb h1 h2 h3 => (hB.block b (Nat.lt_of_lt_of_le hb h.kb.size)).trans (h.kb.block b hb h1 h2 h3), h.kb.row⟩⟩

theorem WB.second {w0 w w1 : World} {p q : Nat} {v0 v : Value} {M : Int} {S : ByteArray} {E : Int} {r : ByteArray × Int} {e : Ending} (h : WB w0 w p q v0 v M S r.1 E r.2) (hp : Wrote q M r w e w1) :
    e = .returned (.tuple #[]) ∧ WW w1 p q v M r.1 r.2 ∧ KB p q v0 v w0 w1 := by
  obtain ⟨h1, h2, h3⟩ := hp
  exact ⟨h1, ⟨h.pw.only h3 h.pq h.qv, h2, h.pq, h.qv⟩, ⟨h3.os.trans h.kb.os, h3.tape.trans h.kb.tape, h3.output.trans h.kb.output, Nat.le_trans h.kb.size h3.size,
    fun b hb hb1 hb2 hb3 => (h3.block b (Nat.lt_of_lt_of_le hb h.kb.size) hb2).trans (h.kb.block b hb hb1 hb2 hb3), h.kb.row⟩⟩

/-- Where the document notes what is wrong and then lays down, nothing is laid down. -/
theorem rlay_failed (M : Int) (S s : ByteArray) (E F : Int) (hF : F ≠ 0) : rlay M S (firstE E F) s = (S, firstE E F) := by
  unfold rlay firstE
  by_cases hE : E = 0
  · rw [if_pos hE, if_pos hF]
  · rw [if_neg hE, if_pos hE]

theorem rlay_size (M : Int) (S s : ByteArray) (E : Int) : (rlay M S E s).1.size ≤ S.size + s.size := by
  unfold rlay
  split
  · exact Nat.le_add_right _ _
  · split
    · exact Nat.le_add_right _ _
    · rw [ByteArray.size_append]; exact Nat.le_refl _

end Go.Proofs.YthnnmgiihpdblaaDoor
