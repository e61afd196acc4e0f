/- Two pairs of Writers at once: what a call of the one pair leaves of the other. -/
import Derived.Test.YthnnmgiihpdblaaDoorXy
namespace Go.Proofs.YthnnmgiihpdblaaDoor
open Go.RowKit

theorem ownsRow_of_block {w w' : World} {base : Nat} {e : TypeId} {size : Nat} {v : Value} {n : Nat} {xs : List Value} (h : w.ownsRow base e size v n xs)
    (hb : ∀ g, v.ownBlock = some g → w'.heap[g]? = w.heap[g]?) : w'.ownsRow base e size v n xs := by
  refine ⟨h.1, ?_⟩
  rcases h.2 with hn | ⟨g, cap, cur, rfl, h1, hgg, rest⟩
  · exact .inl hn
  · exact .inr ⟨g, cap, cur, rfl, h1, (hb g rfl).trans hgg, rest⟩

theorem PW.of_blocks {w w' : World} {p : Nat} {v : Value} {M E : Int} {xs : List Value} (h : PW w p v M xs E) (hp : w'.heap[p]? = w.heap[p]?) (hg : ∀ g, v.ownBlock = some g → w'.heap[g]? = w.heap[g]?) : PW w' p v M xs E :=
  ⟨(cells_of_block hp 0).1.trans h.m, (cells_of_block hp 1).1.trans h.s, (cells_of_block hp 2).1.trans h.e, (cells_of_block hp 1).2.trans h.f1, (cells_of_block hp 2).2.trans h.f2, ownsRow_of_block h.own hg⟩

theorem WW.of_blocks {w w' : World} {p q : Nat} {v : Value} {M : Int} {S : ByteArray} {E : Int} (h : WW w p q v M S E) (hp : w'.heap[p]? = w.heap[p]?) (hq : w'.heap[q]? = w.heap[q]?) (hg : ∀ g, v.ownBlock = some g → w'.heap[g]? = w.heap[g]?) : WW w' p q v M S E :=
  ⟨h.pw.of_blocks hp hg, h.rw.of_block hq, h.pq, h.qv⟩

/-- The blocks of one pair of Writers. -/
def Mine (p q : Nat) (v : Value) (b : Nat) : Prop := b = p ∨ b = q ∨ v.ownBlock = some b

/-- Two pairs, none of whose blocks is the other's, all of them new. -/
structure Two (n0 : Nat) (w : World) (p q : Nat) (v : Value) (M : Int) (S : ByteArray) (E : Int) (p2 q2 : Nat) (v2 : Value) (M2 : Int) (S2 : ByteArray) (E2 : Int) : Prop where
  a : WW w p q v M S E
  b : WW w p2 q2 v2 M2 S2 E2
  np : n0 ≤ p
  nq : n0 ≤ q
  np2 : n0 ≤ p2
  nq2 : n0 ≤ q2
  apart : ∀ x, Mine p q v x → Mine p2 q2 v2 x → False

theorem Two.swap {n0 : Nat} {w : World} {p q : Nat} {v : Value} {M : Int} {S : ByteArray} {E : Int} {p2 q2 : Nat} {v2 : Value} {M2 : Int} {S2 : ByteArray} {E2 : Int} (h : Two n0 w p q v M S E p2 q2 v2 M2 S2 E2) : Two n0 w p2 q2 v2 M2 S2 E2 p q v M S E :=
  ⟨h.b, h.a, h.np2, h.nq2, h.np, h.nq, fun x h1 h2 => h.apart x h2 h1⟩

theorem WW.mine_lt {w : World} {p q : Nat} {v : Value} {M : Int} {S : ByteArray} {E : Int} (h : WW w p q v M S E) (x : Nat) (hx : Mine p q v x) : x < w.heap.size := by
  rcases hx with rfl | rfl | e
  · exact h.pw.lt
  · exact h.rw.lt
  · exact (h.pw.own.lt x e).2

theorem KB.same {p q : Nat} {v v' : Value} {w w' : World} (k : KB p q v v' w w') (b : Nat) (hb : b < w.heap.size) (hm : ¬ Mine p q v b) : w'.heap[b]? = w.heap[b]? :=
  k.block b hb (fun e => hm (.inl e)) (fun e => hm (.inr (.inl e))) (fun e => hm (.inr (.inr e.symm)))

theorem Two.step {n0 : Nat} {w w' : World} {p q : Nat} {v v' : Value} {M : Int} {S S' : ByteArray} {E E' : Int} {p2 q2 : Nat} {v2 : Value} {M2 : Int} {S2 : ByteArray} {E2 : Int} (h : Two n0 w p q v M S E p2 q2 v2 M2 S2 E2)
    (hw : WW w' p q v' M S' E') (k : KB p q v v' w w') : Two n0 w' p q v' M S' E' p2 q2 v2 M2 S2 E2 := by
  have hs : ∀ x, Mine p2 q2 v2 x → w'.heap[x]? = w.heap[x]? := fun x hx => k.same x (h.b.mine_lt x hx) (fun h1 => h.apart x h1 hx)
  refine ⟨hw, h.b.of_blocks (hs p2 (.inl rfl)) (hs q2 (.inr (.inl rfl))) (fun g hg => hs g (.inr (.inr hg))), h.np, h.nq, h.np2, h.nq2, fun x h1 h2 => ?_⟩
  rcases h1 with e | e | e
  · exact h.apart x (.inl e) h2
  · exact h.apart x (.inr (.inl e)) h2
  · rcases k.row with r | ⟨g, hg, r⟩
    · exact h.apart x (.inr (.inr (r ▸ e))) h2
    · rw [r] at e
      have e2 : g = x := Option.some.inj e
      have := h.b.mine_lt x h2
      omega

/-- What stays of a call: all blocks that are not new. -/
theorem Two.old {n0 : Nat} {w w' : World} {p q : Nat} {v v' : Value} {M : Int} {S : ByteArray} {E : Int} {p2 q2 : Nat} {v2 : Value} {M2 : Int} {S2 : ByteArray} {E2 : Int} (h : Two n0 w p q v M S E p2 q2 v2 M2 S2 E2)
    (k : KB p q v v' w w') (hn : n0 ≤ w.heap.size) {w0 : World} (hB : Below n0 w0 w) : Below n0 w0 w' := by
  refine ⟨k.os.trans hB.os, k.tape.trans hB.tape, k.output.trans hB.output, Nat.le_trans hB.size k.size, fun b hb => ?_⟩
  refine (k.same b (Nat.lt_of_lt_of_le hb hn) ?_).trans (hB.block b hb)
  rintro (e | e | e)
  · have := h.np; omega
  · have := h.nq; omega
  · have := (h.a.pw.own.lt b e).1
    have := h.np
    omega

theorem Two.below {n0 : Nat} {w w' : World} {p q : Nat} {v : Value} {M : Int} {S : ByteArray} {E : Int} {p2 q2 : Nat} {v2 : Value} {M2 : Int} {S2 : ByteArray} {E2 : Int} (h : Two n0 w p q v M S E p2 q2 v2 M2 S2 E2)
    (hB : Below w.heap.size w w') : Two n0 w' p q v M S E p2 q2 v2 M2 S2 E2 :=
  ⟨h.a.below hB, h.b.below hB, h.np, h.nq, h.np2, h.nq2, h.apart⟩

end Go.Proofs.YthnnmgiihpdblaaDoor
