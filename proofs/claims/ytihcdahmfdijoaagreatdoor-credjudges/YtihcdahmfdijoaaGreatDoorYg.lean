/- The Reader of the chapter's example: a word, a text of three bytes, the end. -/
import Derived.Test.YtihcdahmfdijoaaGreatDoorHx6
namespace Go.Proofs.YtihcdahmfdijoaaGreatDoor
open Go.RowKit
/-- A Reader of the program's: what is left, what was wrong first. -/
structure PR (w : World) (p : Nat) (L : ByteArray) (E : Int) : Prop where
  l : w.cell? ⟨p, 0, none⟩ = some (.string L)
  e : w.cell? ⟨p, 1, none⟩ = some (trV E)
  f0 : w.frozen? ⟨p, 0, none⟩ = false
  f1 : w.frozen? ⟨p, 1, none⟩ = false

theorem PR.lt {w : World} {p : Nat} {L : ByteArray} {E : Int} (h : PR w p L E) : p < w.heap.size := by
  rcases Nat.lt_or_ge p w.heap.size with h1 | h1
  · exact h1
  · have := h.l
    simp [World.cell?, Array.getElem?_eq_none h1] at this

theorem PR.of_block {w w' : World} {p : Nat} {L : ByteArray} {E : Int} (h : PR w p L E) (hb : w'.heap[p]? = w.heap[p]?) : PR w' p L E :=
  ⟨(cells_of_block hb 0).1.trans h.l, (cells_of_block hb 1).1.trans h.e, (cells_of_block hb 0).2.trans h.f0, (cells_of_block hb 1).2.trans h.f1⟩

theorem PR.new (s : ByteArray) (w : World) : PR (w.alloc (.cells #[.string s, .nilIface] 81)) w.heap.size s 0 := by
  refine ⟨?_, ?_, ?_, ?_⟩ <;> simp [trV]

end Go.Proofs.YtihcdahmfdijoaaGreatDoor
