/- The law's own functions: known, ints. -/
import Derived.Test.YtfcbjcebkahehaaGreatDoorZan
namespace Go.Proofs.YtfcbjcebkahehaaGreatDoor
open Go.RowKit
def knS : SysP := ⟨7, [97, 98], 1, 2, [3]⟩
theorem OwnI.gsAt {w : World} {base : Nat} {a : Option Addr} {n cap : Nat} {gs : List Int} (h : OwnI w base (.slice a n cap) gs) : GsAt w w.heap.size a gs := fun h0 => by
  rcases h.2 with ⟨h1, h2⟩ | ⟨g, c, cur, h1, h3⟩
  · omega
  · cases h1
    refine ⟨g, 0, rfl, (h.lt g rfl).2, fun i hi => ?_⟩
    have := World.ownsRow.cells h (g := g) rfl i (.int .i64 (gs.getD i 0)) (by
      unfold intsV
      rw [List.getElem?_map, List.getElem?_eq_getElem hi, List.getD_eq_getElem?_getD, List.getElem?_eq_getElem hi]; rfl)
    unfold Addr.add at this
    split at this
    · rename_i h9; subst h9; simpa using this
    · simpa using this
end Go.Proofs.YtfcbjcebkahehaaGreatDoor
