/-
  DERIVED. GIVEN WITH THE SEED: THE CARDS: each row of YtlkhgnjljdbhnabGreatDoorRows.lean that lists a variable, with what it lists TIED to the program's text (the seventh form; the later family's looks); each row that meets fmt, with fmt's text TOLD by the authors' own Lean function (tested against real Go, not proved from fmt's source: count such statements apart). THE CARD IS WHAT COUNTS. Prove the row's statement (the work); the ties are given (YtlkhgnjljdbhnabGreatDoorTie.lean); close each card by the builder's one call (the guide's Derived/Test/ToyasCard.lean, 'card_holds'). Laid BY PROGRAM, IN A SANDBOX (cutbox-door.mjs). By AI agents, Wed Nov 11 2026. No macro, syntax, notation, axiom, sorry.
-/
import Derived.Test.YtlkhgnjljdbhnabGreatDoorRows
import GoSem.ClaimSeven
namespace Go.Proofs.YtlkhgnjljdbhnabGreatDoor
namespace Rows

/-- THE TIED CARD OF 'callboxlaw02.XdrReads'. -/
def xdrReadsCard : Claim7 := { stood := { row := xdrReadsRow, standIns := [], harness := (true, "05be84a3cc4df5c7c93fddf51de5acfe36ac436ad81c50fc027d62c995d13583"), looks := true }, kinds := [], alts := [], laidByText := true, laidKinds := [.handle], laidTests := true, laidLooks := .later }
def XdrReadsCardSaid : Prop := Claim7.holds Tryz.pinned (.plain (OpenSpec.ofChange xdrReadsSpec)) xdrReadsCard

/-- THE SECOND FORM's CARD OF 'callboxlaw02.XdrReads'. -/
def xdrReadsUptoCard : Claim7 := { stood := { row := xdrReadsUptoRow, standIns := [], harness := (true, "05be84a3cc4df5c7c93fddf51de5acfe36ac436ad81c50fc027d62c995d13583"), looks := true }, kinds := [], alts := [], laidByText := true, laidKinds := [.handle], laidTests := true, laidLooks := .later }
def XdrReadsUptoCardSaid : Prop := Claim7.holds Tryz.pinned (.plain (OpenSpec.upto xdrReadsSpec)) xdrReadsUptoCard
end Rows
end Go.Proofs.YtlkhgnjljdbhnabGreatDoor
