/-
  DERIVED. GIVEN WITH THE SEED: THE CARDS: each row of YtlkhgnjljdbhnabDoorRows.lean that lists a variable, with what it lists TIED to the program's text (the seventh form; the later family's looks); each row that meets fmt, with fmt's text TOLD by the authors' own Lean function (tested against real Go, not proved from fmt's source: count such statements apart). THE CARD IS WHAT COUNTS. Prove the row's statement (the work); the ties are given (YtlkhgnjljdbhnabDoorTie.lean); close each card by the builder's one call (the guide's Derived/Test/ToyasCard.lean, 'card_holds'). Laid BY PROGRAM, IN A SANDBOX (cutbox-door.mjs). By AI agents, Wed Nov 11 2026. No macro, syntax, notation, axiom, sorry.
-/
import Derived.Test.YtlkhgnjljdbhnabDoorRows
import GoSem.ClaimSeven
namespace Go.Proofs.YtlkhgnjljdbhnabDoor
namespace Rows

/-- THE TIED CARD OF 'callboxlaw02.XdrBack'. -/
def xdrBackCard : Claim7 := { stood := { row := xdrBackRow, standIns := [], harness := (true, "bb5ec76ef5062bb35ba98a32babffa063aff948b41c68a619bb9a644222436e6"), looks := true }, kinds := [], alts := [], laidByText := true, laidKinds := [.handle], laidTests := true, laidLooks := .later }
def XdrBackCardSaid : Prop := Claim7.holds Tryd.pinned (.plain (OpenSpec.ofChange xdrBackSpec)) xdrBackCard

/-- THE TIED CARD OF 'callboxlaw02.XdrAgain'. -/
def xdrAgainCard : Claim7 := { stood := { row := xdrAgainRow, standIns := [], harness := (true, "bb5ec76ef5062bb35ba98a32babffa063aff948b41c68a619bb9a644222436e6"), looks := true }, kinds := [], alts := [], laidByText := true, laidKinds := [.handle], laidTests := true, laidLooks := .later }
def XdrAgainCardSaid : Prop := Claim7.holds Tryd.pinned (.plain (OpenSpec.ofChange xdrAgainSpec)) xdrAgainCard

/-- THE SECOND FORM's CARD OF 'callboxlaw02.XdrBack'. -/
def xdrBackUptoCard : Claim7 := { stood := { row := xdrBackUptoRow, standIns := [], harness := (true, "bb5ec76ef5062bb35ba98a32babffa063aff948b41c68a619bb9a644222436e6"), looks := true }, kinds := [], alts := [], laidByText := true, laidKinds := [.handle], laidTests := true, laidLooks := .later }
def XdrBackUptoCardSaid : Prop := Claim7.holds Tryd.pinned (.plain (OpenSpec.upto xdrBackSpec)) xdrBackUptoCard

/-- THE SECOND FORM's CARD OF 'callboxlaw02.XdrAgain'. -/
def xdrAgainUptoCard : Claim7 := { stood := { row := xdrAgainUptoRow, standIns := [], harness := (true, "bb5ec76ef5062bb35ba98a32babffa063aff948b41c68a619bb9a644222436e6"), looks := true }, kinds := [], alts := [], laidByText := true, laidKinds := [.handle], laidTests := true, laidLooks := .later }
def XdrAgainUptoCardSaid : Prop := Claim7.holds Tryd.pinned (.plain (OpenSpec.upto xdrAgainSpec)) xdrAgainUptoCard
end Rows
end Go.Proofs.YtlkhgnjljdbhnabDoor
