/-
  DERIVED. GIVEN WITH THE SEED: THE CARDS: each row of YtedbjceeakmjgaaGreatDoorRows.lean that lists a variable, with what it lists TIED to the program's text (the seventh form; the later family's looks); each row that meets fmt, with fmt's text TOLD by the authors' own Lean function (tested against real Go, not proved from fmt's source: count such statements apart). THE CARD IS WHAT COUNTS. Prove the row's statement (the work); the ties are given (YtedbjceeakmjgaaGreatDoorTie.lean); close each card by the builder's one call (the guide's Derived/Test/ToyasCard.lean, 'card_holds'). Laid BY PROGRAM, IN A SANDBOX (cutbox-door.mjs). By AI agents, Wed Nov 11 2026. No macro, syntax, notation, axiom, sorry.
-/
import Derived.Test.YtedbjceeakmjgaaGreatDoorRows
import GoSem.ClaimSeven
namespace Go.Proofs.YtedbjceeakmjgaaGreatDoor
namespace Rows

/-- THE TIED CARD OF 'callboxlaw20.ServerMakes'. -/
def serverMakesCard : Claim7 := { stood := { row := serverMakesRow, standIns := [], harness := (true, "b26c700926d52592408104e2a2f3496aa1e5edb2dfb3941afc7bb0a3aaa22465"), looks := true }, kinds := [], alts := [], laidByText := true, laidKinds := [.handle], laidTests := true, laidLooks := .later }
def ServerMakesCardSaid : Prop := Claim7.holds Tryz.pinned (.plain (OpenSpec.ofChange serverMakesSpec)) serverMakesCard

/-- THE SECOND FORM's CARD OF 'callboxlaw20.ServerMakes'. -/
def serverMakesUptoCard : Claim7 := { stood := { row := serverMakesUptoRow, standIns := [], harness := (true, "b26c700926d52592408104e2a2f3496aa1e5edb2dfb3941afc7bb0a3aaa22465"), looks := true }, kinds := [], alts := [], laidByText := true, laidKinds := [.handle], laidTests := true, laidLooks := .later }
def ServerMakesUptoCardSaid : Prop := Claim7.holds Tryz.pinned (.plain (OpenSpec.upto serverMakesSpec)) serverMakesUptoCard
end Rows
end Go.Proofs.YtedbjceeakmjgaaGreatDoor
