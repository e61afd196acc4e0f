/-
  DERIVED. GIVEN WITH THE SEED: THE CARDS: each row of YtihcdahmfdijoaaGreatDoorRows.lean that lists a variable, with what it lists TIED to the program's text (the seventh form; the later family's looks); each row that meets fmt, with fmt's text TOLD by the authors' own Lean function (tested against real Go, not proved from fmt's source: count such statements apart). THE CARD IS WHAT COUNTS. Prove the row's statement (the work); the ties are given (YtihcdahmfdijoaaGreatDoorTie.lean); close each card by the builder's one call (the guide's Derived/Test/ToyasCard.lean, 'card_holds'). Laid BY PROGRAM, IN A SANDBOX (cutbox-door.mjs). By AI agents, Wed Nov 11 2026. No macro, syntax, notation, axiom, sorry.
-/
import Derived.Test.YtihcdahmfdijoaaGreatDoorRows
import GoSem.ClaimSeven
namespace Go.Proofs.YtihcdahmfdijoaaGreatDoor
namespace Rows

/-- THE TIED CARD OF 'callboxlaw11.CredParses'. -/
def credParsesCard : Claim7 := { stood := { row := credParsesRow, standIns := [], harness := (true, "1277066f22f973e80b3661ae31f06bbbec2b1ec6a8b727e6294d971802f1363d"), looks := true }, kinds := [], alts := [], laidByText := true, laidKinds := [.handle], laidTests := true, laidLooks := .later }
def CredParsesCardSaid : Prop := Claim7.holds Tryz.pinned (.plain (OpenSpec.ofChange credParsesSpec)) credParsesCard

/-- THE TIED CARD OF 'callboxlaw11.CredJudges'. -/
def credJudgesCard : Claim7 := { stood := { row := credJudgesRow, standIns := [], harness := (true, "1277066f22f973e80b3661ae31f06bbbec2b1ec6a8b727e6294d971802f1363d"), looks := true }, kinds := [], alts := [], laidByText := true, laidKinds := [.handle], laidTests := true, laidLooks := .later }
def CredJudgesCardSaid : Prop := Claim7.holds Tryz.pinned (.plain (OpenSpec.ofChange credJudgesSpec)) credJudgesCard

/-- THE SECOND FORM's CARD OF 'callboxlaw11.CredParses'. -/
def credParsesUptoCard : Claim7 := { stood := { row := credParsesUptoRow, standIns := [], harness := (true, "1277066f22f973e80b3661ae31f06bbbec2b1ec6a8b727e6294d971802f1363d"), looks := true }, kinds := [], alts := [], laidByText := true, laidKinds := [.handle], laidTests := true, laidLooks := .later }
def CredParsesUptoCardSaid : Prop := Claim7.holds Tryz.pinned (.plain (OpenSpec.upto credParsesSpec)) credParsesUptoCard

/-- THE SECOND FORM's CARD OF 'callboxlaw11.CredJudges'. -/
def credJudgesUptoCard : Claim7 := { stood := { row := credJudgesUptoRow, standIns := [], harness := (true, "1277066f22f973e80b3661ae31f06bbbec2b1ec6a8b727e6294d971802f1363d"), looks := true }, kinds := [], alts := [], laidByText := true, laidKinds := [.handle], laidTests := true, laidLooks := .later }
def CredJudgesUptoCardSaid : Prop := Claim7.holds Tryz.pinned (.plain (OpenSpec.upto credJudgesSpec)) credJudgesUptoCard
end Rows
end Go.Proofs.YtihcdahmfdijoaaGreatDoor
