/-
  DERIVED. GIVEN WITH THE SEED: THE CARDS: each row of YtihcdahmfdijoaaDoorRows.lean that lists a variable, with what it lists TIED to the program's text (the seventh form; the later family's looks); each row that meets fmt, with fmt's text TOLD by the authors' own Lean function (tested against real Go, not proved from fmt's source: count such statements apart). THE CARD IS WHAT COUNTS. Prove the row's statement (the work); the ties are given (YtihcdahmfdijoaaDoorTie.lean); close each card by the builder's one call (the guide's Derived/Test/ToyasCard.lean, 'card_holds'). Laid BY PROGRAM, IN A SANDBOX (cutbox-door.mjs). By AI agents, Wed Nov 11 2026. No macro, syntax, notation, axiom, sorry.
-/
import Derived.Test.YtihcdahmfdijoaaDoorRows
import GoSem.ClaimSeven
namespace Go.Proofs.YtihcdahmfdijoaaDoor
namespace Rows

/-- THE TIED CARD OF 'callboxlaw11.CredPrints'. -/
def credPrintsCard : Claim7 := { stood := { row := credPrintsRow, standIns := [], harness := (true, "c278c82b37865ae1b41d49f8c895dfa30cfc7b9a5397bd02c4f1bca25f688feb"), looks := true }, kinds := [], alts := [], laidByText := true, laidKinds := [.handle], laidTests := true, laidLooks := .later }
def CredPrintsCardSaid : Prop := Claim7.holds Tryd.pinned (.plain (OpenSpec.ofChange credPrintsSpec)) credPrintsCard

/-- THE TIED CARD OF 'callboxlaw11.CredBack'. -/
def credBackCard : Claim7 := { stood := { row := credBackRow, standIns := [], harness := (true, "c278c82b37865ae1b41d49f8c895dfa30cfc7b9a5397bd02c4f1bca25f688feb"), looks := true }, kinds := [], alts := [], laidByText := true, laidKinds := [.handle], laidTests := true, laidLooks := .later }
def CredBackCardSaid : Prop := Claim7.holds Tryd.pinned (.plain (OpenSpec.ofChange credBackSpec)) credBackCard

/-- THE SECOND FORM's CARD OF 'callboxlaw11.CredPrints'. -/
def credPrintsUptoCard : Claim7 := { stood := { row := credPrintsUptoRow, standIns := [], harness := (true, "c278c82b37865ae1b41d49f8c895dfa30cfc7b9a5397bd02c4f1bca25f688feb"), looks := true }, kinds := [], alts := [], laidByText := true, laidKinds := [.handle], laidTests := true, laidLooks := .later }
def CredPrintsUptoCardSaid : Prop := Claim7.holds Tryd.pinned (.plain (OpenSpec.upto credPrintsSpec)) credPrintsUptoCard

/-- THE SECOND FORM's CARD OF 'callboxlaw11.CredBack'. -/
def credBackUptoCard : Claim7 := { stood := { row := credBackUptoRow, standIns := [], harness := (true, "c278c82b37865ae1b41d49f8c895dfa30cfc7b9a5397bd02c4f1bca25f688feb"), looks := true }, kinds := [], alts := [], laidByText := true, laidKinds := [.handle], laidTests := true, laidLooks := .later }
def CredBackUptoCardSaid : Prop := Claim7.holds Tryd.pinned (.plain (OpenSpec.upto credBackSpec)) credBackUptoCard
end Rows
end Go.Proofs.YtihcdahmfdijoaaDoor
