/-
  DERIVED. GIVEN WITH THE SEED: THE CARDS: each row of YtfkggcinpklgmaaDoorRows.lean that lists a variable, with what it lists TIED to the program's text (the seventh form; the later family's looks); each row that meets fmt, with fmt's text TOLD by the authors' own Lean function (tested against real Go, not proved from fmt's source: count such statements apart). THE CARD IS WHAT COUNTS. Prove the row's statement (the work); the ties are given (YtfkggcinpklgmaaDoorTie.lean); close each card by the builder's one call (the guide's Derived/Test/ToyasCard.lean, 'card_holds'). Laid BY PROGRAM, IN A SANDBOX (cutbox-door.mjs). By AI agents, Wed Nov 11 2026. No macro, syntax, notation, axiom, sorry.
-/
import Derived.Test.YtfkggcinpklgmaaDoorRows
import GoSem.ClaimSeven
namespace Go.Proofs.YtfkggcinpklgmaaDoor
namespace Rows

/-- THE TIED CARD OF 'callboxlaw12.MessageBack'. -/
def messageBackCard : Claim7 := { stood := { row := messageBackRow, standIns := [], harness := (true, "6b566719a849ef39b8c840f721fdc30053031813302c2123d2a13cf898043c91"), looks := true }, kinds := [], alts := [], laidByText := true, laidKinds := [.handle], laidTests := true, laidLooks := .later }
def MessageBackCardSaid : Prop := Claim7.holds Tryd.pinned (.plain (OpenSpec.ofChange messageBackSpec)) messageBackCard

/-- THE TIED CARD OF 'callboxlaw12.MessageHeads'. -/
def messageHeadsCard : Claim7 := { stood := { row := messageHeadsRow, standIns := [], harness := (true, "6b566719a849ef39b8c840f721fdc30053031813302c2123d2a13cf898043c91"), looks := true }, kinds := [], alts := [], laidByText := true, laidKinds := [.handle], laidTests := true, laidLooks := .later }
def MessageHeadsCardSaid : Prop := Claim7.holds Tryd.pinned (.plain (OpenSpec.ofChange messageHeadsSpec)) messageHeadsCard

/-- THE SECOND FORM's CARD OF 'callboxlaw12.MessageBack'. -/
def messageBackUptoCard : Claim7 := { stood := { row := messageBackUptoRow, standIns := [], harness := (true, "6b566719a849ef39b8c840f721fdc30053031813302c2123d2a13cf898043c91"), looks := true }, kinds := [], alts := [], laidByText := true, laidKinds := [.handle], laidTests := true, laidLooks := .later }
def MessageBackUptoCardSaid : Prop := Claim7.holds Tryd.pinned (.plain (OpenSpec.upto messageBackSpec)) messageBackUptoCard

/-- THE SECOND FORM's CARD OF 'callboxlaw12.MessageHeads'. -/
def messageHeadsUptoCard : Claim7 := { stood := { row := messageHeadsUptoRow, standIns := [], harness := (true, "6b566719a849ef39b8c840f721fdc30053031813302c2123d2a13cf898043c91"), looks := true }, kinds := [], alts := [], laidByText := true, laidKinds := [.handle], laidTests := true, laidLooks := .later }
def MessageHeadsUptoCardSaid : Prop := Claim7.holds Tryd.pinned (.plain (OpenSpec.upto messageHeadsSpec)) messageHeadsUptoCard
end Rows
end Go.Proofs.YtfkggcinpklgmaaDoor
