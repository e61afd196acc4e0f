/-
  DERIVED. GIVEN WITH THE SEED: THE CARDS: each row of YthnnmgiihpdblaaDoorRows.lean that lists a variable, with what it lists TIED to the program's text (the seventh form; the later family's looks); each row that meets fmt, with fmt's text TOLD by the authors' own Lean function (tested against real Go, not proved from fmt's source: count such statements apart). THE CARD IS WHAT COUNTS. Prove the row's statement (the work); the ties are given (YthnnmgiihpdblaaDoorTie.lean); close each card by the builder's one call (the guide's Derived/Test/ToyasCard.lean, 'card_holds'). Laid BY PROGRAM, IN A SANDBOX (cutbox-door.mjs). By AI agents, Wed Nov 11 2026. No macro, syntax, notation, axiom, sorry.
-/
import Derived.Test.YthnnmgiihpdblaaDoorRows
import GoSem.ClaimSeven
namespace Go.Proofs.YthnnmgiihpdblaaDoor
namespace Rows

/-- THE TIED CARD OF 'callboxlaw01.RealBits'. -/
def realBitsCard : Claim7 := { stood := { row := realBitsRow, standIns := [], harness := (true, "49fcf4007c3956446352cd449e08bfafddc496d9545b803e6c6382e629a6e425"), looks := true }, kinds := [], alts := [], laidByText := true, laidKinds := [.data, .data, .data, .data, .pinned], laidTests := true, laidLooks := .later }
def RealBitsCardSaid : Prop := Claim7.holds Tryd.pinned (.plain (OpenSpec.ofChange realBitsSpec)) realBitsCard

/-- THE TIED CARD OF 'callboxlaw01.RealNarrow'. -/
def realNarrowCard : Claim7 := { stood := { row := realNarrowRow, standIns := [], harness := (true, "49fcf4007c3956446352cd449e08bfafddc496d9545b803e6c6382e629a6e425"), looks := true }, kinds := [], alts := [], laidByText := true, laidKinds := [.data, .data, .data, .data, .pinned], laidTests := true, laidLooks := .later }
def RealNarrowCardSaid : Prop := Claim7.holds Tryd.pinned (.plain (OpenSpec.ofChange realNarrowSpec)) realNarrowCard

/-- THE TIED CARD OF 'callboxlaw01.RealNearest'. -/
def realNearestCard : Claim7 := { stood := { row := realNearestRow, standIns := [], harness := (true, "49fcf4007c3956446352cd449e08bfafddc496d9545b803e6c6382e629a6e425"), looks := true }, kinds := [], alts := [], laidByText := true, laidKinds := [.data, .data, .data, .data, .pinned], laidTests := true, laidLooks := .later }
def RealNearestCardSaid : Prop := Claim7.holds Tryd.pinned (.plain (OpenSpec.ofChange realNearestSpec)) realNearestCard

/-- THE TIED CARD OF 'callboxlaw01.RealTexts'. -/
def realTextsCard : Claim7 := { stood := { row := realTextsRow, standIns := [], harness := (true, "49fcf4007c3956446352cd449e08bfafddc496d9545b803e6c6382e629a6e425"), looks := true }, kinds := [], alts := [], laidByText := true, laidKinds := [.data, .data, .data, .data, .pinned], laidTests := true, laidLooks := .later }
def RealTextsCardSaid : Prop := Claim7.holds Tryd.pinned (.plain (OpenSpec.ofChange realTextsSpec)) realTextsCard

/-- THE TIED CARD OF 'callboxlaw01.RealBack'. -/
def realBackCard : Claim7 := { stood := { row := realBackRow, standIns := [], harness := (true, "49fcf4007c3956446352cd449e08bfafddc496d9545b803e6c6382e629a6e425"), looks := true }, kinds := [], alts := [], laidByText := true, laidKinds := [.data, .data, .data, .data, .pinned], laidTests := true, laidLooks := .later }
def RealBackCardSaid : Prop := Claim7.holds Tryd.pinned (.plain (OpenSpec.ofChange realBackSpec)) realBackCard

/-- THE TIED CARD OF 'callboxlaw02.XdrWrites'. -/
def xdrWritesCard : Claim7 := { stood := { row := xdrWritesRow, standIns := [], harness := (true, "49fcf4007c3956446352cd449e08bfafddc496d9545b803e6c6382e629a6e425"), looks := true }, kinds := [], alts := [], laidByText := true, laidKinds := [.handle], laidTests := true, laidLooks := .later }
def XdrWritesCardSaid : Prop := Claim7.holds Tryd.pinned (.plain (OpenSpec.ofChange xdrWritesSpec)) xdrWritesCard

/-- THE SECOND FORM's CARD OF 'callboxlaw01.RealBits'. -/
def realBitsUptoCard : Claim7 := { stood := { row := realBitsUptoRow, standIns := [], harness := (true, "49fcf4007c3956446352cd449e08bfafddc496d9545b803e6c6382e629a6e425"), looks := true }, kinds := [], alts := [], laidByText := true, laidKinds := [.data, .data, .data, .data, .pinned], laidTests := true, laidLooks := .later }
def RealBitsUptoCardSaid : Prop := Claim7.holds Tryd.pinned (.plain (OpenSpec.upto realBitsSpec)) realBitsUptoCard

/-- THE SECOND FORM's CARD OF 'callboxlaw01.RealNarrow'. -/
def realNarrowUptoCard : Claim7 := { stood := { row := realNarrowUptoRow, standIns := [], harness := (true, "49fcf4007c3956446352cd449e08bfafddc496d9545b803e6c6382e629a6e425"), looks := true }, kinds := [], alts := [], laidByText := true, laidKinds := [.data, .data, .data, .data, .pinned], laidTests := true, laidLooks := .later }
def RealNarrowUptoCardSaid : Prop := Claim7.holds Tryd.pinned (.plain (OpenSpec.upto realNarrowSpec)) realNarrowUptoCard

/-- THE SECOND FORM's CARD OF 'callboxlaw01.RealNearest'. -/
def realNearestUptoCard : Claim7 := { stood := { row := realNearestUptoRow, standIns := [], harness := (true, "49fcf4007c3956446352cd449e08bfafddc496d9545b803e6c6382e629a6e425"), looks := true }, kinds := [], alts := [], laidByText := true, laidKinds := [.data, .data, .data, .data, .pinned], laidTests := true, laidLooks := .later }
def RealNearestUptoCardSaid : Prop := Claim7.holds Tryd.pinned (.plain (OpenSpec.upto realNearestSpec)) realNearestUptoCard

/-- THE SECOND FORM's CARD OF 'callboxlaw01.RealTexts'. -/
def realTextsUptoCard : Claim7 := { stood := { row := realTextsUptoRow, standIns := [], harness := (true, "49fcf4007c3956446352cd449e08bfafddc496d9545b803e6c6382e629a6e425"), looks := true }, kinds := [], alts := [], laidByText := true, laidKinds := [.data, .data, .data, .data, .pinned], laidTests := true, laidLooks := .later }
def RealTextsUptoCardSaid : Prop := Claim7.holds Tryd.pinned (.plain (OpenSpec.upto realTextsSpec)) realTextsUptoCard

/-- THE SECOND FORM's CARD OF 'callboxlaw01.RealBack'. -/
def realBackUptoCard : Claim7 := { stood := { row := realBackUptoRow, standIns := [], harness := (true, "49fcf4007c3956446352cd449e08bfafddc496d9545b803e6c6382e629a6e425"), looks := true }, kinds := [], alts := [], laidByText := true, laidKinds := [.data, .data, .data, .data, .pinned], laidTests := true, laidLooks := .later }
def RealBackUptoCardSaid : Prop := Claim7.holds Tryd.pinned (.plain (OpenSpec.upto realBackSpec)) realBackUptoCard

/-- THE SECOND FORM's CARD OF 'callboxlaw02.XdrWrites'. -/
def xdrWritesUptoCard : Claim7 := { stood := { row := xdrWritesUptoRow, standIns := [], harness := (true, "49fcf4007c3956446352cd449e08bfafddc496d9545b803e6c6382e629a6e425"), looks := true }, kinds := [], alts := [], laidByText := true, laidKinds := [.handle], laidTests := true, laidLooks := .later }
def XdrWritesUptoCardSaid : Prop := Claim7.holds Tryd.pinned (.plain (OpenSpec.upto xdrWritesSpec)) xdrWritesUptoCard
end Rows
end Go.Proofs.YthnnmgiihpdblaaDoor
