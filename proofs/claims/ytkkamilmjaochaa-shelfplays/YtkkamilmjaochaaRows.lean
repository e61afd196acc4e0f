/-
  No cell of these rows narrows 'for every input' (looked for: loops, veiled, ifaces, maps, wideKeys, modest, calm, conditions, laid).
  DERIVED. THE GIVEN ROWS OF THIS SEAT. 3 by the template 'for every input the law returns true; each argument reads behind the call as it read before'; 0 by the template 'total and deterministic' (their statements: YtkkamilmjaochaaTotals.lean).
  GIVEN WITH THE SEED: the statements are not yours to turn. If you find one false, say at which input.
  Laid BY PROGRAM, IN A SANDBOX (cutbox-rows.mjs): the forced cells as the released guide's own fill.sh prints them over the translation 7facb513e87e8c8e… (all of the seat's roots in one cut). By AI agents, Wed Nov 11 2026. No macro, syntax, notation, axiom, sorry.
-/
import Derived.Test.YtkkamilmjaochaaChecked
import GoSem.Claim
import GoSem.ClaimJoined
import GoSem.ClaimMapViews
import Derived.JoinedTies
import Derived.KernelRfl
namespace Go.Proofs.Ytkkamilmjaochaa
/- THE CELL 'sum', in the pinned program and in every row, IS THE sha256 OF THE DUMP (.gsa) THAT YtkkamilmjaochaaProg.lean LOADS. Nothing in Lean hashes anything: it is a label: what it is worth is what the hold of that sum in a sandbox is worth. -/
noncomputable def Try.pinned : Pinned := { name := "ytkkamilmjaochaa", sum := "7facb513e87e8c8e4607b87ef79a9cce57bc4cb120230114b2e0b4f3a0abc21f", checked := Try.checked }
namespace Rows
def none {H : Type} : Left H := { results := [], args := [] }

/-- 'callboxlaw14.ShelfPlays': WHATEVER THE INPUT: true; the input reads as it did. -/
def shelfPlaysSpec : ChangeSpec := { name := "shelfPlays", fn := fun _ => fun
  | [d1, d2, d3] => { results := [.lit (.bool true)], args := [d1, d2, d3] }
  | _ => none }
def shelfPlaysRow : OpenClaim := { program := "ytkkamilmjaochaa", sum := "7facb513e87e8c8e4607b87ef79a9cce57bc4cb120230114b2e0b4f3a0abc21f", func := "callbox/callboxlaw14.ShelfPlays", spec := "shelfPlays", unfollowed := true, recurses := true, plainKeys := false, apart := false }
def ShelfPlaysSaid : Prop := shelfPlaysRow.holds Try.pinned (OpenSpec.ofChange shelfPlaysSpec)

/-- ITS FALSE NEIGHBOUR: 'it returns false'. Refute it at one input. -/
def shelfPlaysWrong : ChangeSpec := { name := "shelfPlays", fn := fun _ => fun
  | [d1, d2, d3] => { results := [.lit (.bool false)], args := [d1, d2, d3] }
  | _ => none }
def ShelfPlaysWrongFalsely : Prop := shelfPlaysRow.holds Try.pinned (OpenSpec.ofChange shelfPlaysWrong)

/-- 'callboxlaw14.ShelfBound': WHATEVER THE INPUT: true; the input reads as it did. -/
def shelfBoundSpec : ChangeSpec := { name := "shelfBound", fn := fun _ => fun
  | [d1, d2] => { results := [.lit (.bool true)], args := [d1, d2] }
  | _ => none }
def shelfBoundRow : OpenClaim := { program := "ytkkamilmjaochaa", sum := "7facb513e87e8c8e4607b87ef79a9cce57bc4cb120230114b2e0b4f3a0abc21f", func := "callbox/callboxlaw14.ShelfBound", spec := "shelfBound", unfollowed := true, recurses := true, plainKeys := false, apart := false }
def ShelfBoundSaid : Prop := shelfBoundRow.holds Try.pinned (OpenSpec.ofChange shelfBoundSpec)

/-- ITS FALSE NEIGHBOUR: 'it returns false'. Refute it at one input. -/
def shelfBoundWrong : ChangeSpec := { name := "shelfBound", fn := fun _ => fun
  | [d1, d2] => { results := [.lit (.bool false)], args := [d1, d2] }
  | _ => none }
def ShelfBoundWrongFalsely : Prop := shelfBoundRow.holds Try.pinned (OpenSpec.ofChange shelfBoundWrong)

/-- 'callboxlaw14.ShelfTypes': WHATEVER THE INPUT: true; the input reads as it did. -/
def shelfTypesSpec : ChangeSpec := { name := "shelfTypes", fn := fun _ => fun
  | [d1, d2] => { results := [.lit (.bool true)], args := [d1, d2] }
  | _ => none }
def shelfTypesRow : OpenClaim := { program := "ytkkamilmjaochaa", sum := "7facb513e87e8c8e4607b87ef79a9cce57bc4cb120230114b2e0b4f3a0abc21f", func := "callbox/callboxlaw14.ShelfTypes", spec := "shelfTypes", plainKeys := false, apart := false }
def ShelfTypesSaid : Prop := shelfTypesRow.holds Try.pinned (OpenSpec.ofChange shelfTypesSpec)

/-- ITS FALSE NEIGHBOUR: 'it returns false'. Refute it at one input. -/
def shelfTypesWrong : ChangeSpec := { name := "shelfTypes", fn := fun _ => fun
  | [d1, d2] => { results := [.lit (.bool false)], args := [d1, d2] }
  | _ => none }
def ShelfTypesWrongFalsely : Prop := shelfTypesRow.holds Try.pinned (OpenSpec.ofChange shelfTypesWrong)

/- THE SECOND FORM. 'bulk': how many values and letters a reading holds, each counted each time it is reached (what is shared counts as often as it is met; a slice's spare places count too). A statement '..UptoSaid' is the law's where the arguments, and the package variables that the reading takes, are together of bulk at most 1048576: NARROWER than '..Said'. Prove '..Said' where nothing that the law and all that it calls make is longer than what came in: it says more and counts as full. Else prove '..UptoSaid'. A law counts once. -/
mutual
def uptoBulk {H : Type} : DataW H → Nat
  | .lit (.string bytes) => bytes.length + 1
  | .lit _ => 1
  | .nil => 1
  | .ptr d => uptoBulk d + 1
  | .slice elems spare => uptoBulkAll elems + uptoBulkAll spare + 1
  | .agg parts => uptoBulkAll parts + 1
  | .iface _ d => uptoBulk d + 1
  | .map entries => uptoBulkEntries entries + 1
  | .held _ => 1
def uptoBulkAll {H : Type} : List (DataW H) → Nat
  | [] => 0
  | d :: r => uptoBulk d + uptoBulkAll r
def uptoBulkEntries {H : Type} : List (Lit × DataW H) → Nat
  | [] => 0
  | x :: r => uptoBulkEntry x + uptoBulkEntries r
def uptoBulkEntry {H : Type} : Lit × DataW H → Nat
  | (.string bytes, d) => bytes.length + uptoBulk d + 1
  | (_, d) => uptoBulk d + 1
 end
def uptoSmall : (H : Type) → List (DataW H) → Bool := fun _ ds => decide (uptoBulkAll ds ≤ 1048576)
def OpenSpec.upto (s : _root_.Go.ChangeSpec) : _root_.Go.OpenSpec := { _root_.Go.OpenSpec.ofChange s with cond := some uptoSmall }

/-- 'callboxlaw14.ShelfPlays', WHERE WHAT IT READS IS OF BULK AT MOST 1048576: true; the input reads as it did. -/
def shelfPlaysUptoRow : OpenClaim := { program := "ytkkamilmjaochaa", sum := "7facb513e87e8c8e4607b87ef79a9cce57bc4cb120230114b2e0b4f3a0abc21f", func := "callbox/callboxlaw14.ShelfPlays", spec := "shelfPlays", unfollowed := true, recurses := true, plainKeys := false, apart := false, narrowed := true }
def ShelfPlaysUptoSaid : Prop := shelfPlaysUptoRow.holds Try.pinned (OpenSpec.upto shelfPlaysSpec)

/-- 'callboxlaw14.ShelfBound', WHERE WHAT IT READS IS OF BULK AT MOST 1048576: true; the input reads as it did. -/
def shelfBoundUptoRow : OpenClaim := { program := "ytkkamilmjaochaa", sum := "7facb513e87e8c8e4607b87ef79a9cce57bc4cb120230114b2e0b4f3a0abc21f", func := "callbox/callboxlaw14.ShelfBound", spec := "shelfBound", unfollowed := true, recurses := true, plainKeys := false, apart := false, narrowed := true }
def ShelfBoundUptoSaid : Prop := shelfBoundUptoRow.holds Try.pinned (OpenSpec.upto shelfBoundSpec)

/-- 'callboxlaw14.ShelfTypes', WHERE WHAT IT READS IS OF BULK AT MOST 1048576: true; the input reads as it did. -/
def shelfTypesUptoRow : OpenClaim := { program := "ytkkamilmjaochaa", sum := "7facb513e87e8c8e4607b87ef79a9cce57bc4cb120230114b2e0b4f3a0abc21f", func := "callbox/callboxlaw14.ShelfTypes", spec := "shelfTypes", plainKeys := false, apart := false, narrowed := true }
def ShelfTypesUptoSaid : Prop := shelfTypesUptoRow.holds Try.pinned (OpenSpec.upto shelfTypesSpec)

end Rows
end Go.Proofs.Ytkkamilmjaochaa
