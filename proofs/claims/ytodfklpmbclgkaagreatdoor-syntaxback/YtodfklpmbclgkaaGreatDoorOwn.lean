/- Proved: whatever the tree (of any depth, without a ring) and whatever the source, the law SyntaxBack of callboxlaw04 (S4, P8: what Print says of any tree is taken by Parse as that tree; what Parse takes of any source is printed, no longer, and that is taken as the same tree, and printed so again; a source that has a blank more behind each token says the same) returns true, and each argument reads behind the call as it read before. Conditions: the listed tables of the library and the program's list of bare types start as the program's text lays them (the card ties them). -/
import Derived.Test.YtodfklpmbclgkaaGreatDoorBack18
import Derived.Test.YtodfklpmbclgkaaGreatDoorBack21
namespace Go.Proofs.YtodfklpmbclgkaaGreatDoor
theorem syntaxBack_card:Rows.SyntaxBackCardSaid:=Pr.syntaxBack_of Pr.back_all
#print axioms syntaxBack_card
end Go.Proofs.YtodfklpmbclgkaaGreatDoor
