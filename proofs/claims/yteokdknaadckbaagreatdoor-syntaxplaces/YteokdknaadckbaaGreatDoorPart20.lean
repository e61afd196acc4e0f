/- From the row's condition to what the walk leans on: the list of bare types as it is laid. -/
import Derived.Test.YteokdknaadckbaaGreatDoorTie
import Derived.Test.YteokdknaadckbaaGreatDoorCards
import Derived.Test.YteokdknaadckbaaGreatDoorPart19
import Derived.ProofKit
import Derived.OpenShut
import Derived.LaidMore
import Derived.Lay
import Derived.SevenTiedAt
import Derived.Stop.Joined
import Derived.Lib.LaidTab
import Derived.Lib.LaidU8
namespace Go.Proofs.YteokdknaadckbaaGreatDoor
open Go.ChangeShapes Go.WideShapes Go.ChangeAt Go.RowKit

theorem own : ownKnob Tryz.prog.godebug = none := by kernel_rfl
theorem globB : Tryz.prog.globalNamed "callbox/syntax.bares" = some 0 := by kernel_rfl
theorem typeB : (Tryz.prog.globals[0]?).map (·.type) = some 125 := by kernel_rfl
theorem cells124 : Tryz.prog.cellsOf 124 = 3 := by kernel_rfl
theorem cells125 : Tryz.prog.cellsOf 125 = 21 := by kernel_rfl
theorem cells3 : Tryz.prog.cellsOf 3 = 1 := by kernel_rfl
theorem cells30 : Tryz.prog.cellsOf 30 = 1 := by kernel_rfl
theorem cells4 : Tryz.prog.cellsOf 4 = 1 := by kernel_rfl
theorem cells9 : Tryz.prog.cellsOf 9 = 1 := by kernel_rfl
theorem bytes_again {s : ByteArray} {l : List UInt8} (h : s.data.toList = l) : s = ⟨l.toArray⟩ := by
  cases s with
  | mk a => cases a; cases h; rfl

theorem row_of_trod {w : World} {fuel : Nat} {cs : List Value} {a : Int} {b : Bool} {l : List UInt8} {p : List MemPlace} (hl : cs.length = 3)
    (h : DataW.trod (fun _ => ()) Tryz.prog w 0 (fun _ => true) false fuel 124 cs = some (.agg [.lit (.int .i64 a), .lit (.bool b), .lit (.string l)], p)) :
    cs = [.int .i64 a, .bool b, .string ⟨l.toArray⟩] := by
  match cs, hl with
  | [c0, c1, c2], _ =>
    obtain ⟨xs, n, rfl, hx, _, hlen, hall⟩ := DataW.trod_struct Tryz.underlying124 h
    have e0 := hall 0 { name := "kind", type := 3, offset := 0, embedded := false, tag := "", pkgPath := "callbox/syntax", byteOffset := 0 } rfl
    have e1 := hall 1 { name := "unsigned", type := 4, offset := 1, embedded := false, tag := "", pkgPath := "callbox/syntax", byteOffset := 8 } rfl
    have e2 := hall 2 { name := "word", type := 9, offset := 2, embedded := false, tag := "", pkgPath := "callbox/syntax", byteOffset := 16 } rfl
    dsimp only at e0 e1 e2
    rw [cells3] at e0
    rw [cells4] at e1
    rw [cells9] at e2
    match xs, hlen with
    | [y0, y1, y2], _ =>
      obtain ⟨z0, hz0, hy0, _⟩ := DataW.trod_int Tryz.underlying3 (cs := [c0]) (x := y0) e0
      obtain ⟨z1, hz1, hy1⟩ := DataW.trod_bool Tryz.underlying4 (cs := [c1]) (x := y1) e1
      obtain ⟨z2, hz2, hy2, _⟩ := DataW.trod_string Tryz.underlying9 (cs := [c2]) (x := y2) e2
      subst hy0 hy1 hy2
      simp only [List.map_cons, List.map_nil, Prod.mk.injEq, DataW.agg.injEq, List.cons.injEq, DataW.lit.injEq, Lit.int.injEq, Lit.bool.injEq, Lit.string.injEq, true_and, and_true] at hx
      obtain ⟨⟨rfl, rfl, h2⟩, _⟩ := hx
      rw [List.cons.injEq] at hz0 hz1 hz2
      rw [hz0.1, hz1.1, hz2.1, bytes_again h2.symm]

theorem bares_of {w : World} {fuel : Nat} {cs : Array Value} {p : List MemPlace}
    (h : DataW.trod (fun _ => ()) Tryz.prog w 0 (fun _ => true) false fuel 125 cs.toList = some (Rows.laid_callbox_syntax_bares, p)) : cs = baresA := by
  obtain ⟨xs, m, rfl, hx, hl, hlen, hall⟩ := DataW.trod_array Tryz.underlying125 h
  rw [cells125] at hl
  rw [cells124] at hall
  have hx1 := congrArg Prod.fst hx
  match xs, hlen with
  | [y0, y1, y2, y3, y4, y5, y6], _ =>
    simp only [Rows.laid_callbox_syntax_bares, List.map_cons, List.map_nil, DataW.agg.injEq, List.cons.injEq, and_true] at hx1
    obtain ⟨g0, g1, g2, g3, g4, g5, g6⟩ := hx1
    have len3 : ∀ i, i < 7 → ((cs.toList.drop (i * 3)).take 3).length = 3 := by
      intro i hi
      rw [List.length_take, List.length_drop, hl]
      omega
    have f : ∀ (i : Nat) (y : DataW Unit × List MemPlace) (a : Int) (b : Bool) (l : List UInt8), i < 7 → [y0, y1, y2, y3, y4, y5, y6][i]? = some y → .agg [.lit (.int .i64 a), .lit (.bool b), .lit (.string l)] = y.1 → (cs.toList.drop (i * 3)).take 3 = [.int .i64 a, .bool b, .string ⟨l.toArray⟩] := by
      intro i y a b l hi hy hg
      obtain ⟨y1, y2⟩ := y
      cases hg
      exact row_of_trod (len3 i hi) ((hall i hi).trans hy)
    have r0 := f 0 _ _ _ _ (by omega) rfl g0
    have r1 := f 1 _ _ _ _ (by omega) rfl g1
    have r2 := f 2 _ _ _ _ (by omega) rfl g2
    have r3 := f 3 _ _ _ _ (by omega) rfl g3
    have r4 := f 4 _ _ _ _ (by omega) rfl g4
    have r5 := f 5 _ _ _ _ (by omega) rfl g5
    have r6 := f 6 _ _ _ _ (by omega) rfl g6
    have hc : cs.toList = (cs.toList.drop (0 * 3)).take 3 ++ ((cs.toList.drop (1 * 3)).take 3 ++ ((cs.toList.drop (2 * 3)).take 3 ++ ((cs.toList.drop (3 * 3)).take 3 ++ ((cs.toList.drop (4 * 3)).take 3 ++ ((cs.toList.drop (5 * 3)).take 3 ++ (cs.toList.drop (6 * 3)).take 3))))) := by
      have step : ∀ k, (cs.toList.drop k) = (cs.toList.drop k).take 3 ++ cs.toList.drop (k + 3) := by
        intro k
        rw [← List.drop_drop, List.take_append_drop]
      have e6 : (cs.toList.drop 18).take 3 = cs.toList.drop 18 := List.take_of_length_le (by rw [List.length_drop, hl]; decide)
      have s0 := step 0
      have s1 := step 3
      have s2 := step 6
      have s3 := step 9
      have s4 := step 12
      have s5 := step 15
      rw [← e6] at s5
      rw [s5] at s4
      rw [s4] at s3
      rw [s3] at s2
      rw [s2] at s1
      rw [s1] at s0
      exact s0
    rw [r0, r1, r2, r3, r4, r5, r6] at hc
    have : cs = cs.toList.toArray := rfl
    rw [this, hc]
    rfl

theorem glob_of {W : World} (hL : laidMetH Tryz.prog Rows.syntaxPlacesRow.laid W) : GlobAt W := by
  rw [MakeChecks.laidMetH_plain _ _ _ (by kernel_rfl)] at hL
  obtain ⟨g, t, cs, fuel, p, hg, ht, hvar, hd⟩ := Lib.laidMet.reads hL (n := "callbox/syntax.bares") (d := Rows.laid_callbox_syntax_bares) (.tail _ (.tail _ (.tail _ (.head _))))
  obtain rfl := Option.some.inj (globB.symm.trans hg)
  obtain rfl := Option.some.inj (typeB.symm.trans ht)
  have hcs := bares_of hd
  subst hcs
  unfold World.var? at hvar
  rw [globB] at hvar
  simp only [Option.bind_some] at hvar
  cases hb : W.heap[0]? with
  | none => rw [hb] at hvar; cases hvar
  | some b =>
    rw [hb] at hvar
    cases b with
    | cells c t fr => obtain rfl := Option.some.inj hvar; exact ⟨t, fr, hb⟩
    | _ => cases hvar
end Go.Proofs.YteokdknaadckbaaGreatDoor
