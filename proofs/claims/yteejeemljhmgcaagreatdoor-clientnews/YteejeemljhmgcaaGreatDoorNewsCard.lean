/- Proved: whatever the input, the law ClientNews of callboxlaw17 (C1: any config: a client, or ErrClientConfig, as the document has it; what was lent stays; the chapter's first example in part) returns true, and the argument reads behind the call as it read before. Conditions: the listed variable of the library starts as the program's text lays it (the card ties it). -/
import Derived.Test.YteejeemljhmgcaaGreatDoorTie
import Derived.Test.YteejeemljhmgcaaGreatDoorCards
import Derived.Test.YteejeemljhmgcaaGreatDoorNc
import Derived.Test.YteejeemljhmgcaaGreatDoorJy
namespace Go.Proofs.YteejeemljhmgcaaGreatDoor
open Go.ChangeMaps Go.ChangeShapes Go.WideShapes Go.ChangeAt Go.RowKit
theorem cellsPa : Tryz.prog.cellsOf 23 = 3 := by kernel_rfl
theorem cellsCo : Tryz.prog.cellsOf 28 = 12 := by kernel_rfl
theorem list3 {α : Type} (l : List α) (h : l.length = 3) : ∃ a b c, l = [a, b, c] := by
  match l, h with
  | [a, b, c], _ => exact ⟨a, b, c, rfl⟩
theorem list6 {α : Type} (l : List α) (h : l.length = 6) : ∃ a b c d e f, l = [a, b, c, d, e, f] := by
  match l, h with
  | [a, b, c, d, e, f], _ => exact ⟨a, b, c, d, e, f, rfl⟩
theorem list12 {α : Type} (l : List α) (h : l.length = 12) : ∃ a b c d e f g i j k m n, l = [a, b, c, d, e, f, g, i, j, k, m, n] := by
  match l, h with
  | [a, b, c, d, e, f, g, i, j, k, m, n], _ => exact ⟨a, b, c, d, e, f, g, i, j, k, m, n, rfl⟩
section
variable {H : Type} {enc : TypeId × Value → H} {w : World} {sp : Nat → Bool} {held : Bool}
theorem pace_up {fuel : Nat} {cs : List Value} {x : DataW H × List MemPlace} (h : DataW.trod enc Tryz.prog w 0 sp held fuel 23 cs = some x) :
    ∃ a b c : Int, cs = [.int .i64 a, .int .i64 b, .int .i64 c] := by
  obtain ⟨xs, n, _, _, hl, hlen, hall⟩ := DataW.trod_struct Tryz.underlying23 h
  rw [cellsPa] at hl
  obtain ⟨v0, v1, v2, rfl⟩ := list3 cs hl
  obtain ⟨y0, y1, y2, rfl⟩ := list3 xs hlen
  have e0 := hall 0 { name := "Base", type := 3, offset := 0, embedded := false, tag := "", pkgPath := "", byteOffset := 0 } rfl
  have e1 := hall 1 { name := "Cap", type := 3, offset := 1, embedded := false, tag := "", pkgPath := "", byteOffset := 8 } rfl
  have e2 := hall 2 { name := "Tries", type := 3, offset := 2, embedded := false, tag := "", pkgPath := "", byteOffset := 16 } rfl
  dsimp only at e0 e1 e2
  rw [cellsI] at e0 e1 e2
  obtain ⟨z0, hz0, _, _⟩ := DataW.trod_int Tryz.underlying3 (cs := [v0]) (x := y0) e0
  obtain ⟨z1, hz1, _, _⟩ := DataW.trod_int Tryz.underlying3 (cs := [v1]) (x := y1) e1
  obtain ⟨z2, hz2, _, _⟩ := DataW.trod_int Tryz.underlying3 (cs := [v2]) (x := y2) e2
  rw [List.cons.injEq] at hz0 hz1 hz2
  exact ⟨z0, z1, z2, by rw [hz0.1, hz1.1, hz2.1]⟩
theorem config_up {fuel : Nat} {cs : List Value} {x : DataW H × List MemPlace} (h : DataW.trod enc Tryz.prog w 0 sp held fuel 28 cs = some x) :
    ∃ (c : Cl.Cf) (oa : Option Addr) (cap : Nat), cs = (Cl.cfA c oa cap).toList ∧ GsAt w w.heap.size oa c.sys.groups ∧ c.sys.groups.length ≤ cap ∧ cap ≤ maxLen := by
  obtain ⟨xs, n, _, _, hl, hlen, hall⟩ := DataW.trod_struct Tryz.underlying28 h
  rw [cellsCo] at hl
  obtain ⟨v0, v1, v2, v3, v4, v5, v6, v7, v8, v9, v10, v11, rfl⟩ := list12 cs hl
  obtain ⟨y0, y1, y2, y3, y4, y5, rfl⟩ := list6 xs hlen
  have e0 := hall 0 { name := "Address", type := 3, offset := 0, embedded := false, tag := "", pkgPath := "", byteOffset := 0 } rfl
  have e1 := hall 1 { name := "Instance", type := 3, offset := 1, embedded := false, tag := "", pkgPath := "", byteOffset := 8 } rfl
  have e2 := hall 2 { name := "First", type := 3, offset := 2, embedded := false, tag := "", pkgPath := "", byteOffset := 16 } rfl
  have e3 := hall 3 { name := "Window", type := 3, offset := 3, embedded := false, tag := "", pkgPath := "", byteOffset := 24 } rfl
  have e4 := hall 4 { name := "Pace", type := 23, offset := 4, embedded := false, tag := "", pkgPath := "", byteOffset := 32 } rfl
  have e5 := hall 5 { name := "Sys", type := 26, offset := 7, embedded := false, tag := "", pkgPath := "", byteOffset := 56 } rfl
  dsimp only at e0 e1 e2 e3 e4 e5
  rw [cellsI] at e0 e1 e2 e3
  rw [cellsPa] at e4
  rw [cellsSy] at e5
  obtain ⟨z0, hz0, _, _⟩ := DataW.trod_int Tryz.underlying3 (cs := [v0]) (x := y0) e0
  obtain ⟨z1, hz1, _, _⟩ := DataW.trod_int Tryz.underlying3 (cs := [v1]) (x := y1) e1
  obtain ⟨z2, hz2, _, _⟩ := DataW.trod_int Tryz.underlying3 (cs := [v2]) (x := y2) e2
  obtain ⟨z3, hz3, _, _⟩ := DataW.trod_int Tryz.underlying3 (cs := [v3]) (x := y3) e3
  obtain ⟨z4, z5, z6, hp⟩ := pace_up (cs := [v4, v5, v6]) (x := y4) e4
  obtain ⟨s, oa, cap, hs, hg, hc, hm⟩ := sys_up (cs := [v7, v8, v9, v10, v11]) (x := y5) e5
  rw [List.cons.injEq] at hz0 hz1 hz2 hz3
  refine ⟨⟨z0, z1, z2, z3, z4, z5, z6, s⟩, oa, cap, ?_, hg, hc, hm⟩
  simp only [List.cons.injEq, and_true] at hp hs
  rw [hz0.1, hz1.1, hz2.1, hz3.1, hp.1, hp.2.1, hp.2.2, hs.1, hs.2.1, hs.2.2.1, hs.2.2.2.1, hs.2.2.2.2]
end
set_option maxRecDepth 100000 in
theorem clientNews_lifted (os : Os) (started : os.Started) (H : Type) (enc : TypeId × Value → H) :
    ReturnsInHanded {} Tryz.checked os 3 .any (fun w args => (Rows.clientNewsSpec.pre enc Tryz.prog Tryz.f3 [] false w args ∧ laidMetH Tryz.prog Rows.clientNewsRow.laid w) ∧ sizedMet enc Tryz.prog Tryz.f3 (OpenSpec.ofChange Rows.clientNewsSpec) false w args)
      (Rows.clientNewsSpec.post enc Tryz.prog Tryz.f3 false true false false) := by
  refine lift_law (X := fun w _ => laidMetH Tryz.prog Rows.clientNewsRow.laid w) (fun _ _ _ hh h => h.of_heap hh) started (by kernel_rfl) Tryz.func3
    (ChangeSpec.witness_shaped (enc := enc) (C := Tryz.checked) (os := os) (X := fun w _ => laidMetH Tryz.prog Rows.clientNewsRow.laid w) false
      ({ World.holding Tryz.prog os ⟨#[], #[], []⟩ with heap := (World.holding Tryz.prog os ⟨#[], #[], []⟩).heap.modify 1 fun
          | .cells _ t frozen => .cells #[.iface 283 (.agg #[.pointer (some ⟨2, 177, none⟩)])] t frozen
          | o => o } : World) #[.agg #[.int .i64 0, .int .i64 0, .int .i64 0, .int .i64 0, .int .i64 0, .int .i64 0, .int .i64 0, .int .i64 0, .string ⟨#[]⟩, .int .i64 0, .int .i64 0, .slice none 0 0]] 8 rfl
      (World.shaped_of_ZipB (by kernel_rfl) (by kernel_rfl)) (by kernel_rfl) (by kernel_rfl) (by kernel_rfl)
      (laidMetH_of_parts (laidMet_nil _ _) (by kernel_rfl))) ?_
  intro W base args ds gs before hval0 hW _ hL hsh
  have hval : ∀ (j : Nat) t v, Tryz.f3.params[j]? = some t → args[j]? = some v → Value.okWide Tryz.prog W .any base t v := hval0
  have hW' := hW
  obtain ⟨p, q, hA0, hV, rfl, _, _⟩ := hW
  have hA : DataW.TrodAll enc Tryz.prog W 0 (fun _ => true) true Tryz.f3.params.toList args.toList ds p := hA0
  have hlt := hA.lt
  rw [Tryz.params3] at hA hval
  obtain ⟨v0, d0, rfl, rfl, h0⟩ := trodAll_one hA
  obtain ⟨rfl, rfl⟩ := trodVars_none hV
  obtain ⟨cs0, rfl, _⟩ := okWide_struct Tryz.underlying28 (hval 0 28 v0 rfl rfl)
  have hs : ∃ (c : Cl.Cf) (oa : Option Addr) (cap : Nat), cs0 = Cl.cfA c oa cap ∧ GsAt W W.heap.size oa c.sys.groups ∧ c.sys.groups.length ≤ cap ∧ cap ≤ maxLen := by
    obtain ⟨fuel, hf⟩ := h0
    obtain ⟨s, oa, cap, hc, r⟩ := config_up hf
    have hc2 : cs0.toList = _ := hc
    exact ⟨s, oa, cap, by cases cs0; simp_all, r⟩
  obtain ⟨c, oa, ca, rfl, hg, hca, hma⟩ := hs
  clear hA0 hval0
  simp only [List.append_nil] at hW'
  have hE : ErrT W := errT_of hL
  refine (Cl.clientNews_any c oa ca W hE hg hca).mono fun e W' ⟨he, hgB⟩ => ?_
  subst he
  have hs0 := Below.trod (by kernel_rfl) (by kernel_rfl) (by rw [err_types]; decide) h0 hgB (fun x hx => hlt x (by simp [hx]))
  exact ⟨_, rfl, _, _, _, [], _, [], hW', trodAll_mk1 (shut_bool Tryz.underlying4 _), trodAll_mk1 hs0, rfl, hgB.frame _, fun h => by cases h⟩

theorem clientNews_holds : Rows.ClientNewsSaid :=
  OpenClaim.holds_of_wide 3 Tryz.f3 rfl rfl rfl rfl rfl rfl rfl ⟨rfl, rfl, rfl, rfl, rfl⟩ rfl rfl rfl rfl rfl (by kernel_rfl) Tryz.func3 (by kernel_rfl)
    (of_decide_eq_true (by kernel_rfl)) (by unfold Func.isWrapper; first | (rw [if_pos (by decide +kernel)]; kernel_rfl) | (rw [if_neg (by decide +kernel)]; exact ⟨rfl, rfl⟩))
    (fun os started H enc _ => clientNews_lifted os started H enc)

theorem clientNews_card : Rows.ClientNewsCardSaid :=
  Claim7.holds_tied_plain_at .later [] [.handle] true (true, "5847c7b41930da591b3596c7dbe44dec8f8e083f79792e25e6a9596a278741f5") true clientNews_holds (fun _ h => by cases h) (by kernel_rfl) (fun _ h => by cases h) clientNews_row_tie rfl ⟨rfl, rfl⟩ (by kernel_rfl) rfl
    (fun f fn hf hfn => by
      obtain rfl : f = 3 := Option.some.inj ((show Tryz.prog.funcNamed "callbox/callboxlaw17.ClientNews" = some 3 by kernel_rfl).symm.trans hf) |>.symm
      obtain rfl : fn = Tryz.f3 := (Option.some.inj (Tryz.func3.symm.trans hfn)).symm
      exact ⟨by kernel_rfl, fun j t ht => by
        rw [Tryz.params3] at ht
        have hm : t ∈ [28] := by simpa using Array.mem_of_getElem? ht
        have hall : ([28].all fun u => !Tryz.prog.wantsStandIn u) = true := by kernel_rfl
        exact (show Tryz.prog.wantsStandIn t = false by simpa using List.all_eq_true.1 hall t hm)⟩)
    (by kernel_rfl)
#print axioms clientNews_card
end Go.Proofs.YteejeemljhmgcaaGreatDoor
