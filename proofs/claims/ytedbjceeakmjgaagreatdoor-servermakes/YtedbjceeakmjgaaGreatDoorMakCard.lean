/- Proved: whatever the input, the law ServerMakes of callboxlaw20 (S1: any config: a server, or ErrServerConfig, as the document has it; the chapter's first example in part) returns true, and the argument reads behind the call as it read before. Conditions: the listed variable of the library starts as the program's text lays it (the card ties it). The law's own first call (a server that is made, hears a call, works, hears it again) is run to its end by a verified evaluator (the texts Ev..), whatever is drawn. -/
import Derived.Test.YtedbjceeakmjgaaGreatDoorTie
import Derived.Test.YtedbjceeakmjgaaGreatDoorCards
import Derived.Test.YtedbjceeakmjgaaGreatDoorZh
namespace Go.Proofs.YtedbjceeakmjgaaGreatDoor
open Go.ChangeMaps Go.ChangeShapes Go.WideShapes Go.ChangeAt Go.RowKit
set_option maxRecDepth 100000 in
theorem serverMakes_lifted (os : Os) (started : os.Started) (H : Type) (enc : TypeId × Value → H) :
    ReturnsInHanded {} Tryz.checked os 3 .any (fun w args => (Rows.serverMakesSpec.pre enc Tryz.prog Tryz.f3 [] false w args ∧ laidMetH Tryz.prog Rows.serverMakesRow.laid w) ∧ sizedMet enc Tryz.prog Tryz.f3 (OpenSpec.ofChange Rows.serverMakesSpec) false w args)
      (Rows.serverMakesSpec.post enc Tryz.prog Tryz.f3 false true false false) := by
  refine lift_law (X := fun w _ => laidMetH Tryz.prog Rows.serverMakesRow.laid w) (fun _ _ _ hh h => h.of_heap hh) started (by kernel_rfl) Tryz.func3
    (ChangeSpec.witness_shaped (enc := enc) (C := Tryz.checked) (os := os) (X := fun w _ => laidMetH Tryz.prog Rows.serverMakesRow.laid w) false
      ({ World.holding Tryz.prog os ⟨#[], #[], []⟩ with heap := (World.holding Tryz.prog os ⟨#[], #[], []⟩).heap.modify 0 fun
          | .cells _ t frozen => .cells #[.iface 274 (.agg #[.pointer (some ⟨1, 161, none⟩)])] t frozen
          | o => o } : World) #[.agg #[.int .i64 0, .int .i64 0, .int .i64 0, .int .i64 0, .int .i64 0]] 8 rfl
      (World.shaped_of_ZipB (by kernel_rfl) (by kernel_rfl)) (by kernel_rfl) (by kernel_rfl) (by kernel_rfl)
      (laidMetH_of_parts (laidMet_nil _ _) (by kernel_rfl))) ?_
  intro W base args ds gs before hval0 hW _ _ hsh
  have hval : ∀ (j : Nat) t v, Tryz.f3.params[j]? = some t → args[j]? = some v → Value.okWide Tryz.prog W .any base t v := hval0
  have hW' := hW
  obtain ⟨p, q, hA0, hV, rfl, _, _⟩ := hW
  have hA : DataW.TrodAll enc Tryz.prog W 0 (fun _ => true) true Tryz.f3.params.toList args.toList ds p := hA0
  have hlt := hA.lt
  rw [Tryz.params3] at hA hval
  obtain ⟨v0, d0, rfl, rfl, h0⟩ := trodAll_one hA
  obtain ⟨rfl, rfl⟩ := trodVars_none hV
  obtain ⟨cs0, rfl, _⟩ := okWide_struct Tryz.underlying25 (hval 0 25 v0 rfl rfl)
  have hs : ∃ a c e b r : Int, cs0 = #[.int .i64 a, .int .i64 c, .int .i64 e, .int .i64 b, .int .i64 r] := by
    obtain ⟨fuel, hf⟩ := h0
    obtain ⟨a, c, e, b, r, hc⟩ := config_up hf
    have hc2 : cs0.toList = _ := hc
    exact ⟨a, c, e, b, r, by apply Array.ext'; exact hc2⟩
  obtain ⟨a, c, e, b, r, rfl⟩ := hs
  clear hA0 hval0
  simp only [List.append_nil] at hW'
  refine (makes_any W a c e b r).mono fun x W' ⟨he, hgB⟩ => ?_
  subst he
  have hs0 := Below.trod (by kernel_rfl) (by kernel_rfl) (by rw [err_types]; decide) h0 hgB (fun x hx => hlt x (by simp [hx]))
  exact ⟨_, rfl, _, _, _, [], _, [], hW', trodAll_mk1 (shut_bool Tryz.underlying4 _), trodAll_mk1 hs0, rfl, hgB.frame _, fun h => by cases h⟩

theorem serverMakes_holds : Rows.ServerMakesSaid :=
  OpenClaim.holds_of_wide 3 Tryz.f3 rfl rfl rfl rfl rfl rfl rfl ⟨rfl, rfl, rfl, rfl, rfl⟩ rfl rfl rfl rfl rfl (by kernel_rfl) Tryz.func3 (by kernel_rfl)
    (of_decide_eq_true (by kernel_rfl)) (by unfold Func.isWrapper; first | (rw [if_pos (by decide +kernel)]; kernel_rfl) | (rw [if_neg (by decide +kernel)]; exact ⟨rfl, rfl⟩))
    (fun os started H enc _ => serverMakes_lifted os started H enc)

theorem serverMakes_card : Rows.ServerMakesCardSaid :=
  Claim7.holds_tied_plain_at .later [] [.handle] true (true, "b26c700926d52592408104e2a2f3496aa1e5edb2dfb3941afc7bb0a3aaa22465") true serverMakes_holds (fun _ h => by cases h) (by kernel_rfl) (fun _ h => by cases h) serverMakes_row_tie rfl ⟨rfl, rfl⟩ (by kernel_rfl) rfl
    (fun f fn hf hfn => by
      obtain rfl : f = 3 := Option.some.inj ((show Tryz.prog.funcNamed "callbox/callboxlaw20.ServerMakes" = some 3 by kernel_rfl).symm.trans hf) |>.symm
      obtain rfl : fn = Tryz.f3 := (Option.some.inj (Tryz.func3.symm.trans hfn)).symm
      exact ⟨by kernel_rfl, fun j t ht => by
        rw [Tryz.params3] at ht
        have hm : t ∈ [25] := by simpa using Array.mem_of_getElem? ht
        have hall : ([25].all fun u => !Tryz.prog.wantsStandIn u) = true := by kernel_rfl
        exact (show Tryz.prog.wantsStandIn t = false by simpa using List.all_eq_true.1 hall t hm)⟩)
    (by kernel_rfl)
#print axioms serverMakes_card
end Go.Proofs.YtedbjceeakmjgaaGreatDoor
