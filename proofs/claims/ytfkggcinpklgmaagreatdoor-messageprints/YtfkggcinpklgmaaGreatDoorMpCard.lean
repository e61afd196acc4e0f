/- Proved: whatever the input, the law MessagePrints of callboxlaw12 (M1: of any call and any reply PrintCall and PrintReply tell what the document tells: that a field may not be, or its bytes) returns true, and each argument reads behind the call as it read before. Conditions: the listed variable of the library starts as the program's text lays it (the card ties it). -/
import Derived.Test.YtfkggcinpklgmaaGreatDoorTie
import Derived.Test.YtfkggcinpklgmaaGreatDoorCards
import Derived.Test.YtfkggcinpklgmaaGreatDoorPo
import Derived.Test.YtfkggcinpklgmaaGreatDoorQk
namespace Go.Proofs.YtfkggcinpklgmaaGreatDoor
open Go.ChangeMaps Go.ChangeShapes Go.WideShapes Go.ChangeAt Go.RowKit
set_option maxRecDepth 100000 in
theorem messagePrints_lifted (os : Os) (started : os.Started) (H : Type) (enc : TypeId × Value → H) :
    ReturnsInHanded {} Tryz.checked os 3 .any (fun w args => (Rows.messagePrintsSpec.pre enc Tryz.prog Tryz.f3 [] false w args ∧ laidMetH Tryz.prog Rows.messagePrintsRow.laid w) ∧ sizedMet enc Tryz.prog Tryz.f3 (OpenSpec.ofChange Rows.messagePrintsSpec) false w args)
      (Rows.messagePrintsSpec.post enc Tryz.prog Tryz.f3 false true false false) := by
  refine lift_law (X := fun w _ => laidMetH Tryz.prog Rows.messagePrintsRow.laid w) (fun _ _ _ hh h => h.of_heap hh) started (by kernel_rfl) Tryz.func3
    (ChangeSpec.witness_shaped (enc := enc) (C := Tryz.checked) (os := os) (X := fun w _ => laidMetH Tryz.prog Rows.messagePrintsRow.laid w) false
      ({ World.holding Tryz.prog os ⟨#[], #[], []⟩ with heap := (World.holding Tryz.prog os ⟨#[], #[], []⟩).heap.modify 0 fun
          | .cells _ t frozen => .cells #[.iface 163 (.agg #[.pointer (some ⟨1, 70, none⟩)])] t frozen
          | o => o } : World) #[.agg #[.int .i64 0, .int .i64 0, .int .i64 0, .int .i64 0, .int .i64 0, .int .i64 0, .string ⟨#[]⟩, .int .i64 0, .string ⟨#[]⟩, .string ⟨#[]⟩], .agg #[.int .i64 0, .bool false, .int .i64 0, .string ⟨#[]⟩, .int .i64 0, .int .i64 0, .int .i64 0, .int .i64 0, .int .i64 0, .string ⟨#[]⟩]] 8 rfl
      (World.shaped_of_ZipB (by kernel_rfl) (by kernel_rfl)) (by kernel_rfl) (by kernel_rfl) (by kernel_rfl)
      (laidMetH_of_parts (laidMet_nil _ _) (by kernel_rfl))) ?_
  intro W base args ds gs before hval0 hW hwt hL hsh
  have hval : ∀ (j : Nat) t v, Tryz.f3.params[j]? = some t → args[j]? = some v → Value.okWide Tryz.prog W .any base t v := hval0
  have hW' := hW
  obtain ⟨p, q, hA0, hV, rfl, _, _⟩ := hW
  have hA : DataW.TrodAll enc Tryz.prog W 0 (fun _ => true) true Tryz.f3.params.toList args.toList ds p := hA0
  have hlt := hA.lt
  rw [Tryz.params3] at hA hval
  obtain ⟨v0, v1, d0, d1, p0, p1, rfl, rfl, rfl, h0, h1⟩ := trodAll_two hA
  obtain ⟨rfl, rfl⟩ := trodVars_none hV
  obtain ⟨cs0, rfl, _⟩ := okWide_struct Tryz.underlying25 (hval 0 25 v0 rfl rfl)
  obtain ⟨cs1, rfl, _⟩ := okWide_struct Tryz.underlying27 (hval 1 27 v1 rfl rfl)
  have ho0 : ∃ c : CallP, cs0 = (callV c).toArray ∧ Call64 c := by
    obtain ⟨fuel, hf⟩ := h0
    obtain ⟨c, hc, hw⟩ := call_up hf
    have hc2 : cs0.toList = _ := hc
    exact ⟨c, by cases cs0; simp_all, hw (sized_at (j := 0) (t := 25) hwt (by show (Tryz.f3.params.toList ++ _)[0]? = _; rw [Tryz.params3]; rfl) rfl)⟩
  have ho1 : ∃ c : ReplyP, cs1 = (replyV c).toArray ∧ Reply64 c := by
    obtain ⟨fuel, hf⟩ := h1
    obtain ⟨c, hc, hw⟩ := reply_up hf
    have hc2 : cs1.toList = _ := hc
    exact ⟨c, by cases cs1; simp_all, hw (sized_at (j := 1) (t := 27) hwt (by show (Tryz.f3.params.toList ++ _)[1]? = _; rw [Tryz.params3]; rfl) rfl)⟩
  obtain ⟨c0, rfl, k0⟩ := ho0
  obtain ⟨c1, rfl, k1⟩ := ho1
  clear hA0 hval0
  simp only [List.append_nil] at hW'
  have hE : ErrT W := errT_of hL
  refine (messagePrints_any c0 c1 W hE k0.ar k1.rs).mono fun e W' ⟨he, hgB⟩ => ?_
  subst he
  have hs0 := Below.trod (by kernel_rfl) (by kernel_rfl) (by rw [err_types]; decide) h0 hgB (fun x hx => hlt x (by simp [hx]))
  have hs1 := Below.trod (by kernel_rfl) (by kernel_rfl) (by rw [err_types]; decide) h1 hgB (fun x hx => hlt x (by simp [hx]))
  exact ⟨_, rfl, _, _, _, [], _, [], hW', trodAll_mk1 (shut_bool Tryz.underlying4 _), trodAll_mk2 hs0 hs1, rfl, hgB.frame _, fun h => by cases h⟩

theorem messagePrints_holds : Rows.MessagePrintsSaid :=
  OpenClaim.holds_of_wide 3 Tryz.f3 rfl rfl rfl rfl rfl rfl rfl ⟨rfl, rfl, rfl, rfl, rfl⟩ rfl rfl rfl rfl rfl (by kernel_rfl) Tryz.func3 (by kernel_rfl)
    (of_decide_eq_true (by kernel_rfl)) (by unfold Func.isWrapper; first | (rw [if_pos (by decide +kernel)]; kernel_rfl) | (rw [if_neg (by decide +kernel)]; exact ⟨rfl, rfl⟩))
    (fun os started H enc _ => messagePrints_lifted os started H enc)

theorem messagePrints_card : Rows.MessagePrintsCardSaid :=
  Claim7.holds_tied_plain_at .later [] [.handle] true (true, "1041557bbd9cc3aba41afeff8cb9021e0252e033135a7cefd5ce4181c73540c9") true messagePrints_holds (fun _ h => by cases h) (by kernel_rfl) (fun _ h => by cases h) messagePrints_row_tie rfl ⟨rfl, rfl⟩ (by kernel_rfl) rfl
    (fun f fn hf hfn => by
      obtain rfl : f = 3 := Option.some.inj ((show Tryz.prog.funcNamed "callbox/callboxlaw12.MessagePrints" = some 3 by kernel_rfl).symm.trans hf) |>.symm
      obtain rfl : fn = Tryz.f3 := (Option.some.inj (Tryz.func3.symm.trans hfn)).symm
      exact ⟨by kernel_rfl, fun j t ht => by
        rw [Tryz.params3] at ht
        have hm : t ∈ [25, 27] := by simpa using Array.mem_of_getElem? ht
        have hall : ([25, 27].all fun u => !Tryz.prog.wantsStandIn u) = true := by kernel_rfl
        exact (show Tryz.prog.wantsStandIn t = false by simpa using List.all_eq_true.1 hall t hm)⟩)
    (by kernel_rfl)
#print axioms messagePrints_card
end Go.Proofs.YtfkggcinpklgmaaGreatDoor
