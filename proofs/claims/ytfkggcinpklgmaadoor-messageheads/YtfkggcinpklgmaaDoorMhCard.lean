/- Proved: whatever the input, the law MessageHeads of callboxlaw12 (M2, M4: the arguments of a call, the results of a Success, may be others, and all else is read as it was; a call of another version tells two numbers, whatever stands behind) returns true, and each argument reads behind the call as it read before. Conditions: the listed variable of the library starts as the program's text lays it (the card ties it). -/
import Derived.Test.YtfkggcinpklgmaaDoorTie
import Derived.Test.YtfkggcinpklgmaaDoorCards
import Derived.Test.YtfkggcinpklgmaaDoorPo
import Derived.Test.YtfkggcinpklgmaaDoorPp
namespace Go.Proofs.YtfkggcinpklgmaaDoor
open Go.ChangeMaps Go.ChangeShapes Go.WideShapes Go.ChangeAt Go.RowKit
set_option maxRecDepth 100000 in
theorem messageHeads_lifted (os : Os) (started : os.Started) (H : Type) (enc : TypeId × Value → H) :
    ReturnsInHanded {} Tryd.checked os 4 .any (fun w args => (Rows.messageHeadsSpec.pre enc Tryd.prog Tryd.f4 [] false w args ∧ laidMetH Tryd.prog Rows.messageHeadsRow.laid w) ∧ sizedMet enc Tryd.prog Tryd.f4 (OpenSpec.ofChange Rows.messageHeadsSpec) false w args)
      (Rows.messageHeadsSpec.post enc Tryd.prog Tryd.f4 false true false false) := by
  refine lift_law (X := fun w _ => laidMetH Tryd.prog Rows.messageHeadsRow.laid w) (fun _ _ _ hh h => h.of_heap hh) started (by kernel_rfl) Tryd.func4
    (ChangeSpec.witness_shaped (enc := enc) (C := Tryd.checked) (os := os) (X := fun w _ => laidMetH Tryd.prog Rows.messageHeadsRow.laid w) false
      ({ World.holding Tryd.prog os ⟨#[], #[], []⟩ with heap := (World.holding Tryd.prog os ⟨#[], #[], []⟩).heap.modify 0 fun
          | .cells _ t frozen => .cells #[.iface 143 (.agg #[.pointer (some ⟨1, 60, none⟩)])] t frozen
          | o => o } : World) #[.agg #[.int .i64 0, .int .i64 0, .int .i64 0, .int .i64 0, .int .i64 0, .int .i64 0, .string ⟨#[]⟩, .int .i64 0, .string ⟨#[]⟩, .string ⟨#[]⟩], .agg #[.int .i64 0, .bool false, .int .i64 0, .string ⟨#[]⟩, .int .i64 0, .int .i64 0, .int .i64 0, .int .i64 0, .int .i64 0, .string ⟨#[]⟩], .string ⟨#[]⟩, .int .i64 0] 8 rfl
      (World.shaped_of_ZipB (by kernel_rfl) (by kernel_rfl)) (by kernel_rfl) (by kernel_rfl) (by kernel_rfl)
      (laidMetH_of_parts (laidMet_nil _ _) (by kernel_rfl))) ?_
  intro W base args ds gs before hval0 hW hwt hL hsh
  have hval : ∀ (j : Nat) t v, Tryd.f4.params[j]? = some t → args[j]? = some v → Value.okWide Tryd.prog W .any base t v := hval0
  have hW' := hW
  obtain ⟨p, q, hA0, hV, rfl, _, _⟩ := hW
  have hA : DataW.TrodAll enc Tryd.prog W 0 (fun _ => true) true Tryd.f4.params.toList args.toList ds p := hA0
  have hlt := hA.lt
  rw [Tryd.params4] at hA hval
  obtain ⟨v0, v1, v2, v3, d0, d1, d2, d3, p0, p1, p2, p3, rfl, rfl, rfl, h0, h1, h2, h3⟩ := trodAll_four hA
  obtain ⟨rfl, rfl⟩ := trodVars_none hV
  obtain ⟨cs0, rfl, _⟩ := okWide_struct Tryd.underlying25 (hval 0 25 v0 rfl rfl)
  obtain ⟨cs1, rfl, _⟩ := okWide_struct Tryd.underlying27 (hval 1 27 v1 rfl rfl)
  have ho0 : ∃ c : CallP, cs0 = (callV c).toArray ∧ Call64 c := by
    obtain ⟨fuel, hf⟩ := h0
    obtain ⟨c, hc, hw⟩ := call_up hf
    have hc2 : cs0.toList = _ := hc
    exact ⟨c, by cases cs0; simp_all, hw (sized_at (j := 0) (t := 25) hwt (by show (Tryd.f4.params.toList ++ _)[0]? = _; rw [Tryd.params4]; rfl) rfl)⟩
  have ho1 : ∃ c : ReplyP, cs1 = (replyV c).toArray ∧ Reply64 c := by
    obtain ⟨fuel, hf⟩ := h1
    obtain ⟨c, hc, hw⟩ := reply_up hf
    have hc2 : cs1.toList = _ := hc
    exact ⟨c, by cases cs1; simp_all, hw (sized_at (j := 1) (t := 27) hwt (by show (Tryd.f4.params.toList ++ _)[1]? = _; rw [Tryd.params4]; rfl) rfl)⟩
  obtain ⟨c0, rfl, k0⟩ := ho0
  obtain ⟨c1, rfl, k1⟩ := ho1
  obtain ⟨s2, rfl, rfl, rfl, k2⟩ := open_string Tryd.underlying9 (hval 2 9 v2 rfl rfl) h2
  have l2 : s2.data.toList.length ≤ 140737488355328 := by
    have h1 := sized_string (j := 2) (t := 9) (bytes := s2.data.toList) hwt (by show (Tryd.f4.params.toList ++ _)[2]? = _; rw [Tryd.params4]; rfl) rfl
    exact reach47 h1
  obtain ⟨n3, rfl, rfl, rfl, k3⟩ := open_int Tryd.underlying3 (hval 3 3 v3 rfl rfl) h3
  clear hA0 hval0
  simp only [List.append_nil] at hW'
  have hE : ErrT W := errT_of hL
  refine ((ba_list s2 ▸ messageHeads_any c0 c1 s2.data.toList n3 W hE k0 k1 (wf_i64 k3) : Calls Tryd.prog 4 #[.agg (callV c0).toArray, .agg (replyV c1).toArray, .string s2, .int .i64 n3] W _)).mono fun e W' ⟨he, hgB⟩ => ?_
  subst he
  have hs0 := Below.trod (by kernel_rfl) (by kernel_rfl) (by rw [err_types]; decide) h0 hgB (fun x hx => hlt x (by simp [hx]))
  have hs1 := Below.trod (by kernel_rfl) (by kernel_rfl) (by rw [err_types]; decide) h1 hgB (fun x hx => hlt x (by simp [hx]))
  exact ⟨_, rfl, _, _, _, [], _, [], hW', trodAll_mk1 (shut_bool Tryd.underlying4 _), trodAll_mk4 hs0 hs1 (shut_string Tryd.underlying9 k2) (shut_int Tryd.underlying3 k3), rfl, hgB.frame _, fun h => by cases h⟩

theorem messageHeads_holds : Rows.MessageHeadsSaid :=
  OpenClaim.holds_of_wide 4 Tryd.f4 rfl rfl rfl rfl rfl rfl rfl ⟨rfl, rfl, rfl, rfl, rfl⟩ rfl rfl rfl rfl rfl (by kernel_rfl) Tryd.func4 (by kernel_rfl)
    (of_decide_eq_true (by kernel_rfl)) (by unfold Func.isWrapper; first | (rw [if_pos (by decide +kernel)]; kernel_rfl) | (rw [if_neg (by decide +kernel)]; exact ⟨rfl, rfl⟩))
    (fun os started H enc _ => messageHeads_lifted os started H enc)

theorem messageHeads_card : Rows.MessageHeadsCardSaid :=
  Claim7.holds_tied_plain_at .later [] [.handle] true (true, "6b566719a849ef39b8c840f721fdc30053031813302c2123d2a13cf898043c91") true messageHeads_holds (fun _ h => by cases h) (by kernel_rfl) (fun _ h => by cases h) messageHeads_row_tie rfl ⟨rfl, rfl⟩ (by kernel_rfl) rfl
    (fun f fn hf hfn => by
      obtain rfl : f = 4 := Option.some.inj ((show Tryd.prog.funcNamed "callbox/callboxlaw12.MessageHeads" = some 4 by kernel_rfl).symm.trans hf) |>.symm
      obtain rfl : fn = Tryd.f4 := (Option.some.inj (Tryd.func4.symm.trans hfn)).symm
      exact ⟨by kernel_rfl, fun j t ht => by
        rw [Tryd.params4] at ht
        have hm : t ∈ [25, 27, 9, 3] := by simpa using Array.mem_of_getElem? ht
        have hall : ([25, 27, 9, 3].all fun u => !Tryd.prog.wantsStandIn u) = true := by kernel_rfl
        exact (show Tryd.prog.wantsStandIn t = false by simpa using List.all_eq_true.1 hall t hm)⟩)
    (by kernel_rfl)
#print axioms messageHeads_card
end Go.Proofs.YtfkggcinpklgmaaDoor
