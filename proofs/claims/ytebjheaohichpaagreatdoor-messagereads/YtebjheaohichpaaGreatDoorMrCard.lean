/- Proved: whatever the input, the law MessageReads of callboxlaw12 (M2, M3: any text, and what a call and a reply that may be are printed as, with another byte, cut, and longer: ParseCall and ParseReply tell what the document tells) returns true, and each argument reads behind the call as it read before. Conditions: the listed variable of the library starts as the program's text lays it (the card ties it). -/
import Derived.Test.YtebjheaohichpaaGreatDoorTie
import Derived.Test.YtebjheaohichpaaGreatDoorCards
import Derived.Test.YtebjheaohichpaaGreatDoorPo
import Derived.Test.YtebjheaohichpaaGreatDoorSj
import Derived.Test.YtebjheaohichpaaGreatDoorSk
namespace Go.Proofs.YtebjheaohichpaaGreatDoor
open Go.ChangeMaps Go.ChangeShapes Go.WideShapes Go.ChangeAt Go.RowKit
set_option maxRecDepth 100000 in
theorem messageReads_lifted (os : Os) (started : os.Started) (H : Type) (enc : TypeId × Value → H) :
    ReturnsInHanded {} Tryz.checked os 4 .any (fun w args => (Rows.messageReadsSpec.pre enc Tryz.prog Tryz.f4 [] false w args ∧ laidMetH Tryz.prog Rows.messageReadsRow.laid w) ∧ sizedMet enc Tryz.prog Tryz.f4 (OpenSpec.ofChange Rows.messageReadsSpec) false w args)
      (Rows.messageReadsSpec.post enc Tryz.prog Tryz.f4 false true false false) := by
  refine lift_law (X := fun w _ => laidMetH Tryz.prog Rows.messageReadsRow.laid w) (fun _ _ _ hh h => h.of_heap hh) started (by kernel_rfl) Tryz.func4
    (ChangeSpec.witness_shaped (enc := enc) (C := Tryz.checked) (os := os) (X := fun w _ => laidMetH Tryz.prog Rows.messageReadsRow.laid w) false
      ({ World.holding Tryz.prog os ⟨#[], #[], []⟩ with heap := (World.holding Tryz.prog os ⟨#[], #[], []⟩).heap.modify 0 fun
          | .cells _ t frozen => .cells #[.iface 163 (.agg #[.pointer (some ⟨1, 70, none⟩)])] t frozen
          | o => o } : World) #[.string ⟨#[]⟩, .agg #[.int .i64 0, .int .i64 0, .int .i64 0, .int .i64 0, .int .i64 0, .int .i64 0, .string ⟨#[]⟩, .int .i64 0, .string ⟨#[]⟩, .string ⟨#[]⟩], .agg #[.int .i64 0, .bool false, .int .i64 0, .string ⟨#[]⟩, .int .i64 0, .int .i64 0, .int .i64 0, .int .i64 0, .int .i64 0, .string ⟨#[]⟩], .int .i64 0, .int .i64 0] 8 rfl
      (World.shaped_of_ZipB (by kernel_rfl) (by kernel_rfl)) (by kernel_rfl) (by kernel_rfl) (by kernel_rfl)
      (laidMetH_of_parts (laidMet_nil _ _) (by kernel_rfl))) ?_
  intro W base args ds gs before hval0 hW hwt hL hsh
  have hval : ∀ (j : Nat) t v, Tryz.f4.params[j]? = some t → args[j]? = some v → Value.okWide Tryz.prog W .any base t v := hval0
  have hW' := hW
  obtain ⟨p, q, hA0, hV, rfl, _, _⟩ := hW
  have hA : DataW.TrodAll enc Tryz.prog W 0 (fun _ => true) true Tryz.f4.params.toList args.toList ds p := hA0
  have hlt := hA.lt
  rw [Tryz.params4] at hA hval
  obtain ⟨v0, v1, v2, v3, v4, d0, d1, d2, d3, d4, p0, p1, p2, p3, p4, rfl, rfl, rfl, h0, h1, h2, h3, h4⟩ := trodAll_five hA
  obtain ⟨rfl, rfl⟩ := trodVars_none hV
  obtain ⟨cs1, rfl, _⟩ := okWide_struct Tryz.underlying25 (hval 1 25 v1 rfl rfl)
  obtain ⟨cs2, rfl, _⟩ := okWide_struct Tryz.underlying27 (hval 2 27 v2 rfl rfl)
  have ho1 : ∃ c : CallP, cs1 = (callV c).toArray ∧ Call64 c := by
    obtain ⟨fuel, hf⟩ := h1
    obtain ⟨c, hc, hw⟩ := call_up hf
    have hc2 : cs1.toList = _ := hc
    exact ⟨c, by cases cs1; simp_all, hw (sized_at (j := 1) (t := 25) hwt (by show (Tryz.f4.params.toList ++ _)[1]? = _; rw [Tryz.params4]; rfl) rfl)⟩
  have ho2 : ∃ c : ReplyP, cs2 = (replyV c).toArray ∧ Reply64 c := by
    obtain ⟨fuel, hf⟩ := h2
    obtain ⟨c, hc, hw⟩ := reply_up hf
    have hc2 : cs2.toList = _ := hc
    exact ⟨c, by cases cs2; simp_all, hw (sized_at (j := 2) (t := 27) hwt (by show (Tryz.f4.params.toList ++ _)[2]? = _; rw [Tryz.params4]; rfl) rfl)⟩
  obtain ⟨s0, rfl, rfl, rfl, k0⟩ := open_string Tryz.underlying9 (hval 0 9 v0 rfl rfl) h0
  have l0 : s0.data.toList.length ≤ 140737488355328 := by
    have h1 := sized_string (j := 0) (t := 9) (bytes := s0.data.toList) hwt (by show (Tryz.f4.params.toList ++ _)[0]? = _; rw [Tryz.params4]; rfl) rfl
    exact reach47 h1
  obtain ⟨c1, rfl, k1⟩ := ho1
  obtain ⟨c2, rfl, k2⟩ := ho2
  obtain ⟨n3, rfl, rfl, rfl, k3⟩ := open_int Tryz.underlying3 (hval 3 3 v3 rfl rfl) h3
  obtain ⟨n4, rfl, rfl, rfl, k4⟩ := open_int Tryz.underlying3 (hval 4 3 v4 rfl rfl) h4
  clear hA0 hval0
  simp only [List.append_nil] at hW'
  have hE : ErrT W := errT_of hL
  refine (messageReads_any s0 c1 c2 n3 n4 W hE k1 k2 (wf_i64 k3) (by have := l0; simpa using this)).mono fun e W' ⟨he, hgB⟩ => ?_
  subst he
  have hs1 := Below.trod (by kernel_rfl) (by kernel_rfl) (by rw [err_types]; decide) h1 hgB (fun x hx => hlt x (by simp [hx]))
  have hs2 := Below.trod (by kernel_rfl) (by kernel_rfl) (by rw [err_types]; decide) h2 hgB (fun x hx => hlt x (by simp [hx]))
  exact ⟨_, rfl, _, _, _, [], _, [], hW', trodAll_mk1 (shut_bool Tryz.underlying4 _), trodAll_mk5 (shut_string Tryz.underlying9 k0) hs1 hs2 (shut_int Tryz.underlying3 k3) (shut_int Tryz.underlying3 k4), rfl, hgB.frame _, fun h => by cases h⟩

theorem messageReads_holds : Rows.MessageReadsSaid :=
  OpenClaim.holds_of_wide 4 Tryz.f4 rfl rfl rfl rfl rfl rfl rfl ⟨rfl, rfl, rfl, rfl, rfl⟩ rfl rfl rfl rfl rfl (by kernel_rfl) Tryz.func4 (by kernel_rfl)
    (of_decide_eq_true (by kernel_rfl)) (by unfold Func.isWrapper; first | (rw [if_pos (by decide +kernel)]; kernel_rfl) | (rw [if_neg (by decide +kernel)]; exact ⟨rfl, rfl⟩))
    (fun os started H enc _ => messageReads_lifted os started H enc)

theorem messageReads_card : Rows.MessageReadsCardSaid :=
  Claim7.holds_tied_plain_at .later [] [.handle] true (true, "1041557bbd9cc3aba41afeff8cb9021e0252e033135a7cefd5ce4181c73540c9") true messageReads_holds (fun _ h => by cases h) (by kernel_rfl) (fun _ h => by cases h) messageReads_row_tie rfl ⟨rfl, rfl⟩ (by kernel_rfl) rfl
    (fun f fn hf hfn => by
      obtain rfl : f = 4 := Option.some.inj ((show Tryz.prog.funcNamed "callbox/callboxlaw12.MessageReads" = some 4 by kernel_rfl).symm.trans hf) |>.symm
      obtain rfl : fn = Tryz.f4 := (Option.some.inj (Tryz.func4.symm.trans hfn)).symm
      exact ⟨by kernel_rfl, fun j t ht => by
        rw [Tryz.params4] at ht
        have hm : t ∈ [9, 25, 27, 3, 3] := by simpa using Array.mem_of_getElem? ht
        have hall : ([9, 25, 27, 3, 3].all fun u => !Tryz.prog.wantsStandIn u) = true := by kernel_rfl
        exact (show Tryz.prog.wantsStandIn t = false by simpa using List.all_eq_true.1 hall t hm)⟩)
    (by kernel_rfl)
#print axioms messageReads_card
end Go.Proofs.YtebjheaohichpaaGreatDoor
