/- Proved: whatever the input, the law XdrAgain of callboxlaw02 (X5: whatever is read of any text by any calls, as long as nothing is wrong, is laid down by the same calls as just the bytes that were taken) returns true, and each argument reads behind the call as it read before. Conditions: the listed variable of the library starts as the program's text lays it (the card ties it). -/
import Derived.Test.YtlkhgnjljdbhnabDoorTie
import Derived.Test.YtlkhgnjljdbhnabDoorCards
import Derived.Test.YtlkhgnjljdbhnabDoorTq3
import Derived.Test.YtlkhgnjljdbhnabDoorYq2
import Derived.Test.YtlkhgnjljdbhnabDoorTq2
namespace Go.Proofs.YtlkhgnjljdbhnabDoor
open Go.ChangeMaps Go.ChangeShapes Go.WideShapes Go.ChangeAt Go.RowKit

set_option maxRecDepth 100000 in
theorem xdrAgain_lifted (os : Os) (started : os.Started) (H : Type) (enc : TypeId × Value → H) :
    ReturnsInHanded {} Tryd.checked os 4 .any (fun w args => (Rows.xdrAgainSpec.pre enc Tryd.prog Tryd.f4 [] false w args ∧ laidMetH Tryd.prog Rows.xdrAgainRow.laid w) ∧ sizedMet enc Tryd.prog Tryd.f4 (OpenSpec.ofChange Rows.xdrAgainSpec) false w args)
      (Rows.xdrAgainSpec.post enc Tryd.prog Tryd.f4 false true false false) := by
  refine lift_law (X := fun w _ => laidMetH Tryd.prog Rows.xdrAgainRow.laid w) (fun _ _ _ hh h => h.of_heap hh) started (by kernel_rfl) Tryd.func4
    (ChangeSpec.witness_shaped (enc := enc) (C := Tryd.checked) (os := os) (X := fun w _ => laidMetH Tryd.prog Rows.xdrAgainRow.laid w) false
      ({ World.holding Tryd.prog os ⟨#[], #[], []⟩ with heap := (World.holding Tryd.prog os ⟨#[], #[], []⟩).heap.modify 0 fun
          | .cells _ t frozen => .cells #[.iface 115 (.agg #[.pointer (some ⟨2, 54, none⟩)])] t frozen
          | o => o } : World) #[.string ⟨#[]⟩, .slice none 0 0] 4 rfl
      (World.shaped_of_ZipB (by kernel_rfl) (by kernel_rfl)) (by kernel_rfl) (by kernel_rfl) (by kernel_rfl)
      (laidMetH_of_parts (laidMet_nil _ _) (by kernel_rfl))) ?_
  intro W base args ds gs before hval0 hW _ hL hsh
  have hval : ∀ (j : Nat) t v, Tryd.f4.params[j]? = some t → args[j]? = some v → Value.okWide Tryd.prog W .any base t v := hval0
  have hW' := hW
  obtain ⟨p, q, hA0, hV, rfl, _, _⟩ := hW
  have hA : DataW.TrodAll enc Tryd.prog W 0 (fun _ => true) true Tryd.f4.params.toList args.toList ds p := hA0
  have hlt := hA.lt
  rw [Tryd.params4] at hA hval
  obtain ⟨v0, v1, d0, d1, p0, p1, rfl, rfl, rfl, h0, h1⟩ := trodAll_two hA
  obtain ⟨rfl, rfl⟩ := trodVars_none hV
  obtain ⟨s0, rfl, rfl, rfl, w0⟩ := open_string Tryd.underlying9 (hval 0 9 v0 rfl rfl) h0
  obtain ⟨oa, b, off, len, cap, K, N, MM, O, T, A, B, rfl, hoa, hlen, hops⟩ := open_script h1 (hval 1 22 v1 rfl rfl)
  clear hA0 hval0
  have hE : ErrT W := errT_of hL
  have hlen' : (len : Int) ≤ 9223372036854775807 := by
    have : len ≤ 9223372036854775807 := Nat.le_trans hlen (by decide)
    omega
  refine (xdrAgain_any s0.data.toList oa b off len cap K N MM O T A B W hoa hops hlen' hE (xawake_any W hE)).mono fun e W' ⟨he, hg⟩ => ?_
  subst he
  have hs1 := Below.trod (by kernel_rfl) (by kernel_rfl) (by rw [err_types]; decide) h1 hg (fun x hx => hlt x (by simp [hx]))
  exact ⟨_, rfl, _, _, _, [], _, [], hW', trodAll_mk1 (shut_bool Tryd.underlying4 _), trodAll_mk2 (shut_string Tryd.underlying9 w0) hs1, rfl, hg.frame _, fun h => by cases h⟩

theorem xdrAgain_holds : Rows.XdrAgainSaid :=
  OpenClaim.holds_of_wide 4 Tryd.f4 rfl rfl rfl rfl rfl rfl rfl ⟨rfl, rfl, rfl, rfl, rfl⟩ rfl rfl rfl rfl rfl (by kernel_rfl) Tryd.func4 (by kernel_rfl)
    (of_decide_eq_true (by kernel_rfl)) (by unfold Func.isWrapper; first | (rw [if_pos (by decide +kernel)]; kernel_rfl) | (rw [if_neg (by decide +kernel)]; exact ⟨rfl, rfl⟩))
    (fun os started H enc _ => xdrAgain_lifted os started H enc)

theorem xdrAgain_card : Rows.XdrAgainCardSaid :=
  Claim7.holds_tied_plain_at .later [] [.handle] true (true, "bb5ec76ef5062bb35ba98a32babffa063aff948b41c68a619bb9a644222436e6") true xdrAgain_holds (fun _ h => by cases h) (by kernel_rfl) (fun _ h => by cases h) xdrAgain_row_tie rfl ⟨rfl, rfl⟩ (by kernel_rfl) rfl
    (fun f fn hf hfn => by
      obtain rfl : f = 4 := Option.some.inj ((show Tryd.prog.funcNamed "callbox/callboxlaw02.XdrAgain" = some 4 by kernel_rfl).symm.trans hf) |>.symm
      obtain rfl : fn = Tryd.f4 := (Option.some.inj (Tryd.func4.symm.trans hfn)).symm
      exact ⟨by kernel_rfl, fun j t ht => by
        rw [Tryd.params4] at ht
        have hm : t ∈ [9, 22] := by simpa using Array.mem_of_getElem? ht
        have hall : ([9, 22].all fun u => !Tryd.prog.wantsStandIn u) = true := by kernel_rfl
        exact (show Tryd.prog.wantsStandIn t = false by simpa using List.all_eq_true.1 hall t hm)⟩)
    (by kernel_rfl)
#print axioms xdrAgain_card
end Go.Proofs.YtlkhgnjljdbhnabDoor
