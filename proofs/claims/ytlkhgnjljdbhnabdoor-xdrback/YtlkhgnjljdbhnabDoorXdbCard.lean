/- Proved: whatever the input, the law XdrBack of callboxlaw02 (X5: what was laid down is read as it was, a unit shorter it is too short, with more behind it it is too long, and it is a multiple of four bytes) returns true, and each argument reads behind the call as it read before. Conditions: the listed variable of the library starts as the program's text lays it (the card ties it). -/
import Derived.Test.YtlkhgnjljdbhnabDoorTie
import Derived.Test.YtlkhgnjljdbhnabDoorCards
import Derived.Test.YtlkhgnjljdbhnabDoorCk
import Derived.Test.YtlkhgnjljdbhnabDoorYq2
import Derived.Test.YtlkhgnjljdbhnabDoorSk
namespace Go.Proofs.YtlkhgnjljdbhnabDoor
open Go.ChangeMaps Go.ChangeShapes Go.WideShapes Go.ChangeAt Go.RowKit

set_option maxRecDepth 100000 in
theorem xdrBack_lifted (os : Os) (started : os.Started) (H : Type) (enc : TypeId × Value → H) :
    ReturnsInHanded {} Tryd.checked os 3 .any (fun w args => (Rows.xdrBackSpec.pre enc Tryd.prog Tryd.f3 [] false w args ∧ laidMetH Tryd.prog Rows.xdrBackRow.laid w) ∧ sizedMet enc Tryd.prog Tryd.f3 (OpenSpec.ofChange Rows.xdrBackSpec) false w args)
      (Rows.xdrBackSpec.post enc Tryd.prog Tryd.f3 false true false false) := by
  refine lift_law (X := fun w _ => laidMetH Tryd.prog Rows.xdrBackRow.laid w) (fun _ _ _ hh h => h.of_heap hh) started (by kernel_rfl) Tryd.func3
    (ChangeSpec.witness_shaped (enc := enc) (C := Tryd.checked) (os := os) (X := fun w _ => laidMetH Tryd.prog Rows.xdrBackRow.laid w) false
      ({ World.holding Tryd.prog os ⟨#[], #[], []⟩ with heap := (World.holding Tryd.prog os ⟨#[], #[], []⟩).heap.modify 0 fun
          | .cells _ t frozen => .cells #[.iface 115 (.agg #[.pointer (some ⟨2, 54, none⟩)])] t frozen
          | o => o } : World) #[.slice none 0 0, .string ⟨#[]⟩] 3 rfl
      (World.shaped_of_ZipB (by kernel_rfl) (by kernel_rfl)) (by kernel_rfl) (by kernel_rfl) (by kernel_rfl)
      (laidMetH_of_parts (laidMet_nil _ _) (by kernel_rfl))) ?_
  intro W base args ds gs before hval0 hW _ hL hsh
  have hval : ∀ (j : Nat) t v, Tryd.f3.params[j]? = some t → args[j]? = some v → Value.okWide Tryd.prog W .any base t v := hval0
  have hW' := hW
  obtain ⟨p, q, hA0, hV, rfl, _, _⟩ := hW
  have hA : DataW.TrodAll enc Tryd.prog W 0 (fun _ => true) true Tryd.f3.params.toList args.toList ds p := hA0
  have hlt := hA.lt
  rw [Tryd.params3] at hA hval
  obtain ⟨v0, v1, d0, d1, p0, p1, rfl, rfl, rfl, h0, h1⟩ := trodAll_two hA
  obtain ⟨rfl, rfl⟩ := trodVars_none hV
  obtain ⟨oa, b, off, len, cap, K, N, MM, O, T, A, B, rfl, hoa, hlen, hops⟩ := open_script h0 (hval 0 22 v0 rfl rfl)
  obtain ⟨s1, rfl, rfl, rfl, w1⟩ := open_string Tryd.underlying9 (hval 1 9 v1 rfl rfl) h1
  clear hA0 hval0
  have hE : ErrT W := errT_of hL
  have hlen' : (len : Int) ≤ 9223372036854775807 := by
    have : len ≤ 9223372036854775807 := Nat.le_trans hlen (by decide)
    omega
  refine (xdrBack_any oa b off len cap K N MM O T A B s1.data.toList W hoa hops hlen' hE (xawake_any W hE)).mono fun e W' ⟨he, hg⟩ => ?_
  subst he
  have hs0 := Below.trod (by kernel_rfl) (by kernel_rfl) (by rw [err_types]; decide) h0 hg (fun x hx => hlt x (by simp [hx]))
  exact ⟨_, rfl, _, _, _, [], _, [], hW', trodAll_mk1 (shut_bool Tryd.underlying4 _), trodAll_mk2 hs0 (shut_string Tryd.underlying9 w1), rfl, hg.frame _, fun h => by cases h⟩

theorem xdrBack_holds : Rows.XdrBackSaid :=
  OpenClaim.holds_of_wide 3 Tryd.f3 rfl rfl rfl rfl rfl rfl rfl ⟨rfl, rfl, rfl, rfl, rfl⟩ rfl rfl rfl rfl rfl (by kernel_rfl) Tryd.func3 (by kernel_rfl)
    (of_decide_eq_true (by kernel_rfl)) (by unfold Func.isWrapper; first | (rw [if_pos (by decide +kernel)]; kernel_rfl) | (rw [if_neg (by decide +kernel)]; exact ⟨rfl, rfl⟩))
    (fun os started H enc _ => xdrBack_lifted os started H enc)

theorem xdrBack_card : Rows.XdrBackCardSaid :=
  Claim7.holds_tied_plain_at .later [] [.handle] true (true, "bb5ec76ef5062bb35ba98a32babffa063aff948b41c68a619bb9a644222436e6") true xdrBack_holds (fun _ h => by cases h) (by kernel_rfl) (fun _ h => by cases h) xdrBack_row_tie rfl ⟨rfl, rfl⟩ (by kernel_rfl) rfl
    (fun f fn hf hfn => by
      obtain rfl : f = 3 := Option.some.inj ((show Tryd.prog.funcNamed "callbox/callboxlaw02.XdrBack" = some 3 by kernel_rfl).symm.trans hf) |>.symm
      obtain rfl : fn = Tryd.f3 := (Option.some.inj (Tryd.func3.symm.trans hfn)).symm
      exact ⟨by kernel_rfl, fun j t ht => by
        rw [Tryd.params3] at ht
        have hm : t ∈ [22, 9] := by simpa using Array.mem_of_getElem? ht
        have hall : ([22, 9].all fun u => !Tryd.prog.wantsStandIn u) = true := by kernel_rfl
        exact (show Tryd.prog.wantsStandIn t = false by simpa using List.all_eq_true.1 hall t hm)⟩)
    (by kernel_rfl)
#print axioms xdrBack_card
end Go.Proofs.YtlkhgnjljdbhnabDoor
