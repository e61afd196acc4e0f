/- Proved: whatever the input, the law XdrReads of callboxlaw02 (X3, X4: two Readers of any texts, every row of calls: each answer, and what is left behind each call, is the document's) returns true, and each argument reads behind the call as it read before. Conditions: the listed variable of the library starts as the program's text lays it (the card ties it). -/
import Derived.Test.YtlkhgnjljdbhnabGreatDoorTie
import Derived.Test.YtlkhgnjljdbhnabGreatDoorCards
import Derived.Test.YtlkhgnjljdbhnabGreatDoorEq3
import Derived.Test.YtlkhgnjljdbhnabGreatDoorYq2
import Derived.Test.YtlkhgnjljdbhnabGreatDoorEq2
namespace Go.Proofs.YtlkhgnjljdbhnabGreatDoor
open Go.ChangeMaps Go.ChangeShapes Go.WideShapes Go.ChangeAt Go.RowKit

set_option maxRecDepth 100000 in
theorem xdrReads_lifted (os : Os) (started : os.Started) (H : Type) (enc : TypeId × Value → H) :
    ReturnsInHanded {} Tryz.checked os 3 .any (fun w args => (Rows.xdrReadsSpec.pre enc Tryz.prog Tryz.f3 [] false w args ∧ laidMetH Tryz.prog Rows.xdrReadsRow.laid w) ∧ sizedMet enc Tryz.prog Tryz.f3 (OpenSpec.ofChange Rows.xdrReadsSpec) false w args)
      (Rows.xdrReadsSpec.post enc Tryz.prog Tryz.f3 false true false false) := by
  refine lift_law (X := fun w _ => laidMetH Tryz.prog Rows.xdrReadsRow.laid w) (fun _ _ _ hh h => h.of_heap hh) started (by kernel_rfl) Tryz.func3
    (ChangeSpec.witness_shaped (enc := enc) (C := Tryz.checked) (os := os) (X := fun w _ => laidMetH Tryz.prog Rows.xdrReadsRow.laid w) false
      ({ World.holding Tryz.prog os ⟨#[], #[], []⟩ with heap := (World.holding Tryz.prog os ⟨#[], #[], []⟩).heap.modify 0 fun
          | .cells _ t frozen => .cells #[.iface 114 (.agg #[.pointer (some ⟨2, 48, none⟩)])] t frozen
          | o => o } : World) #[.string ⟨#[]⟩, .string ⟨#[]⟩, .slice none 0 0] 3 rfl
      (World.shaped_of_ZipB (by kernel_rfl) (by kernel_rfl)) (by kernel_rfl) (by kernel_rfl) (by kernel_rfl)
      (laidMetH_of_parts (laidMet_nil _ _) (by kernel_rfl))) ?_
  intro W base args ds gs before hval0 hW _ hL hsh
  have hval : ∀ (j : Nat) t v, Tryz.f3.params[j]? = some t → args[j]? = some v → Value.okWide Tryz.prog W .any base t v := hval0
  have hW' := hW
  obtain ⟨p, q, hA0, hV, rfl, _, _⟩ := hW
  have hA : DataW.TrodAll enc Tryz.prog W 0 (fun _ => true) true Tryz.f3.params.toList args.toList ds p := hA0
  have hlt := hA.lt
  rw [Tryz.params3] at hA hval
  obtain ⟨v0, v1, v2, d0, d1, d2, p0, p1, p2, rfl, rfl, rfl, h0, h1, h2⟩ := trodAll_three hA
  obtain ⟨rfl, rfl⟩ := trodVars_none hV
  obtain ⟨s0, rfl, rfl, rfl, w0⟩ := open_string Tryz.underlying9 (hval 0 9 v0 rfl rfl) h0
  obtain ⟨s1, rfl, rfl, rfl, w1⟩ := open_string Tryz.underlying9 (hval 1 9 v1 rfl rfl) h1
  obtain ⟨oa, b, off, len, cap, K, N, MM, O, T, A, B, rfl, hoa, hlen, hops⟩ := open_script h2 (hval 2 22 v2 rfl rfl)
  clear hA0 hval0
  have hE : ErrT W := errT_of hL
  have hlen' : (len : Int) ≤ 9223372036854775807 := by
    have : len ≤ 9223372036854775807 := Nat.le_trans hlen (by decide)
    omega
  refine (xdrReads_any s0.data.toList s1.data.toList oa b off len cap K N MM O T A B W hoa hops hlen' hE (xawake_any W hE)).mono fun e W' ⟨he, hg⟩ => ?_
  subst he
  have hs2 := Below.trod (by kernel_rfl) (by kernel_rfl) (by rw [err_types]; decide) h2 hg (fun x hx => hlt x (by simp [hx]))
  exact ⟨_, rfl, _, _, _, [], _, [], hW', trodAll_mk1 (shut_bool Tryz.underlying4 _), trodAll_mk3 (shut_string Tryz.underlying9 w0) (shut_string Tryz.underlying9 w1) hs2, rfl, hg.frame _, fun h => by cases h⟩

theorem xdrReads_holds : Rows.XdrReadsSaid :=
  OpenClaim.holds_of_wide 3 Tryz.f3 rfl rfl rfl rfl rfl rfl rfl ⟨rfl, rfl, rfl, rfl, rfl⟩ rfl rfl rfl rfl rfl (by kernel_rfl) Tryz.func3 (by kernel_rfl)
    (of_decide_eq_true (by kernel_rfl)) (by unfold Func.isWrapper; first | (rw [if_pos (by decide +kernel)]; kernel_rfl) | (rw [if_neg (by decide +kernel)]; exact ⟨rfl, rfl⟩))
    (fun os started H enc _ => xdrReads_lifted os started H enc)

theorem xdrReads_card : Rows.XdrReadsCardSaid :=
  Claim7.holds_tied_plain_at .later [] [.handle] true (true, "05be84a3cc4df5c7c93fddf51de5acfe36ac436ad81c50fc027d62c995d13583") true xdrReads_holds (fun _ h => by cases h) (by kernel_rfl) (fun _ h => by cases h) xdrReads_row_tie rfl ⟨rfl, rfl⟩ (by kernel_rfl) rfl
    (fun f fn hf hfn => by
      obtain rfl : f = 3 := Option.some.inj ((show Tryz.prog.funcNamed "callbox/callboxlaw02.XdrReads" = some 3 by kernel_rfl).symm.trans hf) |>.symm
      obtain rfl : fn = Tryz.f3 := (Option.some.inj (Tryz.func3.symm.trans hfn)).symm
      exact ⟨by kernel_rfl, fun j t ht => by
        rw [Tryz.params3] at ht
        have hm : t ∈ [9, 9, 22] := by simpa using Array.mem_of_getElem? ht
        have hall : ([9, 9, 22].all fun u => !Tryz.prog.wantsStandIn u) = true := by kernel_rfl
        exact (show Tryz.prog.wantsStandIn t = false by simpa using List.all_eq_true.1 hall t hm)⟩)
    (by kernel_rfl)
#print axioms xdrReads_card
end Go.Proofs.YtlkhgnjljdbhnabGreatDoor
