/- Proved: whatever the input, the law CredPrints of callboxlaw11 (K1: any sys and any mark: the document's credential, or ErrCredField; asked again; what was lent stays as it is) returns true, and each argument reads behind the call as it read before. Conditions: the listed variable of the library starts as the program's text lays it (the card ties it). -/
import Derived.Test.YtihcdahmfdijoaaDoorTie
import Derived.Test.YtihcdahmfdijoaaDoorCards
import Derived.Test.YtihcdahmfdijoaaDoorNc
import Derived.Test.YtihcdahmfdijoaaDoorWh
namespace Go.Proofs.YtihcdahmfdijoaaDoor
open Go.ChangeMaps Go.ChangeShapes Go.WideShapes Go.ChangeAt Go.RowKit
set_option maxRecDepth 100000 in
theorem credPrints_lifted (os : Os) (started : os.Started) (H : Type) (enc : TypeId × Value → H) :
    ReturnsInHanded {} Tryd.checked os 3 .any (fun w args => (Rows.credPrintsSpec.pre enc Tryd.prog Tryd.f3 [] false w args ∧ laidMetH Tryd.prog Rows.credPrintsRow.laid w) ∧ sizedMet enc Tryd.prog Tryd.f3 (OpenSpec.ofChange Rows.credPrintsSpec) false w args)
      (Rows.credPrintsSpec.post enc Tryd.prog Tryd.f3 false true false false) := by
  refine lift_law (X := fun w _ => laidMetH Tryd.prog Rows.credPrintsRow.laid w) (fun _ _ _ hh h => h.of_heap hh) started (by kernel_rfl) Tryd.func3
    (ChangeSpec.witness_shaped (enc := enc) (C := Tryd.checked) (os := os) (X := fun w _ => laidMetH Tryd.prog Rows.credPrintsRow.laid w) false
      ({ World.holding Tryd.prog os ⟨#[], #[], []⟩ with heap := (World.holding Tryd.prog os ⟨#[], #[], []⟩).heap.modify 0 fun
          | .cells _ t frozen => .cells #[.iface 138 (.agg #[.pointer (some ⟨1, 79, none⟩)])] t frozen
          | o => o } : World) #[.agg #[.int .i64 0, .string ⟨#[]⟩, .int .i64 0, .int .i64 0, .slice none 0 0], .agg #[.int .i64 0, .int .i64 0, .int .i64 0, .int .i64 0, .string ⟨#[]⟩, .int .i64 0, .int .i64 0, .slice none 0 0]] 8 rfl
      (World.shaped_of_ZipB (by kernel_rfl) (by kernel_rfl)) (by kernel_rfl) (by kernel_rfl) (by kernel_rfl)
      (laidMetH_of_parts (laidMet_nil _ _) (by kernel_rfl))) ?_
  intro W base args ds gs before hval0 hW _ hL hsh
  have hval : ∀ (j : Nat) t v, Tryd.f3.params[j]? = some t → args[j]? = some v → Value.okWide Tryd.prog W .any base t v := hval0
  have hW' := hW
  obtain ⟨p, q, hA0, hV, rfl, _, _⟩ := hW
  have hA : DataW.TrodAll enc Tryd.prog W 0 (fun _ => true) true Tryd.f3.params.toList args.toList ds p := hA0
  have hlt := hA.lt
  rw [Tryd.params3] at hA hval
  obtain ⟨v0, v1, d0, d1, p0, p1, rfl, rfl, rfl, h0, h1⟩ := trodAll_two hA
  obtain ⟨rfl, rfl⟩ := trodVars_none hV
  obtain ⟨cs0, rfl, _⟩ := okWide_struct Tryd.underlying24 (hval 0 24 v0 rfl rfl)
  obtain ⟨cs1, rfl, _⟩ := okWide_struct Tryd.underlying26 (hval 1 26 v1 rfl rfl)
  have hs : ∃ (s : SysP) (oa : Option Addr) (cap : Nat), cs0 = #[.int .i64 s.stamp, .string ⟨s.machine.toArray⟩, .int .i64 s.user, .int .i64 s.group, .slice oa s.groups.length cap] ∧ GsAt W W.heap.size oa s.groups ∧ s.groups.length ≤ cap ∧ cap ≤ maxLen := by
    obtain ⟨fuel, hf⟩ := h0
    obtain ⟨s, oa, cap, hc, r⟩ := sys_up hf
    have hc2 : cs0.toList = _ := hc
    exact ⟨s, oa, cap, by cases cs0; simp_all, r⟩
  have hm : ∃ (m : MarkP) (oa : Option Addr) (cap : Nat), cs1 = #[.int .i64 m.inst, .int .i64 m.seq, .int .i64 m.water, .int .i64 m.sys.stamp, .string ⟨m.sys.machine.toArray⟩, .int .i64 m.sys.user, .int .i64 m.sys.group, .slice oa m.sys.groups.length cap] ∧ GsAt W W.heap.size oa m.sys.groups ∧ m.sys.groups.length ≤ cap ∧ cap ≤ maxLen := by
    obtain ⟨fuel, hf⟩ := h1
    obtain ⟨s, oa, cap, hc, r⟩ := mark_up hf
    have hc2 : cs1.toList = _ := hc
    exact ⟨s, oa, cap, by cases cs1; simp_all, r⟩
  obtain ⟨s, oa, ca, rfl, hg, hca, hma⟩ := hs
  obtain ⟨m, ob, cb, rfl, hg2, hcb, hmb⟩ := hm
  clear hA0 hval0
  simp only [List.append_nil] at hW'
  have hE : ErrT W := errT_of hL
  refine (credPrints_any s.stamp s.user s.group m.inst m.seq m.water m.sys.stamp m.sys.user m.sys.group s.machine m.sys.machine s.groups m.sys.groups oa ob ca cb W hE hg hg2).mono fun e W' ⟨he, hgB⟩ => ?_
  subst he
  have hs0 := Below.trod (by kernel_rfl) (by kernel_rfl) (by rw [err_types]; decide) h0 hgB (fun x hx => hlt x (by simp [hx]))
  have hs1 := Below.trod (by kernel_rfl) (by kernel_rfl) (by rw [err_types]; decide) h1 hgB (fun x hx => hlt x (by simp [hx]))
  exact ⟨_, rfl, _, _, _, [], _, [], hW', trodAll_mk1 (shut_bool Tryd.underlying4 _), trodAll_mk2 hs0 hs1, rfl, hgB.frame _, fun h => by cases h⟩

theorem credPrints_holds : Rows.CredPrintsSaid :=
  OpenClaim.holds_of_wide 3 Tryd.f3 rfl rfl rfl rfl rfl rfl rfl ⟨rfl, rfl, rfl, rfl, rfl⟩ rfl rfl rfl rfl rfl (by kernel_rfl) Tryd.func3 (by kernel_rfl)
    (of_decide_eq_true (by kernel_rfl)) (by unfold Func.isWrapper; first | (rw [if_pos (by decide +kernel)]; kernel_rfl) | (rw [if_neg (by decide +kernel)]; exact ⟨rfl, rfl⟩))
    (fun os started H enc _ => credPrints_lifted os started H enc)

theorem credPrints_card : Rows.CredPrintsCardSaid :=
  Claim7.holds_tied_plain_at .later [] [.handle] true (true, "c278c82b37865ae1b41d49f8c895dfa30cfc7b9a5397bd02c4f1bca25f688feb") true credPrints_holds (fun _ h => by cases h) (by kernel_rfl) (fun _ h => by cases h) credPrints_row_tie rfl ⟨rfl, rfl⟩ (by kernel_rfl) rfl
    (fun f fn hf hfn => by
      obtain rfl : f = 3 := Option.some.inj ((show Tryd.prog.funcNamed "callbox/callboxlaw11.CredPrints" = some 3 by kernel_rfl).symm.trans hf) |>.symm
      obtain rfl : fn = Tryd.f3 := (Option.some.inj (Tryd.func3.symm.trans hfn)).symm
      exact ⟨by kernel_rfl, fun j t ht => by
        rw [Tryd.params3] at ht
        have hm : t ∈ [24, 26] := by simpa using Array.mem_of_getElem? ht
        have hall : ([24, 26].all fun u => !Tryd.prog.wantsStandIn u) = true := by kernel_rfl
        exact (show Tryd.prog.wantsStandIn t = false by simpa using List.all_eq_true.1 hall t hm)⟩)
    (by kernel_rfl)
#print axioms credPrints_card
end Go.Proofs.YtihcdahmfdijoaaDoor
