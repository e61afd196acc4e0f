/- Proved: whatever the input, the law CredJudges of callboxlaw11 (K3: any call, twice, with another one between: why it is refused; the mark) returns true, and each argument reads behind the call as it read before. Conditions: the listed variable of the library starts as the program's text lays it (the card ties it). -/
import Derived.Test.YtihcdahmfdijoaaGreatDoorTie
import Derived.Test.YtihcdahmfdijoaaGreatDoorCards
import Derived.Test.YtihcdahmfdijoaaGreatDoorNc
import Derived.Test.YtihcdahmfdijoaaGreatDoorHj
namespace Go.Proofs.YtihcdahmfdijoaaGreatDoor
open Go.ChangeMaps Go.ChangeShapes Go.WideShapes Go.ChangeAt Go.RowKit
set_option maxRecDepth 100000 in
theorem credJudges_lifted (os : Os) (started : os.Started) (H : Type) (enc : TypeId × Value → H) :
    ReturnsInHanded {} Tryz.checked os 4 .any (fun w args => (Rows.credJudgesSpec.pre enc Tryz.prog Tryz.f4 [] false w args ∧ laidMetH Tryz.prog Rows.credJudgesRow.laid w) ∧ sizedMet enc Tryz.prog Tryz.f4 (OpenSpec.ofChange Rows.credJudgesSpec) false w args)
      (Rows.credJudgesSpec.post enc Tryz.prog Tryz.f4 false true false false) := by
  refine lift_law (X := fun w _ => laidMetH Tryz.prog Rows.credJudgesRow.laid w) (fun _ _ _ hh h => h.of_heap hh) started (by kernel_rfl) Tryz.func4
    (ChangeSpec.witness_shaped (enc := enc) (C := Tryz.checked) (os := os) (X := fun w _ => laidMetH Tryz.prog Rows.credJudgesRow.laid w) false
      ({ World.holding Tryz.prog os ⟨#[], #[], []⟩ with heap := (World.holding Tryz.prog os ⟨#[], #[], []⟩).heap.modify 0 fun
          | .cells _ t frozen => .cells #[.iface 142 (.agg #[.pointer (some ⟨1, 77, none⟩)])] t frozen
          | o => o } : World) #[.agg #[.int .i64 0, .int .i64 0, .int .i64 0, .int .i64 0, .int .i64 0, .int .i64 0, .string ⟨#[]⟩, .int .i64 0, .string ⟨#[]⟩, .string ⟨#[]⟩], .agg #[.int .i64 0, .int .i64 0, .int .i64 0, .int .i64 0, .int .i64 0, .int .i64 0, .string ⟨#[]⟩, .int .i64 0, .string ⟨#[]⟩, .string ⟨#[]⟩]] 8 rfl
      (World.shaped_of_ZipB (by kernel_rfl) (by kernel_rfl)) (by kernel_rfl) (by kernel_rfl) (by kernel_rfl)
      (laidMetH_of_parts (laidMet_nil _ _) (by kernel_rfl))) ?_
  intro W base args ds gs before hval0 hW _ hL hsh
  have hval : ∀ (j : Nat) t v, Tryz.f4.params[j]? = some t → args[j]? = some v → Value.okWide Tryz.prog W .any base t v := hval0
  have hW' := hW
  obtain ⟨p, q, hA0, hV, rfl, _, _⟩ := hW
  have hA : DataW.TrodAll enc Tryz.prog W 0 (fun _ => true) true Tryz.f4.params.toList args.toList ds p := hA0
  have hlt := hA.lt
  rw [Tryz.params4] at hA hval
  obtain ⟨v0, v1, d0, d1, p0, p1, rfl, rfl, rfl, h0, h1⟩ := trodAll_two hA
  obtain ⟨rfl, rfl⟩ := trodVars_none hV
  obtain ⟨cs0, rfl, _⟩ := okWide_struct Tryz.underlying43 (hval 0 43 v0 rfl rfl)
  obtain ⟨cs1, rfl, _⟩ := okWide_struct Tryz.underlying43 (hval 1 43 v1 rfl rfl)
  have hs : ∃ (xid rpc prog vers proc cf vf : Int) (cr vb : List UInt8) (ar : ByteArray), cs0 = #[.int .i64 xid, .int .i64 rpc, .int .i64 prog, .int .i64 vers, .int .i64 proc, .int .i64 cf, .string ⟨cr.toArray⟩, .int .i64 vf, .string ⟨vb.toArray⟩, .string ar] := by
    obtain ⟨fuel, hf⟩ := h0
    obtain ⟨xid, rpc, prog, vers, proc, cf, vf, cr, vb, ar, hc⟩ := call_up hf
    have hc2 : cs0.toList = _ := hc
    exact ⟨xid, rpc, prog, vers, proc, cf, vf, cr, vb, ar, by cases cs0; simp_all⟩
  have hm : ∃ (xid rpc prog vers proc cf vf : Int) (cr vb : List UInt8) (ar : ByteArray), cs1 = #[.int .i64 xid, .int .i64 rpc, .int .i64 prog, .int .i64 vers, .int .i64 proc, .int .i64 cf, .string ⟨cr.toArray⟩, .int .i64 vf, .string ⟨vb.toArray⟩, .string ar] := by
    obtain ⟨fuel, hf⟩ := h1
    obtain ⟨xid, rpc, prog, vers, proc, cf, vf, cr, vb, ar, hc⟩ := call_up hf
    have hc2 : cs1.toList = _ := hc
    exact ⟨xid, rpc, prog, vers, proc, cf, vf, cr, vb, ar, by cases cs1; simp_all⟩
  obtain ⟨xidA, rpcA, prgA, verA, prcA, cfA, vfA, crA, vbA, arA, rfl⟩ := hs
  obtain ⟨xidB, rpcB, prgB, verB, prcB, cfB, vfB, crB, vbB, arB, rfl⟩ := hm
  clear hA0 hval0
  simp only [List.append_nil] at hW'
  have hE : ErrT W := errT_of hL
  refine (credJudges_any xidA rpcA prgA verA prcA cfA vfA crA vbA arA xidB rpcB prgB verB prcB cfB vfB crB vbB arB W hE).mono fun e W' ⟨he, hgB⟩ => ?_
  subst he
  have hs0 := Below.trod (by kernel_rfl) (by kernel_rfl) (by rw [err_types]; decide) h0 hgB (fun x hx => hlt x (by simp [hx]))
  have hs1 := Below.trod (by kernel_rfl) (by kernel_rfl) (by rw [err_types]; decide) h1 hgB (fun x hx => hlt x (by simp [hx]))
  exact ⟨_, rfl, _, _, _, [], _, [], hW', trodAll_mk1 (shut_bool Tryz.underlying4 _), trodAll_mk2 hs0 hs1, rfl, hgB.frame _, fun h => by cases h⟩

theorem credJudges_holds : Rows.CredJudgesSaid :=
  OpenClaim.holds_of_wide 4 Tryz.f4 rfl rfl rfl rfl rfl rfl rfl ⟨rfl, rfl, rfl, rfl, rfl⟩ rfl rfl rfl rfl rfl (by kernel_rfl) Tryz.func4 (by kernel_rfl)
    (of_decide_eq_true (by kernel_rfl)) (by unfold Func.isWrapper; first | (rw [if_pos (by decide +kernel)]; kernel_rfl) | (rw [if_neg (by decide +kernel)]; exact ⟨rfl, rfl⟩))
    (fun os started H enc _ => credJudges_lifted os started H enc)

theorem credJudges_card : Rows.CredJudgesCardSaid :=
  Claim7.holds_tied_plain_at .later [] [.handle] true (true, "1277066f22f973e80b3661ae31f06bbbec2b1ec6a8b727e6294d971802f1363d") true credJudges_holds (fun _ h => by cases h) (by kernel_rfl) (fun _ h => by cases h) credJudges_row_tie rfl ⟨rfl, rfl⟩ (by kernel_rfl) rfl
    (fun f fn hf hfn => by
      obtain rfl : f = 4 := Option.some.inj ((show Tryz.prog.funcNamed "callbox/callboxlaw11.CredJudges" = some 4 by kernel_rfl).symm.trans hf) |>.symm
      obtain rfl : fn = Tryz.f4 := (Option.some.inj (Tryz.func4.symm.trans hfn)).symm
      exact ⟨by kernel_rfl, fun j t ht => by
        rw [Tryz.params4] at ht
        have hm : t ∈ [43, 43] := by simpa using Array.mem_of_getElem? ht
        have hall : ([43, 43].all fun u => !Tryz.prog.wantsStandIn u) = true := by kernel_rfl
        exact (show Tryz.prog.wantsStandIn t = false by simpa using List.all_eq_true.1 hall t hm)⟩)
    (by kernel_rfl)
#print axioms credJudges_card
end Go.Proofs.YtihcdahmfdijoaaGreatDoor
