/- Proved: whatever the input, the law ServiceFinds of callboxlaw18 (V3, V5, the stage's theorem, without the document's answer: of versions of one program that are offered in any order each is found with just its procedures and the 0; any other version is told the least and the greatest one that are there; any other program nothing) returns true, and each argument reads behind the call as it read before. No condition. -/
import Derived.Test.YtcpjihaicmlmjaaFCk
import Derived.Test.YtcpjihaicmlmjaaFSw
namespace Go.Proofs.Ytcpjihaicmlmjaa
open Go.ChangeMaps Go.ChangeShapes Go.WideShapes Go.ChangeAt Go.RowKit
set_option maxRecDepth 100000 in
theorem serviceFinds_lifted (os : Os) (started : os.Started) (H : Type) (enc : TypeId × Value → H) :
    ReturnsInHanded {} Try.checked os 4 .any (fun w args => Rows.serviceFindsSpec.pre enc Try.prog Try.f4 [] false w args ∧ sizedMet enc Try.prog Try.f4 (OpenSpec.ofChange Rows.serviceFindsSpec) false w args)
      (Rows.serviceFindsSpec.post enc Try.prog Try.f4 false true false false) := by
  refine lift_law started (by kernel_rfl) Try.func4
    (ChangeSpec.witness_shaped (enc := enc) (C := Try.checked) (os := os) (X := fun _ _ => True) false
      (World.holding Try.prog os ⟨#[], #[], []⟩) #[.int .i64 0, .slice none 0 0, .int .i64 0, .int .i64 0] 8 rfl
      (World.shaped_of_ZipB (by kernel_rfl) (by kernel_rfl)) (by kernel_rfl) (by kernel_rfl) (by kernel_rfl)
      trivial) ?_
  intro W base args ds gs before hval0 hW hz0 _
  have hval : ∀ (j : Nat) t v, Try.f4.params[j]? = some t → args[j]? = some v → Value.okWide Try.prog W .any base t v := hval0
  have hz : (DataW.weightsEach Try.prog (Try.f4.params.toList ++ Rows.serviceFindsSpec.plain.varTypes Try.prog) (ds ++ gs)).all (· ≤ reachBytes) = true := hz0
  have hW' := hW
  obtain ⟨p, q, hA0, hV, rfl, _, _⟩ := hW
  have hA : DataW.TrodAll enc Try.prog W 0 (fun _ => true) true Try.f4.params.toList args.toList ds p := hA0
  have hlt := hA.lt
  rw [Try.params4] at hA hval hz
  obtain ⟨v0, v1, v2, v3, d0, d1, d2, d3, p0, p1, p2, p3, rfl, rfl, rfl, h0, h1, h2, h3⟩ := trodAll_four hA
  obtain ⟨rfl, rfl⟩ := trodVars_none hV
  have k0 := h0
  have k1 := h1
  have k2 := h2
  have k3 := h3
  obtain ⟨n0, rfl, _, _, w0⟩ := open_int Try.underlying3 (hval 0 3 v0 rfl rfl) h0
  obtain ⟨n2, rfl, _, _, w2⟩ := open_int Try.underlying3 (hval 2 3 v2 rfl rfl) h2
  obtain ⟨n3, rfl, _, _, w3⟩ := open_int Try.underlying3 (hval 3 3 v3 rfl rfl) h3
  have hv1 : v1.cells.toList = [v1] := by
    obtain ⟨a', l', c', rfl⟩ := okWide_slice Try.underlying32 (hval 1 32 v1 rfl rfl)
    rfl
  obtain ⟨fuel, hf⟩ := h1
  rw [hv1] at hf
  obtain ⟨vs, oa, cap, rfl, hg, h64, hd⟩ := ints_up hf
  have hlen : vs.length ≤ 100000000000000 := by
    rcases Nat.eq_zero_or_pos vs.length with e | e
    · rw [e]; omega
    · obtain ⟨elems, spare, e1, e2⟩ := hd e
      have hs := sized_slice (P := Try.prog) hz (j := 1) (t := 32) (e := 3) (elems := elems) (spare := spare) rfl (by simpa using e1) Try.underlying32
      have hr := reachBytes_lt
      rw [bytes3, e2] at hs
      omega
  clear hA0 hval0 hz0
  refine (finds_any n0 (wf_i64 w0) oa cap vs n2 n3 (wf_i64 w2) W hg h64 hlen).mono fun e W' ⟨he, hb⟩ => ?_
  subst he
  have hs0 := Below.trod (by kernel_rfl) (by kernel_rfl) (of_decide_eq_true (by kernel_rfl)) k0 hb (fun x hx => hlt x (by simp [hx]))
  have hs1 := Below.trod (by kernel_rfl) (by kernel_rfl) (of_decide_eq_true (by kernel_rfl)) k1 hb (fun x hx => hlt x (by simp [hx]))
  have hs2 := Below.trod (by kernel_rfl) (by kernel_rfl) (of_decide_eq_true (by kernel_rfl)) k2 hb (fun x hx => hlt x (by simp [hx]))
  have hs3 := Below.trod (by kernel_rfl) (by kernel_rfl) (of_decide_eq_true (by kernel_rfl)) k3 hb (fun x hx => hlt x (by simp [hx]))
  exact ⟨_, rfl, _, _, _, [], _, [], hW', trodAll_mk1 (shut_bool Try.underlying4 _), trodAll_mk4 hs0 hs1 hs2 hs3, rfl, hb.frame _, fun h => by cases h⟩
theorem serviceFinds_holds : Rows.ServiceFindsSaid :=
  OpenClaim.holds_of_wide 4 Try.f4 rfl rfl rfl rfl rfl rfl rfl ⟨rfl, rfl, rfl, rfl, rfl⟩ rfl rfl rfl rfl rfl (by kernel_rfl) Try.func4 (by kernel_rfl)
    (of_decide_eq_true (by kernel_rfl)) (by unfold Func.isWrapper; first | (rw [if_pos (by decide +kernel)]; kernel_rfl) | (rw [if_neg (by decide +kernel)]; exact ⟨rfl, rfl⟩))
    (fun os started H enc _ => serviceFinds_lifted os started H enc)
#print axioms serviceFinds_holds
end Go.Proofs.Ytcpjihaicmlmjaa
