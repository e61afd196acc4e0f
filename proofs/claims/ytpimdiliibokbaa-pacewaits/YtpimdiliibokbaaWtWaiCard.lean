/- Proved: whatever the input, the law PaceWaits of callboxlaw16 (W1 to W3: of any pace and any numbers: Right, Total and each Wait are the document's) returns true, and each argument reads behind the call as it read before. No condition. -/
import Derived.Test.YtpimdiliibokbaaWtCk
import Derived.Test.YtpimdiliibokbaaWtWe
namespace Go.Proofs.Ytpimdiliibokbaa
open Go.ChangeMaps Go.ChangeShapes Go.WideShapes Go.ChangeAt Go.RowKit
set_option maxRecDepth 100000 in
theorem paceWaits_lifted (os : Os) (started : os.Started) (H : Type) (enc : TypeId × Value → H) :
    ReturnsInHanded {} Try.checked os 3 .any (fun w args => Rows.paceWaitsSpec.pre enc Try.prog Try.f3 [] false w args ∧ sizedMet enc Try.prog Try.f3 (OpenSpec.ofChange Rows.paceWaitsSpec) false w args)
      (Rows.paceWaitsSpec.post enc Try.prog Try.f3 false true false false) := by
  refine lift_law started (by kernel_rfl) Try.func3
    (ChangeSpec.witness_shaped (enc := enc) (C := Try.checked) (os := os) (X := fun _ _ => True) false
      (World.holding Try.prog os ⟨#[], #[], []⟩) #[.agg #[.int .i64 0, .int .i64 0, .int .i64 0], .slice none 0 0] 8 rfl
      (World.shaped_of_ZipB (by kernel_rfl) (by kernel_rfl)) (by kernel_rfl) (by kernel_rfl) (by kernel_rfl)
      trivial) ?_
  intro W base args ds gs before hval0 hW hz0 _
  have hval : ∀ (j : Nat) t v, Try.f3.params[j]? = some t → args[j]? = some v → Value.okWide Try.prog W .any base t v := hval0
  have hz : (DataW.weightsEach Try.prog (Try.f3.params.toList ++ Rows.paceWaitsSpec.plain.varTypes Try.prog) (ds ++ gs)).all (· ≤ reachBytes) = true := hz0
  have hW' := hW
  obtain ⟨p, q, hA0, hV, rfl, _, _⟩ := hW
  have hA : DataW.TrodAll enc Try.prog W 0 (fun _ => true) true Try.f3.params.toList args.toList ds p := hA0
  have hlt := hA.lt
  rw [Try.params3] at hA hval hz
  obtain ⟨v0, v1, d0, d1, p0, p1, rfl, rfl, rfl, h0, h1⟩ := trodAll_two hA
  obtain ⟨rfl, rfl⟩ := trodVars_none hV
  have k0 := h0
  obtain ⟨r0, r1, r2, rfl⟩ := open_pace h0 (hval 0 23 v0 rfl rfl)
  obtain ⟨oa, b, off, len, cap, V, rfl, hoa, hints, hd⟩ := open_ints h1 (hval 1 24 v1 rfl rfl)
  have hb_ : Try.prog.bytesOf 3 = 8 := by kernel_rfl
  have hlen : len ≤ 140737488355328 := by
    rcases Nat.eq_zero_or_pos len with e | e
    · rw [e]; omega
    · obtain ⟨elems, spare, e1, e2⟩ := hd e
      have hs := sized_slice (P := Try.prog) hz (j := 1) (t := 24) (e := 3) (elems := elems) (spare := spare) rfl (by rw [e1]; rfl) Try.underlying24
      have hr := reachBytes_lt
      rw [hb_, e2] at hs
      omega
  clear hA0 hval0 hz0
  have key : Calls Try.prog 3 #[paV r0 r1 r2, .slice oa len cap] W fun e w' => e = .returned (.bool true) ∧ Below W.heap.size W w' := waits_any r0 r1 r2 oa b off len cap V W hoa hints hlen
  refine key.mono fun e W' ⟨he, hg⟩ => ?_
  subst he
  have hs0 := Below.trod (by kernel_rfl) (by kernel_rfl) (of_decide_eq_true (by kernel_rfl)) k0 hg (fun x hx => hlt x (by simp [hx]))
  have hs1 := Below.trod (by kernel_rfl) (by kernel_rfl) (of_decide_eq_true (by kernel_rfl)) h1 hg (fun x hx => hlt x (by simp [hx]))
  exact ⟨_, rfl, _, _, _, [], _, [], hW', trodAll_mk1 (shut_bool Try.underlying4 _), trodAll_mk2 hs0 hs1, rfl, hg.frame _, fun h => by cases h⟩
theorem paceWaits_holds : Rows.PaceWaitsSaid :=
  OpenClaim.holds_of_wide 3 Try.f3 rfl rfl rfl rfl rfl rfl rfl ⟨rfl, rfl, rfl, rfl, rfl⟩ rfl rfl rfl rfl rfl (by kernel_rfl) Try.func3 (by kernel_rfl)
    (of_decide_eq_true (by kernel_rfl)) (by unfold Func.isWrapper; first | (rw [if_pos (by decide +kernel)]; kernel_rfl) | (rw [if_neg (by decide +kernel)]; exact ⟨rfl, rfl⟩))
    (fun os started H enc _ => paceWaits_lifted os started H enc)
#print axioms paceWaits_holds
end Go.Proofs.Ytpimdiliibokbaa
