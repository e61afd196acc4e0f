/- Proved: whatever the input, the law PaceBounds of callboxlaw16 (W6, the stage's theorem, for a meter: its mean lies between the least and the greatest of what it has heard; its spread between 0 and the greater one of half the first and what lies between those; its guess is a whole number from its mean on, and at most the longest wait) returns true, and each argument reads behind the call as it read before. No condition. -/
import Derived.Test.YtpimdiliibokbaaBoCk
import Derived.Test.YtpimdiliibokbaaBoWi
namespace Go.Proofs.Ytpimdiliibokbaa
open Go.ChangeMaps Go.ChangeShapes Go.WideShapes Go.ChangeAt Go.RowKit
set_option maxRecDepth 100000 in
theorem paceBounds_lifted (os : Os) (started : os.Started) (H : Type) (enc : TypeId × Value → H) :
    ReturnsInHanded {} Try.checked os 6 .any (fun w args => Rows.paceBoundsSpec.pre enc Try.prog Try.f6 [] false w args ∧ sizedMet enc Try.prog Try.f6 (OpenSpec.ofChange Rows.paceBoundsSpec) false w args)
      (Rows.paceBoundsSpec.post enc Try.prog Try.f6 false true false false) := by
  refine lift_law started (by kernel_rfl) Try.func6
    (ChangeSpec.witness_shaped (enc := enc) (C := Try.checked) (os := os) (X := fun _ _ => True) false
      (World.holding Try.prog os ⟨#[], #[], []⟩) #[.slice none 0 0] 8 rfl
      (World.shaped_of_ZipB (by kernel_rfl) (by kernel_rfl)) (by kernel_rfl) (by kernel_rfl) (by kernel_rfl)
      trivial) ?_
  intro W base args ds gs before hval0 hW hz0 _
  have hval : ∀ (j : Nat) t v, Try.f6.params[j]? = some t → args[j]? = some v → Value.okWide Try.prog W .any base t v := hval0
  have hz : (DataW.weightsEach Try.prog (Try.f6.params.toList ++ Rows.paceBoundsSpec.plain.varTypes Try.prog) (ds ++ gs)).all (· ≤ reachBytes) = true := hz0
  have hW' := hW
  obtain ⟨p, q, hA0, hV, rfl, _, _⟩ := hW
  have hA : DataW.TrodAll enc Try.prog W 0 (fun _ => true) true Try.f6.params.toList args.toList ds p := hA0
  have hlt := hA.lt
  rw [Try.params6] at hA hval hz
  obtain ⟨v0, d0, rfl, rfl, h0⟩ := trodAll_one hA
  obtain ⟨rfl, rfl⟩ := trodVars_none hV
  have k0 := h0
  obtain ⟨oa, b, off, len, cap, V, rfl, hoa, hints, hd⟩ := open_ints h0 (hval 0 24 v0 rfl rfl)
  have hb_ : Try.prog.bytesOf 3 = 8 := by kernel_rfl
  have hlen : len ≤ 140737488355328 := by
    rcases Nat.eq_zero_or_pos len with e | e
    · rw [e]; omega
    · obtain ⟨elems, spare, e1, e2⟩ := hd e
      have hs := sized_slice (P := Try.prog) hz (j := 0) (t := 24) (e := 3) (elems := elems) (spare := spare) rfl (by rw [e1]; rfl) Try.underlying24
      have hr := reachBytes_lt
      rw [hb_, e2] at hs
      omega
  clear hA0 hval0 hz0
  have key : Calls Try.prog 6 #[.slice oa len cap] W fun e w' => e = .returned (.bool true) ∧ Below W.heap.size W w' := bounds_any oa b off len cap V W hoa hints hlen
  refine key.mono fun e W' ⟨he, hg⟩ => ?_
  subst he
  have hs0 := Below.trod (by kernel_rfl) (by kernel_rfl) (of_decide_eq_true (by kernel_rfl)) k0 hg (fun x hx => hlt x (by simp [hx]))
  exact ⟨_, rfl, _, _, _, [], _, [], hW', trodAll_mk1 (shut_bool Try.underlying4 _), trodAll_mk1 hs0, rfl, hg.frame _, fun h => by cases h⟩
theorem paceBounds_holds : Rows.PaceBoundsSaid :=
  OpenClaim.holds_of_wide 6 Try.f6 rfl rfl rfl rfl rfl rfl rfl ⟨rfl, rfl, rfl, rfl, rfl⟩ rfl rfl rfl rfl rfl (by kernel_rfl) Try.func6 (by kernel_rfl)
    (of_decide_eq_true (by kernel_rfl)) (by unfold Func.isWrapper; first | (rw [if_pos (by decide +kernel)]; kernel_rfl) | (rw [if_neg (by decide +kernel)]; exact ⟨rfl, rfl⟩))
    (fun os started H enc _ => paceBounds_lifted os started H enc)
#print axioms paceBounds_holds
end Go.Proofs.Ytpimdiliibokbaa
