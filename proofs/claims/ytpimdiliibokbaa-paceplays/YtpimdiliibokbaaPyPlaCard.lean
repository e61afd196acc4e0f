/- Proved: whatever the input, the law PacePlays of callboxlaw16 (W4, W5: whatever two meters hear: each number is the document's, bit by bit, of both, behind each step) returns true, and each argument reads behind the call as it read before. No condition. -/
import Derived.Test.YtpimdiliibokbaaPyCk
import Derived.Test.YtpimdiliibokbaaPyWg
namespace Go.Proofs.Ytpimdiliibokbaa
open Go.ChangeMaps Go.ChangeShapes Go.WideShapes Go.ChangeAt Go.RowKit
set_option maxRecDepth 100000 in
theorem pacePlays_lifted (os : Os) (started : os.Started) (H : Type) (enc : TypeId × Value → H) :
    ReturnsInHanded {} Try.checked os 4 .any (fun w args => Rows.pacePlaysSpec.pre enc Try.prog Try.f4 [] false w args ∧ sizedMet enc Try.prog Try.f4 (OpenSpec.ofChange Rows.pacePlaysSpec) false w args)
      (Rows.pacePlaysSpec.post enc Try.prog Try.f4 false true false false) := by
  refine lift_law started (by kernel_rfl) Try.func4
    (ChangeSpec.witness_shaped (enc := enc) (C := Try.checked) (os := os) (X := fun _ _ => True) false
      (World.holding Try.prog os ⟨#[], #[], []⟩) #[.slice none 0 0] 8 rfl
      (World.shaped_of_ZipB (by kernel_rfl) (by kernel_rfl)) (by kernel_rfl) (by kernel_rfl) (by kernel_rfl)
      trivial) ?_
  intro W base args ds gs before hval0 hW hz0 _
  have hval : ∀ (j : Nat) t v, Try.f4.params[j]? = some t → args[j]? = some v → Value.okWide Try.prog W .any base t v := hval0
  have hz : (DataW.weightsEach Try.prog (Try.f4.params.toList ++ Rows.pacePlaysSpec.plain.varTypes Try.prog) (ds ++ gs)).all (· ≤ reachBytes) = true := hz0
  have hW' := hW
  obtain ⟨p, q, hA0, hV, rfl, _, _⟩ := hW
  have hA : DataW.TrodAll enc Try.prog W 0 (fun _ => true) true Try.f4.params.toList args.toList ds p := hA0
  have hlt := hA.lt
  rw [Try.params4] at hA hval hz
  obtain ⟨v0, d0, rfl, rfl, h0⟩ := trodAll_one hA
  obtain ⟨rfl, rfl⟩ := trodVars_none hV
  have k0 := h0
  obtain ⟨oa, b, off, len, cap, T, rfl, hoa, htk, hd⟩ := open_ticks h0 (hval 0 30 v0 rfl rfl)
  have hb_ : Try.prog.bytesOf 40 = 16 := by kernel_rfl
  have hlen : len ≤ 140737488355328 := by
    rcases Nat.eq_zero_or_pos len with e | e
    · rw [e]; omega
    · obtain ⟨elems, spare, e1, e2⟩ := hd e
      have hs := sized_slice (P := Try.prog) hz (j := 0) (t := 30) (e := 40) (elems := elems) (spare := spare) rfl (by rw [e1]; rfl) Try.underlying30
      have hr := reachBytes_lt
      rw [hb_, e2] at hs
      omega
  clear hA0 hval0 hz0
  have key : Calls Try.prog 4 #[.slice oa len cap] W fun e w' => e = .returned (.bool true) ∧ Below W.heap.size W w' := plays_any oa b off len cap T W hoa htk.c0 htk.c1 hlen
  refine key.mono fun e W' ⟨he, hg⟩ => ?_
  subst he
  have hs0 := Below.trod (by kernel_rfl) (by kernel_rfl) (of_decide_eq_true (by kernel_rfl)) k0 hg (fun x hx => hlt x (by simp [hx]))
  exact ⟨_, rfl, _, _, _, [], _, [], hW', trodAll_mk1 (shut_bool Try.underlying4 _), trodAll_mk1 hs0, rfl, hg.frame _, fun h => by cases h⟩
theorem pacePlays_holds : Rows.PacePlaysSaid :=
  OpenClaim.holds_of_wide 4 Try.f4 rfl rfl rfl rfl rfl rfl rfl ⟨rfl, rfl, rfl, rfl, rfl⟩ rfl rfl rfl rfl rfl (by kernel_rfl) Try.func4 (by kernel_rfl)
    (of_decide_eq_true (by kernel_rfl)) (by unfold Func.isWrapper; first | (rw [if_pos (by decide +kernel)]; kernel_rfl) | (rw [if_neg (by decide +kernel)]; exact ⟨rfl, rfl⟩))
    (fun os started H enc _ => pacePlays_lifted os started H enc)
#print axioms pacePlays_holds
end Go.Proofs.Ytpimdiliibokbaa
