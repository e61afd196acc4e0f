/- Proved: whatever the input, the law AirPlays of callboxlaw13 (A1 to A4: two Airs in turns, every call, in every order, also when as many are under way as may be: each answer is the document's; the lists that come out are new memory, apart from one another) returns true, and each argument reads behind the call as it read before. No condition. -/
import Derived.Test.YtlnaejhdnbmmjaaPgL
import Derived.Test.YtlnaejhdnbmmjaaPgJ
namespace Go.Proofs.Ytlnaejhdnbmmjaa
open Go.ChangeMaps Go.ChangeShapes Go.WideShapes Go.ChangeAt Go.RowKit
set_option maxRecDepth 100000 in
theorem airPlays_lifted (os : Os) (started : os.Started) (H : Type) (enc : TypeId × Value → H) :
    ReturnsInHanded {} Try.checked os 3 .any (fun w args => Rows.airPlaysSpec.pre enc Try.prog Try.f3 [] false w args ∧ sizedMet enc Try.prog Try.f3 (OpenSpec.ofChange Rows.airPlaysSpec) false w args)
      (Rows.airPlaysSpec.post enc Try.prog Try.f3 false true false false) := by
  refine lift_law started (by kernel_rfl) Try.func3
    (ChangeSpec.witness_shaped (enc := enc) (C := Try.checked) (os := os) (X := fun _ _ => True) false
      (World.holding Try.prog os ⟨#[], #[], []⟩) #[.slice none 0 0] 8 rfl
      (World.shaped_of_ZipB (by kernel_rfl) (by kernel_rfl)) (by kernel_rfl) (by kernel_rfl) (by kernel_rfl)
      trivial) ?_
  intro W base args ds gs before hval0 hW _ _
  have hval : ∀ (j : Nat) t v, Try.f3.params[j]? = some t → args[j]? = some v → Value.okWide Try.prog W .any base t v := hval0
  have hW' := hW
  obtain ⟨p, q, hA0, hV, rfl, _, _⟩ := hW
  have hA : DataW.TrodAll enc Try.prog W 0 (fun _ => true) true Try.f3.params.toList args.toList ds p := hA0
  have hlt := hA.lt
  rw [Try.params3] at hA hval
  obtain ⟨v0, d0, rfl, rfl, h0⟩ := trodAll_one hA
  obtain ⟨rfl, rfl⟩ := trodVars_none hV
  obtain ⟨oa, b, off, len, cap, O, rfl, hoa, hlen, hops⟩ := open_script h0 (hval 0 22 v0 rfl rfl)
  clear hA0 hval0
  have hlen' : (len : Int) ≤ 9223372036854775807 := by
    have : len ≤ 9223372036854775807 := Nat.le_trans hlen (by decide)
    omega
  refine (airPlays_any oa b off len cap O W hoa hops hlen').mono fun e W' ⟨he, hg⟩ => ?_
  subst he
  have hs0 := Below.trod (by kernel_rfl) (by kernel_rfl) (of_decide_eq_true (by kernel_rfl)) h0 hg (fun x hx => hlt x (by simpa using hx))
  exact ⟨_, rfl, _, _, _, [], _, [], hW', trodAll_mk1 (shut_bool Try.underlying4 _), trodAll_mk1 hs0, rfl, hg.frame _, fun h => by cases h⟩

theorem airPlays_holds : Rows.AirPlaysSaid :=
  OpenClaim.holds_of_wide 3 Try.f3 rfl rfl rfl rfl rfl rfl rfl ⟨rfl, rfl, rfl, rfl, rfl⟩ rfl rfl rfl rfl rfl (by kernel_rfl) Try.func3 (by kernel_rfl)
    (of_decide_eq_true (by kernel_rfl)) (by unfold Func.isWrapper; first | (rw [if_pos (by decide +kernel)]; kernel_rfl) | (rw [if_neg (by decide +kernel)]; exact ⟨rfl, rfl⟩))
    (fun os started H enc _ => airPlays_lifted os started H enc)
#print axioms airPlays_holds
end Go.Proofs.Ytlnaejhdnbmmjaa
