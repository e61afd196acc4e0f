/- Proved: whatever the input, the law RealTexts of callboxlaw01 (N4, N5: the texts of any numbers; of any text, and of texts that are bent, cut or longer, which number it is of, if of any) returns true, and each argument reads behind the call as it read before. Conditions: the listed tables of the library start as the program's text lays them (the card ties them). -/
import Derived.Test.YtbbikogpfpghbaaDoorFrame
import Derived.Test.YtbbikogpfpghbaaDoorTw
import Derived.ChangeMaps5
import Derived.Carry
namespace Go.Proofs.YtbbikogpfpghbaaDoor
open Go.ChangeMaps Go.ChangeShapes Go.WideShapes Go.ChangeAt Go.RowKit

/-- Five parameters: the first, and the four behind it. -/
theorem five_args {H : Type} {enc : TypeId × Value → H} {P : Program} {w : World} {base : Nat} {spare : Nat → Bool} {held : Bool} {a b c d e : TypeId} {args : Array Value} {ds : List (DataW H)} {ps : List MemPlace}
    (h : DataW.TrodAll enc P w base spare held [a, b, c, d, e] args.toList ds ps) :
    ∃ v0 v1 v2 v3 v4 d0 d1 d2 d3 d4 p0 p1 p2 p3 p4, args = #[v0, v1, v2, v3, v4] ∧ ds = [d0, d1, d2, d3, d4] ∧ ps = p0 ++ (p1 ++ p2 ++ p3 ++ p4) ∧ DataW.Trod enc P w base spare held a v0 d0 p0 ∧ DataW.Trod enc P w base spare held b v1 d1 p1 ∧ DataW.Trod enc P w base spare held c v2 d2 p2 ∧ DataW.Trod enc P w base spare held d v3 d3 p3 ∧ DataW.Trod enc P w base spare held e v4 d4 p4 := by
  obtain ⟨v0, vs, d0, dt, p0, q, hargs, rfl, rfl, h0, hrest⟩ := trodAll_cons h
  have hr : DataW.TrodAll enc P w base spare held [b, c, d, e] vs.toArray.toList dt q := by simpa using hrest
  obtain ⟨v1, v2, v3, v4, d1, d2, d3, d4, p1, p2, p3, p4, hv, rfl, rfl, h1, h2, h3, h4⟩ := trodAll_four hr
  refine ⟨v0, v1, v2, v3, v4, d0, d1, d2, d3, d4, p0, p1, p2, p3, p4, ?_, rfl, rfl, h0, h1, h2, h3, h4⟩
  have hvs : vs = [v1, v2, v3, v4] := by
    have := congrArg Array.toList hv
    simpa using this
  cases args
  simp_all

theorem wf_int {n : Int} (h : (Lit.int .i64 n).wf = true) : -9223372036854775808 ≤ n ∧ n ≤ 9223372036854775807 := by
  have hmin : IntKind.i64.min = -9223372036854775808 := rfl
  have hmax : IntKind.i64.max = 9223372036854775807 := rfl
  simp only [Lit.wf, Bool.and_eq_true, decide_eq_true_eq] at h
  omega
theorem len_int {n : Nat} (h : n ≤ maxLen) : (n : Int) ≤ 9223372036854775807 := by
  have : n ≤ 9223372036854775807 := Nat.le_trans h (by decide)
  omega

set_option maxRecDepth 100000 in
theorem realTexts_lifted (os : Os) (started : os.Started) (H : Type) (enc : TypeId × Value → H) :
    ReturnsInHanded {} Tryd.checked os 6 .any (fun w args => (Rows.realTextsSpec.pre enc Tryd.prog Tryd.f6 [] false w args ∧ laidMetH Tryd.prog Rows.realTextsRow.laid w) ∧ sizedMet enc Tryd.prog Tryd.f6 (OpenSpec.ofChange Rows.realTextsSpec) false w args)
      (Rows.realTextsSpec.post enc Tryd.prog Tryd.f6 false true false false) := by
  refine lift_law (X := fun w _ => laidMetH Tryd.prog Rows.realTextsRow.laid w) (fun _ _ _ hh h => h.of_heap hh) started (by kernel_rfl) Tryd.func6
    (ChangeSpec.witness_shaped (enc := enc) (C := Tryd.checked) (os := os) (X := fun w _ => laidMetH Tryd.prog Rows.realTextsRow.laid w) false (World.laidAll Tryd.prog os Rows.realTextsRow.laid) #[.int .i64 0, .int .i64 0, .string ⟨#[]⟩, .int .i64 0, .int .i64 0] 8 (World.laidAll_os _ _ _)
      (World.shaped_of_ZipB (by kernel_rfl) (by kernel_rfl)) (by kernel_rfl) (by kernel_rfl) (by kernel_rfl)
      (by rw [MakeChecks.laidMetH_plain _ _ _ (by kernel_rfl)]; exact laidMet_laidAll _ (by kernel_rfl) (by kernel_rfl))) ?_
  intro W base args ds gs before hval0 hW _ hL hsh
  have hval : ∀ (j : Nat) t v, Tryd.f6.params[j]? = some t → args[j]? = some v → Value.okWide Tryd.prog W .any base t v := hval0
  have hW' := hW
  obtain ⟨p, q, hA0, hV, rfl, _, _⟩ := hW
  have hA : DataW.TrodAll enc Tryd.prog W 0 (fun _ => true) true Tryd.f6.params.toList args.toList ds p := hA0
  rw [Tryd.params6] at hA hval
  obtain ⟨v0, v1, v2, v3, v4, d0, d1, d2, d3, d4, p0, p1, p2, p3, p4, rfl, rfl, rfl, h0, h1, h2, h3, h4⟩ := five_args hA
  obtain ⟨rfl, rfl⟩ := trodVars_none hV
  obtain ⟨a0, rfl, rfl, rfl, w0⟩ := open_int Tryd.underlying3 (hval 0 3 v0 rfl rfl) h0
  obtain ⟨a1, rfl, rfl, rfl, w1⟩ := open_int Tryd.underlying3 (hval 1 3 v1 rfl rfl) h1
  obtain ⟨s, rfl, rfl, rfl, hs⟩ := open_string Tryd.underlying9 (hval 2 9 v2 rfl rfl) h2
  obtain ⟨a3, rfl, rfl, rfl, w3⟩ := open_int Tryd.underlying3 (hval 3 3 v3 rfl rfl) h3
  obtain ⟨a4, rfl, rfl, rfl, w4⟩ := open_int Tryd.underlying3 (hval 4 3 v4 rfl rfl) h4
  clear hA0 hval0
  simp only [List.append_nil] at hW'
  refine (realTexts_any a0 a1 a3 a4 s W (len_int hs) (rd_of hL hsh) (wf_int w3).1 (wf_int w3).2).mono fun e W' ⟨he, hg⟩ => ?_
  subst he
  exact ⟨_, rfl, _, _, _, [], [], [], hW', trodAll_mk1 (shut_bool Tryd.underlying4 _), ⟨[], _, shut_int Tryd.underlying3 w0, trodAll_mk4 (shut_int Tryd.underlying3 w1) (shut_string Tryd.underlying9 hs) (shut_int Tryd.underlying3 w3) (shut_int Tryd.underlying3 w4), rfl⟩, rfl, hg.frame _, fun h => by cases h⟩

theorem realTexts_holds : Rows.RealTextsSaid :=
  OpenClaim.holds_of_wide 6 Tryd.f6 rfl rfl rfl rfl rfl rfl rfl ⟨rfl, rfl, rfl, rfl, rfl⟩ rfl rfl rfl rfl rfl (by kernel_rfl) Tryd.func6 (by kernel_rfl)
    (of_decide_eq_true (by kernel_rfl)) (by unfold Func.isWrapper; first | (rw [if_pos (by decide +kernel)]; kernel_rfl) | (rw [if_neg (by decide +kernel)]; exact ⟨rfl, rfl⟩))
    (fun os started H enc _ => realTexts_lifted os started H enc)

theorem realTexts_card : Rows.RealTextsCardSaid :=
  Claim7.holds_tied_plain_at .later [] [.data, .data, .data, .data, .pinned] true (true, "49fcf4007c3956446352cd449e08bfafddc496d9545b803e6c6382e629a6e425") true realTexts_holds (fun _ h => by cases h) (by kernel_rfl) (fun _ h => by cases h) realTexts_row_tie rfl ⟨rfl, rfl⟩ (by kernel_rfl) rfl
    (fun f fn hf hfn => by
      obtain rfl : f = 6 := Option.some.inj ((show Tryd.prog.funcNamed "callbox/callboxlaw01.RealTexts" = some 6 by kernel_rfl).symm.trans hf) |>.symm
      obtain rfl : fn = Tryd.f6 := (Option.some.inj (Tryd.func6.symm.trans hfn)).symm
      exact ⟨by kernel_rfl, fun j t ht => by
        rw [Tryd.params6] at ht
        have hm : t ∈ [3, 3, 9, 3, 3] := by simpa using Array.mem_of_getElem? ht
        have hall : ([3, 3, 9, 3, 3].all fun u => !Tryd.prog.wantsStandIn u) = true := by kernel_rfl
        exact (show Tryd.prog.wantsStandIn t = false by simpa using List.all_eq_true.1 hall t hm)⟩)
    (by kernel_rfl)
#print axioms realTexts_card
end Go.Proofs.YtbbikogpfpghbaaDoor
