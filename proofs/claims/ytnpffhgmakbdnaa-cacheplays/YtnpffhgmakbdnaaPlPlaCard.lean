/- Proved: whatever the input, the law CachePlays of callboxlaw15 (Q1 to Q5: two caches of any numbers, every call in every order, of any clients, sequences, waters and answers: each answer is the document's, and in the end all that they have) returns true, and each argument reads behind the call as it read before. No condition. -/
import Derived.Test.YtnpffhgmakbdnaaPlCk
import Derived.Test.YtnpffhgmakbdnaaPlTc
namespace Go.Proofs.Ytnpffhgmakbdnaa
open Go.ChangeMaps Go.ChangeShapes Go.WideShapes Go.ChangeAt Go.RowKit
theorem okWide_struct23 {w : World} {r : _} {base : Nat} {v : Value} (h : Value.okWide Try.prog w r base 23 v) : ∃ cs, v = .agg cs ∧ cs.size = Try.prog.cellsOf 23 := by
  simp only [Value.okWide, Try.underlying23] at h
  obtain ⟨cs, h1, h2, _⟩ := h
  exact ⟨cs, h1, h2⟩
theorem open_cfg {H : Type} {enc : TypeId × Value → H} {W : World} {base : Nat} {v : Value} {d : DataW H} {ps : List MemPlace} (h : DataW.Trod enc Try.prog W 0 (fun _ => true) true 23 v d ps) (hv : Value.okWide Try.prog W .any base 23 v) :
    ∃ r0 r1 r2 r3, v = cfX r0 r1 r2 r3 := by
  obtain ⟨fuel, hf⟩ := h
  obtain ⟨cs, rfl, hs⟩ := okWide_struct23 hv
  have hc : Try.prog.cellsOf 23 = 4 := by kernel_rfl
  rw [hc] at hs
  obtain ⟨l⟩ := cs
  obtain ⟨v0, v1, v2, v3, rfl⟩ := list4 l (by simpa using hs)
  obtain ⟨xs, k, _, _, _, hxl, hx⟩ := DataW.trod_struct Try.underlying23 hf
  obtain ⟨y0, y1, y2, y3, rfl⟩ := list4 xs hxl
  have g0 : DataW.trod enc Try.prog W 0 (fun _ => true) true k 3 (([v0, v1, v2, v3].drop 0).take (Try.prog.cellsOf 3)) = some y0 := hx 0 _ rfl
  have g1 : DataW.trod enc Try.prog W 0 (fun _ => true) true k 3 (([v0, v1, v2, v3].drop 1).take (Try.prog.cellsOf 3)) = some y1 := hx 1 _ rfl
  have g2 : DataW.trod enc Try.prog W 0 (fun _ => true) true k 3 (([v0, v1, v2, v3].drop 2).take (Try.prog.cellsOf 3)) = some y2 := hx 2 _ rfl
  have g3 : DataW.trod enc Try.prog W 0 (fun _ => true) true k 3 (([v0, v1, v2, v3].drop 3).take (Try.prog.cellsOf 3)) = some y3 := hx 3 _ rfl
  rw [cells3] at g0 g1 g2 g3
  obtain ⟨z0, q0, _, w0⟩ := DataW.trod_int Try.underlying3 (x := y0) g0
  obtain ⟨z1, q1, _, w1⟩ := DataW.trod_int Try.underlying3 (x := y1) g1
  obtain ⟨z2, q2, _, w2⟩ := DataW.trod_int Try.underlying3 (x := y2) g2
  obtain ⟨z3, q3, _, w3⟩ := DataW.trod_int Try.underlying3 (x := y3) g3
  simp at q0 q1 q2 q3
  subst q0 q1 q2 q3
  exact ⟨z0, z1, z2, z3, rfl⟩
set_option maxRecDepth 100000 in
theorem cachePlays_lifted (os : Os) (started : os.Started) (H : Type) (enc : TypeId × Value → H) :
    ReturnsInHanded {} Try.checked os 3 .any (fun w args => Rows.cachePlaysSpec.pre enc Try.prog Try.f3 [] false w args ∧ sizedMet enc Try.prog Try.f3 (OpenSpec.ofChange Rows.cachePlaysSpec) false w args)
      (Rows.cachePlaysSpec.post enc Try.prog Try.f3 false true false false) := by
  refine lift_law started (by kernel_rfl) Try.func3
    (ChangeSpec.witness_shaped (enc := enc) (C := Try.checked) (os := os) (X := fun _ _ => True) false
      (World.holding Try.prog os ⟨#[], #[], []⟩) #[.agg #[.int .i64 0, .int .i64 0, .int .i64 0, .int .i64 0], .agg #[.int .i64 0, .int .i64 0, .int .i64 0, .int .i64 0], .slice none 0 0] 8 rfl
      (World.shaped_of_ZipB (by kernel_rfl) (by kernel_rfl)) (by kernel_rfl) (by kernel_rfl) (by kernel_rfl)
      trivial) ?_
  intro W base args ds gs before hval0 hW hz0 _
  have hval : ∀ (j : Nat) t v, Try.f3.params[j]? = some t → args[j]? = some v → Value.okWide Try.prog W .any base t v := hval0
  have hz : (DataW.weightsEach Try.prog (Try.f3.params.toList ++ Rows.cachePlaysSpec.plain.varTypes Try.prog) (ds ++ gs)).all (· ≤ reachBytes) = true := hz0
  have hW' := hW
  obtain ⟨p, q, hA0, hV, rfl, _, _⟩ := hW
  have hA : DataW.TrodAll enc Try.prog W 0 (fun _ => true) true Try.f3.params.toList args.toList ds p := hA0
  have hlt := hA.lt
  rw [Try.params3] at hA hval hz
  obtain ⟨v0, vm, v1, d0, dm, d1, p0, pm, p1, rfl, rfl, rfl, h0, hm, h1⟩ := trodAll_three hA
  obtain ⟨rfl, rfl⟩ := trodVars_none hV
  have k0 := h0
  have km := hm
  obtain ⟨r0, r1, r2, r3, rfl⟩ := open_cfg h0 (hval 0 23 v0 rfl rfl)
  obtain ⟨s0, s1, s2, s3, rfl⟩ := open_cfg hm (hval 1 23 vm rfl rfl)
  obtain ⟨oa, b, off, len, cap, O, rfl, hoa, hops, hd⟩ := open_ops h1 (hval 2 24 v1 rfl rfl)
  have hb39 : Try.prog.bytesOf 39 = 72 := by kernel_rfl
  have hlen : len * 48 ≤ 140737488355328 := by
    rcases Nat.eq_zero_or_pos len with e | e
    · rw [e]; omega
    · obtain ⟨elems, spare, e1, e2⟩ := hd e
      have hs := sized_slice (P := Try.prog) hz (j := 2) (t := 24) (e := 39) (elems := elems) (spare := spare) rfl (by rw [e1]; rfl) Try.underlying24
      have hr := reachBytes_lt
      rw [hb39, e2] at hs
      omega
  clear hA0 hval0 hz0
  have key : Calls Try.prog 3 #[cfX r0 r1 r2 r3, cfX s0 s1 s2 s3, .slice oa len cap] W fun e w' => e = .returned (.bool true) ∧ Below W.heap.size W w' := plays_any r0 r1 r2 r3 s0 s1 s2 s3 oa b off len cap O W hoa hops hlen
  refine key.mono fun e W' ⟨he, hg⟩ => ?_
  subst he
  have hs0 := Below.trod (by kernel_rfl) (by kernel_rfl) (of_decide_eq_true (by kernel_rfl)) k0 hg (fun x hx => hlt x (by simp [hx]))
  have hsm := Below.trod (by kernel_rfl) (by kernel_rfl) (of_decide_eq_true (by kernel_rfl)) km hg (fun x hx => hlt x (by simp [hx]))
  have hs1 := Below.trod (by kernel_rfl) (by kernel_rfl) (of_decide_eq_true (by kernel_rfl)) h1 hg (fun x hx => hlt x (by simp [hx]))
  exact ⟨_, rfl, _, _, _, [], _, [], hW', trodAll_mk1 (shut_bool Try.underlying4 _), trodAll_mk3 hs0 hsm hs1, rfl, hg.frame _, fun h => by cases h⟩
theorem cachePlays_holds : Rows.CachePlaysSaid :=
  OpenClaim.holds_of_wide 3 Try.f3 rfl rfl rfl rfl rfl rfl rfl ⟨rfl, rfl, rfl, rfl, rfl⟩ rfl rfl rfl rfl rfl (by kernel_rfl) Try.func3 (by kernel_rfl)
    (of_decide_eq_true (by kernel_rfl)) (by unfold Func.isWrapper; first | (rw [if_pos (by decide +kernel)]; kernel_rfl) | (rw [if_neg (by decide +kernel)]; exact ⟨rfl, rfl⟩))
    (fun os started H enc _ => cachePlays_lifted os started H enc)
#print axioms cachePlays_holds
end Go.Proofs.Ytnpffhgmakbdnaa
