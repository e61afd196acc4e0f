/- The client: who is refused. The client: new, as it lies in memory; the config of the examples. -/
import Derived.Test.YtfcbjcebkahehaaGreatDoorZbj
namespace Go.Proofs.YtfcbjcebkahehaaGreatDoor.Cl
open Go.RowKit
def argsB (dst prog vers proc : Int) : Bool := inB dst 1 16777215 && (inB prog 0 4294967295 && (inB vers 0 4294967295 && inB proc 0 4294967295))
def refP (win next water dst prog vers proc : Int) (n : Nat) : Int :=
  if argsB dst prog vers proc then (if 1000 < n ∨ n % 4 ≠ 0 then 173 else if win ≤ next - water then 171 else if 4294967295 < next then 172 else 0) else 1
section
variable {K K' : Nat → Nat} {w w' : World} {B t p : Nat} {c : Cf} {oa : Option Addr} {cap : Nat} {next now : Int} {L : List Wt} {D : List Oc} {vw vd : Value} {q : Mq}
set_option maxRecDepth 8000 in
set_option maxHeartbeats 4000000 in
theorem PC.refuse_any (h : PC K w B t p c oa cap next now L D vw vd q) (dst prog vers proc : Int) (s : ByteArray) (hx : -1000000000000 ≤ next ∧ next ≤ 1000000000000) (hy : -1000000000000 ≤ waterL next L ∧ waterL next L ≤ 1000000000000) :
    Calls Tryz.prog 54 #[ptr p, .int .i64 dst, .int .i64 prog, .int .i64 vers, .int .i64 proc, .string s] w fun e w' => e = .returned (.int .i64 (refP c.win next (waterL next L) dst prog vers proc s.size)) ∧ ∃ k, w' = w.drewN k := by
  obtain ⟨b1, hb1⟩ : ∃ b, inB dst 1 16777215 = b := ⟨_, rfl⟩
  obtain ⟨b2, hb2⟩ : ∃ b, inB prog 0 4294967295 = b := ⟨_, rfl⟩
  obtain ⟨b3, hb3⟩ : ∃ b, inB vers 0 4294967295 = b := ⟨_, rfl⟩
  obtain ⟨b4, hb4⟩ : ∃ b, inB proc 0 4294967295 = b := ⟨_, rfl⟩
  have H1 : Hid (∀ w, Calls Tryz.prog 72 #[.int .i64 dst] w fun e w' => e = .returned (.bool b1) ∧ w' = w) := fun w => by rw [← hb1]; exact address_any w _
  have H2 : Hid (∀ w, Calls Tryz.prog 92 #[.int .i64 prog] w fun e w' => e = .returned (.bool b2) ∧ w' = w) := fun w => by rw [← hb2]; exact word_any w _
  have H3 : Hid (∀ w, Calls Tryz.prog 92 #[.int .i64 vers] w fun e w' => e = .returned (.bool b3) ∧ w' = w) := fun w => by rw [← hb3]; exact word_any w _
  have H4 : Hid (∀ w, Calls Tryz.prog 92 #[.int .i64 proc] w fun e w' => e = .returned (.bool b4) ∧ w' = w) := fun w => by rw [← hb4]; exact word_any w _
  obtain ⟨wa, hwa⟩ : ∃ wa, waterL next L = wa := ⟨_, rfl⟩
  have HW : Hid (∀ i, Calls Tryz.prog 23 #[ptr p] (w.drewN i) fun e w' => e = .returned (.int .i64 wa) ∧ w' = w.drewN i) := fun i => by rw [← hwa]; exact (h.to (mv_drewN w K i) (fun _ e => e.elim)).water_any
  rw [hwa] at hy ⊢
  have c3 : w.cell? ⟨p, 3, none⟩ = some (.int .i64 c.win) := h.ce rfl
  have c12 : w.cell? ⟨p, 12, none⟩ = some (.int .i64 next) := h.ce rfl
  obtain ⟨n, hn⟩ : ∃ n, s.size = n := ⟨_, rfl⟩
  have href : refP c.win next wa dst prog vers proc n = if (b1 && (b2 && (b3 && b4))) then (if 1000 < n ∨ n % 4 ≠ 0 then 173 else if c.win ≤ next - wa then 171 else if 4294967295 < next then 172 else 0) else 1 := by
    unfold refP argsB
    rw [hb1, hb2, hb3, hb4]
  obtain ⟨R, hR⟩ : ∃ R, refP c.win next wa dst prog vers proc n = R := ⟨_, rfl⟩
  rw [hn, hR]
  rw [hR] at href
  have HF := hid href
  have hsub : wrap64 (next - wa) = next - wa := by unfold wrap64; omega
  have hsub2 : IntKind.i64.wrap (next - wa) = next - wa := by rw [IntWalk.i64_left]; exact hsub
  obtain ⟨df, hdf⟩ : ∃ df, next - wa = df := ⟨_, rfl⟩
  rw [hdf] at hsub hsub2 HF
  have hlen : s.size = n := hn
  clear h hb1 hb2 hb3 hb4 hwa href hx hy
  have HE0 : Hid (∃ k, w = w.drewN k) := ⟨0, rfl⟩
  cases b1
  · have hv : R = 1 := by have := HF.out; simpa using this
    subst hv
    clear HF
    go_enter Tryz.func54, Tryz.ntmps54
    go_wp2_with fail
    refine (H1.out _).mono ?_
    rintro _ v1 ⟨rfl, hv1⟩
    rw [hv1]
    clear hv1 v1
    go_wp2
    go_ret
    exact ⟨rfl, HE0.out⟩
  · cases b2
    · have hv : R = 1 := by have := HF.out; simpa using this
      subst hv
      clear HF
      go_enter Tryz.func54, Tryz.ntmps54
      go_wp2_with fail
      refine (H1.out _).mono ?_
      rintro _ v1 ⟨rfl, hv1⟩
      rw [hv1]
      clear hv1 v1
      go_wp2_with fail
      refine (H2.out _).mono ?_
      rintro _ v2 ⟨rfl, hv2⟩
      rw [hv2]
      clear hv2 v2
      go_wp2
      go_ret
      exact ⟨rfl, HE0.out⟩
    · cases b3
      · have hv : R = 1 := by have := HF.out; simpa using this
        subst hv
        clear HF
        go_enter Tryz.func54, Tryz.ntmps54
        go_wp2_with fail
        refine (H1.out _).mono ?_
        rintro _ v1 ⟨rfl, hv1⟩
        rw [hv1]
        clear hv1 v1
        go_wp2_with fail
        refine (H2.out _).mono ?_
        rintro _ v2 ⟨rfl, hv2⟩
        rw [hv2]
        clear hv2 v2
        go_wp2_with fail
        refine (H3.out _).mono ?_
        rintro _ v3 ⟨rfl, hv3⟩
        rw [hv3]
        clear hv3 v3
        go_wp2
        go_ret
        exact ⟨rfl, HE0.out⟩
      · cases b4
        · have hv : R = 1 := by have := HF.out; simpa using this
          subst hv
          clear HF
          go_enter Tryz.func54, Tryz.ntmps54
          go_wp2_with fail
          refine (H1.out _).mono ?_
          rintro _ v1 ⟨rfl, hv1⟩
          rw [hv1]
          clear hv1 v1
          go_wp2_with fail
          refine (H2.out _).mono ?_
          rintro _ v2 ⟨rfl, hv2⟩
          rw [hv2]
          clear hv2 v2
          go_wp2_with fail
          refine (H3.out _).mono ?_
          rintro _ v3 ⟨rfl, hv3⟩
          rw [hv3]
          clear hv3 v3
          go_wp2_with fail
          refine (H4.out _).mono ?_
          rintro _ v4 ⟨rfl, hv4⟩
          rw [hv4]
          clear hv4 v4
          go_wp2
          go_ret
          exact ⟨rfl, HE0.out⟩
        · simp only [Bool.and_self, if_true] at HF
          obtain ⟨m4, hm4⟩ : ∃ m, n % 4 = m := ⟨_, rfl⟩
          have hr4 : Int.tmod (n : Int) 4 = (m4 : Int) := by rw [← hm4]; exact (Int.ofNat_tmod n 4)
          rw [hm4] at HF
          by_cases h1 : 1000 < n
          · have d1 : decide ((1000 : Int) < (n : Int)) = true := by simp; omega
            have hv : R = 173 := by have := HF.out; rw [if_pos (.inl h1)] at this; exact this
            subst hv
            clear HF
            go_enter Tryz.func54, Tryz.ntmps54
            go_wp2_with fail
            refine (H1.out _).mono ?_
            rintro _ v1 ⟨rfl, hv1⟩
            rw [hv1]
            clear hv1 v1
            go_wp2_with fail
            refine (H2.out _).mono ?_
            rintro _ v2 ⟨rfl, hv2⟩
            rw [hv2]
            clear hv2 v2
            go_wp2_with fail
            refine (H3.out _).mono ?_
            rintro _ v3 ⟨rfl, hv3⟩
            rw [hv3]
            clear hv3 v3
            go_wp2_with fail
            refine (H4.out _).mono ?_
            rintro _ v4 ⟨rfl, hv4⟩
            rw [hv4]
            clear hv4 v4
            go_wp2
            go_ret
            exact ⟨rfl, HE0.out⟩
          · have d1 : decide ((1000 : Int) < (n : Int)) = false := by simp; omega
            by_cases h2 : m4 = 0
            · have d2 : ((m4 : Int) == 0) = true := by rw [h2]; rfl
              have hni : ¬ (1000 < n ∨ m4 ≠ 0) := by omega
              by_cases h3 : c.win ≤ df
              · have d3 : decide (c.win ≤ df) = true := by simp [h3]
                have hv : R = 171 := by have := HF.out; rw [if_neg hni, if_pos h3] at this; exact this
                subst hv
                clear HF
                go_enter Tryz.func54, Tryz.ntmps54
                go_wp2_with fail
                refine (H1.out _).mono ?_
                rintro _ v1 ⟨rfl, hv1⟩
                rw [hv1]
                clear hv1 v1
                go_wp2_with fail
                refine (H2.out _).mono ?_
                rintro _ v2 ⟨rfl, hv2⟩
                rw [hv2]
                clear hv2 v2
                go_wp2_with fail
                refine (H3.out _).mono ?_
                rintro _ v3 ⟨rfl, hv3⟩
                rw [hv3]
                clear hv3 v3
                go_wp2_with fail
                refine (H4.out _).mono ?_
                rintro _ v4 ⟨rfl, hv4⟩
                rw [hv4]
                clear hv4 v4
                go_wp2_with fail
                go_quiet ((go_at_call 23; exact Calls.quiet_of_same (HW.out _)))
                go_wp2
                go_ret
                exact ⟨rfl, _, rfl⟩
              · have d3 : decide (c.win ≤ df) = false := by simp; omega
                by_cases h4 : 4294967295 < next
                · have d4 : decide (4294967295 < next) = true := by simp [h4]
                  have hv : R = 172 := by have := HF.out; rw [if_neg hni, if_neg h3, if_pos h4] at this; exact this
                  subst hv
                  clear HF
                  go_enter Tryz.func54, Tryz.ntmps54
                  go_wp2_with fail
                  refine (H1.out _).mono ?_
                  rintro _ v1 ⟨rfl, hv1⟩
                  rw [hv1]
                  clear hv1 v1
                  go_wp2_with fail
                  refine (H2.out _).mono ?_
                  rintro _ v2 ⟨rfl, hv2⟩
                  rw [hv2]
                  clear hv2 v2
                  go_wp2_with fail
                  refine (H3.out _).mono ?_
                  rintro _ v3 ⟨rfl, hv3⟩
                  rw [hv3]
                  clear hv3 v3
                  go_wp2_with fail
                  refine (H4.out _).mono ?_
                  rintro _ v4 ⟨rfl, hv4⟩
                  rw [hv4]
                  clear hv4 v4
                  go_wp2_with fail
                  go_quiet ((go_at_call 23; exact Calls.quiet_of_same (HW.out _)))
                  go_wp2
                  go_ret
                  exact ⟨rfl, _, rfl⟩
                · have d4 : decide (4294967295 < next) = false := by simp; omega
                  have hv : R = 0 := by have := HF.out; rw [if_neg hni, if_neg h3, if_neg h4] at this; exact this
                  subst hv
                  clear HF
                  go_enter Tryz.func54, Tryz.ntmps54
                  go_wp2_with fail
                  refine (H1.out _).mono ?_
                  rintro _ v1 ⟨rfl, hv1⟩
                  rw [hv1]
                  clear hv1 v1
                  go_wp2_with fail
                  refine (H2.out _).mono ?_
                  rintro _ v2 ⟨rfl, hv2⟩
                  rw [hv2]
                  clear hv2 v2
                  go_wp2_with fail
                  refine (H3.out _).mono ?_
                  rintro _ v3 ⟨rfl, hv3⟩
                  rw [hv3]
                  clear hv3 v3
                  go_wp2_with fail
                  refine (H4.out _).mono ?_
                  rintro _ v4 ⟨rfl, hv4⟩
                  rw [hv4]
                  clear hv4 v4
                  go_wp2_with fail
                  go_quiet ((go_at_call 23; exact Calls.quiet_of_same (HW.out _)))
                  go_wp2
                  go_ret
                  exact ⟨rfl, _, rfl⟩
            · have d2 : ((m4 : Int) == 0) = false := by simp; omega
              have hv : R = 173 := by have := HF.out; rw [if_pos (.inr h2)] at this; exact this
              subst hv
              clear HF
              go_enter Tryz.func54, Tryz.ntmps54
              go_wp2_with fail
              refine (H1.out _).mono ?_
              rintro _ v1 ⟨rfl, hv1⟩
              rw [hv1]
              clear hv1 v1
              go_wp2_with fail
              refine (H2.out _).mono ?_
              rintro _ v2 ⟨rfl, hv2⟩
              rw [hv2]
              clear hv2 v2
              go_wp2_with fail
              refine (H3.out _).mono ?_
              rintro _ v3 ⟨rfl, hv3⟩
              rw [hv3]
              clear hv3 v3
              go_wp2_with fail
              refine (H4.out _).mono ?_
              rintro _ v4 ⟨rfl, hv4⟩
              rw [hv4]
              clear hv4 v4
              go_wp2
              go_ret
              exact ⟨rfl, HE0.out⟩
end
end Go.Proofs.YtfcbjcebkahehaaGreatDoor.Cl
namespace Go.Proofs.YtfcbjcebkahehaaGreatDoor.Cl
open Go.RowKit
theorem NewC.pc {w w' : World} {c : Cf} {p : Nat} (h : NewC w w' c p) (K : Nat → Nat) (B t : Nat) (hB : B ≤ w.heap.size) (b1 : 1 < B) (hK : ∀ b, b < B → K b < t) (hok : okC c = true) (hT : ErrT w) :
    ∃ K' q oa cap, PC K' w' B t p c oa cap c.first 0 [] [] (.slice none 0 0) (.slice none 0 0) q ∧ Mv (fun _ => False) w w' K K' := by
  obtain ⟨q, oa, cap, e1, e2, e3, e4, e5, e6, e7⟩ := h.cl
  have hp := h.new
  have hlp : p < w'.heap.size := (Array.getElem?_eq_some_iff.1 e1).1
  refine ⟨ext w K (fun b => if b = p then t else if b = q then t + 5 else t + 6), ⟨q, false, 0, 0⟩, oa, cap, ⟨⟨e1, ?_⟩, RW.nil _ _ _ _ _ _ _, RW.nil _ _ _ _ _ _ _, fun x hx => by simp at hx, by simp, ⟨⟨e2, ?_⟩, Nat.zero_le _, Nat.zero_le _, fun _ => ⟨rfl, rfl⟩⟩, ?_, e3, hok, Nat.le_trans hB h.be.size, hT.below h.be, fun b hb => ?_, b1⟩, Mv.of_below h.be K _⟩
  · rw [ext_new hp, if_pos rfl]
  · rw [ext_new e5, if_neg (Ne.symm e6), if_pos rfl]
  · intro h0
    obtain ⟨g, off, a1, a2, a3, a4⟩ := e4 h0
    refine ⟨g, off, a1, ?_, a3, a4⟩
    have hn := e7 _ a1
    rw [ext_new a2, if_neg hn.2.2.1, if_neg hn.2.2.2]
  · rw [ext_old (Nat.lt_of_lt_of_le hb hB)]; exact hK b hb
end Go.Proofs.YtfcbjcebkahehaaGreatDoor.Cl
