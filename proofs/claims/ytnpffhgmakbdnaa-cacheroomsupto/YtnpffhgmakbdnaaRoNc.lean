/- known. -/
import Derived.Test.YtnpffhgmakbdnaaRoNb
namespace Go.Proofs.Ytnpffhgmakbdnaa
open Go.RowKit
abbrev g0 : Cf := ⟨1, 2, 300, 100⟩
abbrev yes : ByteArray := ⟨#[121, 101, 115, 33]⟩
structure KS (W w : World) (K : Nat → Nat) (p mm : Nat) (C : List Cl) (A : Nat) : Prop where
  bs : BS W w K
  tc : TC K w 1 p g0 mm C
  tb : TB K w 2 A (.cells #[.int .i64 65537, .int .i64 7] 37)
section
variable {W w w' : World} {K : Nat → Nat} {p mm A : Nat} {C C' : List Cl}
theorem KS.chg (h : KS W w K p mm C A) (s : PC w' p g0 mm C') (c : Chg (foot p mm C) (foot p mm C') w w') : ∃ K', KS W w' K' p mm C' A := by
  obtain ⟨K', t, m⟩ := h.tc.chg s c
  exact ⟨K', h.bs.mv m (by omega), t, h.tb.mv m (by omega)⟩
theorem KS.below (h : KS W w K p mm C A) (b : Below w.heap.size w w') : ∃ K', KS W w' K' p mm C A := h.chg (h.tc.pc.below b) (Chg.of_below _ b)
theorem KS.b0 (h : KS W w K p mm C A) : w.cell? ⟨A, 0, none⟩ = some (.int .i64 65537) := by unfold World.cell?; rw [h.tb.at_]; rfl
theorem KS.b1 (h : KS W w K p mm C A) : w.cell? ⟨A, 1, none⟩ = some (.int .i64 7) := by unfold World.cell?; rw [h.tb.at_]; rfl
end
theorem raise_low {c : Cl} {water : Int} (h : water ≤ c.water) : raiseC c water = c := if_pos h
theorem k_ask2 {b m : Nat} {v : Int} {s : ByteArray} {C' : List Cl} (h : AskR g0 [⟨65537, 7, 1, [newE 1], b, m⟩] 65537 7 1 1 v s C') (hc : ClOk g0 ⟨65537, 7, 1, [newE 1], b, m⟩) : v = 2 ∧ s = ⟨#[]⟩ ∧ C' = [⟨65537, 7, 1, [newE 1], b, m⟩] := by
  have hd := raise_low (c := ⟨65537, 7, 1, [newE 1], b, m⟩) (water := 1) (show (1 : Int) ≤ 1 by decide)
  have hf : enAt [newE 1] 1 = some (newE 1) := rfl
  rcases ask1 h ⟨rfl, rfl⟩ (by decide) (by decide) (by decide) (by decide) (by rw [hd]; exact (by decide : ¬ (1 : Int) < 1)) hc with ⟨e, q1, q2, q3, q4⟩ | ⟨q1, _⟩ | ⟨q1, _⟩
  · rw [hd] at q1 q4
    obtain rfl : newE 1 = e := Option.some.inj (hf.symm.trans q1)
    exact ⟨q2, q3, q4⟩
  · rw [hd] at q1; exact absurd (hf.symm.trans q1) (by simp)
  · rw [hd] at q1; exact absurd (hf.symm.trans q1) (by simp)
theorem k_done {b m : Nat} {v : Int} {C' : List Cl} (h : DoneR g0 [⟨65537, 7, 1, [newE 1], b, m⟩] 65537 7 1 yes v C') : v = 0 ∧ C' = [⟨65537, 7, 1, [⟨1, true, yes⟩], b, m⟩] := by
  cases h with
  | none q => exact absurd (q ⟨65537, 7, 1, [newE 1], b, m⟩ (by simp) ⟨rfl, rfl⟩) (show ¬ busyE (enAt [newE 1] 1) = false by decide)
  | long c _ _ _ q => exact absurd q (by decide)
  | ok A B c E1 E2 e q1 q2 q3 q4 q5 q6 =>
    obtain ⟨rfl, rfl, rfl⟩ := one_cut q1
    cases E1 with
    | nil =>
      have q7 : E2 = [] := by
        have := congrArg List.length q3
        simp at this
        exact this
      subst q7
      exact ⟨rfl, rfl⟩
    | cons x E1 =>
      have := congrArg List.length q3
      simp at this
theorem k_ask3 {b m : Nat} {v : Int} {s : ByteArray} {C' : List Cl} (h : AskR g0 [⟨65537, 7, 1, [⟨1, true, yes⟩], b, m⟩] 65537 7 1 1 v s C') (hc : ClOk g0 ⟨65537, 7, 1, [⟨1, true, yes⟩], b, m⟩) : v = 3 ∧ s = yes ∧ C' = [⟨65537, 7, 1, [⟨1, true, yes⟩], b, m⟩] := by
  have hd := raise_low (c := ⟨65537, 7, 1, [⟨1, true, yes⟩], b, m⟩) (water := 1) (show (1 : Int) ≤ 1 by decide)
  have hf : enAt [⟨1, true, yes⟩] 1 = some ⟨1, true, yes⟩ := rfl
  rcases ask1 h ⟨rfl, rfl⟩ (by decide) (by decide) (by decide) (by decide) (by rw [hd]; exact (by decide : ¬ (1 : Int) < 1)) hc with ⟨e, q1, q2, q3, q4⟩ | ⟨q1, _⟩ | ⟨q1, _⟩
  · rw [hd] at q1 q4
    obtain rfl : (⟨1, true, yes⟩ : En) = e := Option.some.inj (hf.symm.trans q1)
    exact ⟨q2, q3, q4⟩
  · rw [hd] at q1; exact absurd (hf.symm.trans q1) (by simp)
  · rw [hd] at q1; exact absurd (hf.symm.trans q1) (by simp)
theorem k_ask4 {b m : Nat} {v : Int} {s : ByteArray} {C' : List Cl} (h : AskR g0 [⟨65537, 7, 1, [⟨1, true, yes⟩], b, m⟩] 65537 7 2 1 v s C') (hc : ClOk g0 ⟨65537, 7, 1, [⟨1, true, yes⟩], b, m⟩) : v = 1 ∧ s = ⟨#[]⟩ ∧ C' = [⟨65537, 7, 1, [⟨1, true, yes⟩, newE 2], b, m⟩] := by
  have hd := raise_low (c := ⟨65537, 7, 1, [⟨1, true, yes⟩], b, m⟩) (water := 1) (show (1 : Int) ≤ 1 by decide)
  have hf : enAt [⟨1, true, yes⟩] 2 = none := rfl
  rcases ask1 h ⟨rfl, rfl⟩ (by decide) (by decide) (by decide) (by decide) (by rw [hd]; exact (by decide : ¬ (2 : Int) < 1)) hc with ⟨e, q1, q2, q3, q4⟩ | ⟨_, q1, _⟩ | ⟨q1, q2, q3, q4, q5⟩
  · rw [hd] at q1; exact absurd (hf.symm.trans q1) (by simp)
  · rw [hd] at q1; exact absurd q1 (show ¬ ((2 : Nat) ≤ 1 ∨ ¬ 4 + 100 ≤ 300) by decide)
  · rw [hd] at q5; exact ⟨q3, q4, q5⟩
theorem k_ask5 {b m : Nat} {v : Int} {s : ByteArray} {C' : List Cl} (h : AskR g0 [⟨65537, 7, 1, [⟨1, true, yes⟩, newE 2], b, m⟩] 65537 7 3 1 v s C') (hc : ClOk g0 ⟨65537, 7, 1, [⟨1, true, yes⟩, newE 2], b, m⟩) : v = 5 ∧ s = ⟨#[]⟩ ∧ C' = [⟨65537, 7, 1, [⟨1, true, yes⟩, newE 2], b, m⟩] := by
  have hd := raise_low (c := ⟨65537, 7, 1, [⟨1, true, yes⟩, newE 2], b, m⟩) (water := 1) (show (1 : Int) ≤ 1 by decide)
  have hf : enAt [⟨1, true, yes⟩, newE 2] 3 = none := rfl
  rcases ask1 h ⟨rfl, rfl⟩ (by decide) (by decide) (by decide) (by decide) (by rw [hd]; exact (by decide : ¬ (3 : Int) < 1)) hc with ⟨e, q1, q2, q3, q4⟩ | ⟨_, q1, q3, q4, q5⟩ | ⟨q1, q2, _⟩
  · rw [hd] at q1; exact absurd (hf.symm.trans q1) (by simp)
  · rw [hd] at q5; exact ⟨q3, q4, q5⟩
  · rw [hd] at q2; exact absurd (.inl (Nat.le_refl 2)) q2
theorem k_ask6 {b m : Nat} {v : Int} {s : ByteArray} {C' : List Cl} (h : AskR g0 [⟨65537, 7, 1, [⟨1, true, yes⟩, newE 2], b, m⟩] 65537 7 3 2 v s C') (hc : ClOk g0 ⟨65537, 7, 1, [⟨1, true, yes⟩, newE 2], b, m⟩) : v = 1 ∧ s = ⟨#[]⟩ ∧ C' = [⟨65537, 7, 2, [newE 2, newE 3], b, m⟩] := by
  have hd : raiseC (⟨65537, 7, 1, [⟨1, true, yes⟩, newE 2], b, m⟩ : Cl) 2 = ⟨65537, 7, 2, [newE 2], b, m⟩ := by
    unfold raiseC
    rw [if_neg (show ¬ (2 : Int) ≤ 1 by decide)]
    rfl
  have hf : enAt [newE 2] 3 = none := rfl
  rcases ask1 h ⟨rfl, rfl⟩ (by decide) (by decide) (by decide) (by decide) (by rw [hd]; exact (by decide : ¬ (3 : Int) < 2)) hc with ⟨e, q1, q2, q3, q4⟩ | ⟨_, q1, q3, q4, q5⟩ | ⟨q1, q2, q3, q4, q5⟩
  · rw [hd] at q1; exact absurd (hf.symm.trans q1) (by simp)
  · rw [hd] at q1; exact absurd q1 (show ¬ ((2 : Nat) ≤ 1 ∨ ¬ 100 + 100 ≤ 300) by decide)
  · rw [hd] at q5; exact ⟨q3, q4, q5⟩
set_option maxRecDepth 8000 in
theorem known_all (w : World) : Calls Try.prog 6 #[] w fun e w' => e = .returned (.bool true) ∧ Below w.heap.size w w' := by
  have HN := hid (new_good w g0 ⟨by decide, by decide, by decide, by decide⟩)
  go_enter Try.func6, Try.ntmps6
  go_wp2_with fail
  refine HN.out.mono ?_
  rintro _ w1 ⟨p, mm, rfl, h1, b1, lp, lm⟩
  obtain ⟨K1, t1, m1⟩ := TC.made h1 b1 lp lm (fun _ => 0) 1
  have s1 := (BS.first w).mv m1 id
  obtain ⟨w2, hw2⟩ : ∃ w2, w1.alloc (.cells #[.int .i64 65537, .int .i64 7] 37) = w2 := ⟨_, rfl⟩
  obtain ⟨A, hA⟩ : ∃ A, w1.heap.size = A := ⟨_, rfl⟩
  obtain ⟨K2, H2⟩ : ∃ K2, Hid (KS w w2 K2 p mm [] A) := by
    have v := Mv.alloc w1 K1 (fun _ => 2) (.cells #[.int .i64 65537, .int .i64 7] 37)
    have tb := TB.new w1 K1 (fun _ => 2) (.cells #[.int .i64 65537, .int .i64 7] 37) (t := 2) rfl
    rw [hw2] at v tb
    rw [hA] at tb
    exact ⟨_, s1.mv v id, t1.mv v id, tb⟩
  have y20 := H2.out.b0
  have y21 := H2.out.b1
  clear h1 b1 lp lm t1 m1 s1
  go_wp2_with fail
  refine (ask_any H2.out.tc.pc 65537 7 1 1).mono ?_
  rintro _ w3 ⟨v, s, C', rfl, hR, hP, hC⟩
  obtain ⟨rfl, rfl, b, m, rfl⟩ := ask0 hR (by decide) (by decide) (by decide) (by decide) (by decide) (by decide) (by decide)
  obtain ⟨K3, hs⟩ := H2.out.chg hP hC
  have H3 := hid hs
  have y30 := H3.out.b0
  have y31 := H3.out.b1
  clear hP hC hs hR
  go_wp2_with fail
  refine (ask_any H3.out.tc.pc 65537 7 1 1).mono ?_
  rintro _ w4 ⟨v, s, C', rfl, hR, hP, hC⟩
  obtain ⟨rfl, rfl, rfl⟩ := k_ask2 hR (H3.out.tc.pc.st.cl _ (by simp))
  obtain ⟨K4, hs⟩ := H3.out.chg hP hC
  have H4 := hid hs
  have y40 := H4.out.b0
  have y41 := H4.out.b1
  clear hP hC hs hR
  go_wp2_with fail
  refine (bytes_any H4.out.tc.pc).mono ?_
  rintro _ w5 ⟨rfl, hB⟩
  obtain ⟨K5, hs⟩ := H4.out.below hB
  have H5 := hid hs
  have y50 := H5.out.b0
  have y51 := H5.out.b1
  rw [show sumC (fun c => byt g0.rs c.ents) [⟨65537, 7, 1, [newE 1], b, m⟩] = 100 from rfl]
  clear hB hs
  go_wp2_with fail
  refine (done_any H5.out.tc.pc yes ⟨by decide, by decide⟩ (by decide) (a := 65537) (i := 7) (seq := 1)).mono ?_
  rintro _ w6 ⟨v, C', rfl, hR, hP, hC⟩
  obtain ⟨rfl, rfl⟩ := k_done hR
  obtain ⟨K6, hs⟩ := H5.out.chg hP hC
  have H6 := hid hs
  have y60 := H6.out.b0
  have y61 := H6.out.b1
  clear hP hC hs hR
  go_wp2_with fail
  refine (ask_any H6.out.tc.pc 65537 7 1 1).mono ?_
  rintro _ w7 ⟨v, s, C', rfl, hR, hP, hC⟩
  obtain ⟨rfl, rfl, rfl⟩ := k_ask3 hR (H6.out.tc.pc.st.cl _ (by simp))
  obtain ⟨K7, hs⟩ := H6.out.chg hP hC
  have H7 := hid hs
  have y70 := H7.out.b0
  have y71 := H7.out.b1
  clear hP hC hs hR
  go_wp2_with fail
  refine (ask_any H7.out.tc.pc 65537 7 2 1).mono ?_
  rintro _ w8 ⟨v, s, C', rfl, hR, hP, hC⟩
  obtain ⟨rfl, rfl, rfl⟩ := k_ask4 hR (H7.out.tc.pc.st.cl _ (by simp))
  obtain ⟨K8, hs⟩ := H7.out.chg hP hC
  have H8 := hid hs
  have y80 := H8.out.b0
  have y81 := H8.out.b1
  clear hP hC hs hR
  go_wp2_with fail
  refine (ask_any H8.out.tc.pc 65537 7 3 1).mono ?_
  rintro _ w9 ⟨v, s, C', rfl, hR, hP, hC⟩
  obtain ⟨rfl, rfl, rfl⟩ := k_ask5 hR (H8.out.tc.pc.st.cl _ (by simp))
  obtain ⟨K9, hs⟩ := H8.out.chg hP hC
  have H9 := hid hs
  have y90 := H9.out.b0
  have y91 := H9.out.b1
  clear hP hC hs hR
  go_wp2_with fail
  refine (ask_any H9.out.tc.pc 65537 7 3 2).mono ?_
  rintro _ w10 ⟨v, s, C', rfl, hR, hP, hC⟩
  obtain ⟨rfl, rfl, rfl⟩ := k_ask6 hR (H9.out.tc.pc.st.cl _ (by simp))
  obtain ⟨K10, hs⟩ := H9.out.chg hP hC
  have H10 := hid hs
  have y100 := H10.out.b0
  have y101 := H10.out.b1
  clear hP hC hs hR
  go_wp2_with fail
  refine (entries_any H10.out.tc.pc).mono ?_
  rintro _ w11 ⟨rfl, hB⟩
  obtain ⟨K11, hs⟩ := H10.out.below hB
  have H11 := hid hs
  have y110 := H11.out.b0
  have y111 := H11.out.b1
  rw [show sumC (fun c => c.ents.length) [⟨65537, 7, 2, [newE 2, newE 3], b, m⟩] = 2 from rfl]
  clear hB hs
  go_wp2_with fail
  refine (water_yes H11.out.tc.pc (c := ⟨65537, 7, 2, [newE 2, newE 3], b, m⟩) (by simp) ⟨rfl, rfl⟩).mono ?_
  rintro _ w12 ⟨rfl, hB⟩
  obtain ⟨K12, hs⟩ := H11.out.below hB
  have H12 := hid hs
  clear hB hs
  go_wp2_with fail
  refine (clients_any H12.out.tc.pc).mono ?_
  rintro _ _ ⟨rfl, rfl⟩
  have HE := hid H12.out.bs.be
  go_wp2
  go_ret
  exact ⟨rfl, HE.out⟩
end Go.Proofs.Ytnpffhgmakbdnaa
