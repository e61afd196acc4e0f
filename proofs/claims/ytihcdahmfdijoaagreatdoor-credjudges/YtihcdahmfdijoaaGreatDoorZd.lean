/- The document's ParseMark. -/
import Derived.Test.YtihcdahmfdijoaaGreatDoorZb
import Derived.Test.YtihcdahmfdijoaaGreatDoorWc
import Derived.Test.YtihcdahmfdijoaaGreatDoorCo
import Derived.Test.YtihcdahmfdijoaaGreatDoorCt
namespace Go.Proofs.YtihcdahmfdijoaaGreatDoor
open Go.RowKit
/-- where a reading of a mark is -/
structure Du (w0 w : World) (c p : Nat) (st : Rs) (cs : List Value) : Prop where
  r : DR w p st.l st.e
  k : Bk w c cs 35
  z : Bk w (w0.heap.size + 1) [.int .i64 0, .int .i64 0, .int .i64 0, .int .i64 0, .string ⟨#[]⟩, .int .i64 0, .int .i64 0, .slice none 0 0] 35
  low : Below w0.heap.size w0 w
  l1 : w0.heap.size + 1 < p
  l2 : p < c
theorem Du.call {w0 w w' : World} {c p : Nat} {st st' : Rs} {cs : List Value} (h : Du w0 w c p st cs) (hr : DR w' p st'.l st'.e) (hS : Sole p w w') : Du w0 w' c p st' cs :=
  ⟨hr, h.k.sole hS (by have := h.l2; omega), h.z.sole hS (by have := h.l1; omega), h.low.trans (hS.belowB (by have := h.l1; omega) h.low.size), h.l1, h.l2⟩
theorem Du.set {w0 w : World} {c p : Nat} {st : Rs} {cs : List Value} (h : Du w0 w c p st cs) (i : Nat) (v : Value) : Du w0 (w.setCell ⟨c, i, none⟩ v) c p st (cs.set i v) :=
  ⟨h.r.of_block (Below.heap_setCell w _ v p (by have := h.l2; show p ≠ c; omega)), h.k.set i v, h.z.set_ne (by have := h.l1; have := h.l2; omega) i v, h.low.setCell (by have := h.l1; have := h.l2; show _ ≤ c; omega) v, h.l1, h.l2⟩
theorem Du.below {w0 w w' : World} {c p : Nat} {st : Rs} {cs : List Value} (h : Du w0 w c p st cs) (hB : Below w.heap.size w w') : Du w0 w' c p st cs :=
  ⟨h.r.below hB, h.k.below hB h.k.lt, h.z.below hB h.z.lt, h.low.trans (hB.mono h.low.size), h.l1, h.l2⟩
theorem Du.hyper {w0 w : World} {c p : Nat} {st : Rs} {cs : List Value} (h : Du w0 w c p st cs) :
    Calls Tryz.prog 28 #[.pointer (some ⟨p, 0, none⟩)] w fun e w' => e = .returned (.int .i64 (sg64 (st.go 0 rdHyper).1)) ∧ Du w0 w' c p (st.go 0 rdHyper).2 cs := by
  obtain ⟨l, E⟩ := st
  exact (dhyper_any p l E w h.r).mono fun e w' hp => ⟨hp.1, h.call hp.2.1 hp.2.2⟩
theorem Du.sys {w0 w : World} {c p : Nat} {st : Rs} {cs : List Value} (h : Du w0 w c p st cs) :
    Calls Tryz.prog 24 #[.pointer (some ⟨p, 0, none⟩)] w fun e w' => ∃ oa cap, e = .returned (.agg #[.int .i64 (rdSys st).1.stamp, .string ⟨(rdSys st).1.machine.toArray⟩, .int .i64 (rdSys st).1.user, .int .i64 (rdSys st).1.group, .slice oa (rdSys st).1.groups.length cap]) ∧ Du w0 w' c p (rdSys st).2 cs ∧ OwnI w' (c + 1) (.slice oa (rdSys st).1.groups.length cap) (rdSys st).1.groups :=
  (dreads_any p st w h.r).mono fun _ _ ⟨oa, cap, h1, h2, h3, h4⟩ => ⟨oa, cap, h1, h.call h2 h4, h3.mono h.k.lt⟩
theorem readM_rd (b : List UInt8) (d : Int) (hd : rdDone (rdMark ⟨b, 0⟩).2.l (rdMark ⟨b, 0⟩).2.e = d) : readM b = if d = 0 ∧ (rdMark ⟨b, 0⟩).1.may then some (rdMark ⟨b, 0⟩).1 else none := by
  unfold readM
  have e : (((rdMark ⟨b, 0⟩).2.e = 0 ∧ (rdMark ⟨b, 0⟩).2.l = []) ↔ d = 0) := by
    rw [← hd]
    unfold rdDone
    by_cases h0 : (rdMark ⟨b, 0⟩).2.e = 0
    · by_cases h1 : (rdMark ⟨b, 0⟩).2.l = []
      · simp [h0, h1]
      · simp [h0, h1]
    · simp [h0]
  by_cases h : d = 0
  · simp only [e.2 h, h, and_self, true_and]
  · rw [if_neg (fun k => h (e.1 k.1)), if_neg (fun k => h k.1)]
set_option maxRecDepth 4000 in
theorem dparseMark_flavor (f : Int) (b : List UInt8) (w : World) (hf : f ≠ 1296126539) :
    Calls Tryz.prog 10 #[.agg #[.int .i64 f, .string ⟨b.toArray⟩]] w (MarkPost (nulM, 112) w) := by
  have hf1 : (f != 1296126539) = true := bne_iff_ne.2 hf
  have hf2 : ¬ f = 1296126539 := hf
  clear hf
  go_enter Tryz.func10, Tryz.ntmps10
  go_wp2
  have HZ := Bk.new (w.alloc (.cells #[.int .i64 f, .string ⟨b.toArray⟩] 23)) [.int .i64 0, .int .i64 0, .int .i64 0, .int .i64 0, .string ⟨#[]⟩, .int .i64 0, .int .i64 0, .slice none 0 0] 35
  have hz : (w.alloc (.cells #[.int .i64 f, .string ⟨b.toArray⟩] 23)).heap.size = w.heap.size + 1 := by simp
  rw [hz] at HZ
  have q0 := HZ.cell 0 rfl
  have q1 := HZ.cell 1 rfl
  have q2 := HZ.cell 2 rfl
  have q3 := HZ.cell 3 rfl
  have q4 := HZ.cell 4 rfl
  have q5 := HZ.cell 5 rfl
  have q6 := HZ.cell 6 rfl
  have q7 := HZ.cell 7 rfl
  refine bodyPost_ret (v := .tuple #[.agg #[.int .i64 0, .int .i64 0, .int .i64 0, .int .i64 0, .string ⟨#[]⟩, .int .i64 0, .int .i64 0, .slice none 0 0], .int .i64 112]) (by simp [results, Tryz.results10, go_sem, q0, q1, q2, q3, q4, q5, q6, q7]) rfl ⟨none, 0, rfl, OwnI.nil _ _, (below_new _ _).alloc (by simp) _⟩
set_option maxRecDepth 4000 in
set_option maxHeartbeats 4000000 in
theorem dparseMark_one (b : List UInt8) (w : World) :
    Calls Tryz.prog 10 #[.agg #[.int .i64 1296126539, .string ⟨b.toArray⟩]] w (MarkPost (pmP 1296126539 b) w) := by
  obtain ⟨w2, hw2⟩ : ∃ x, x = (w.alloc (.cells #[.int .i64 1296126539, .string ⟨b.toArray⟩] 23)).alloc (.cells #[.int .i64 0, .int .i64 0, .int .i64 0, .int .i64 0, .string ⟨#[]⟩, .int .i64 0, .int .i64 0, .slice none 0 0] 35) := ⟨_, rfl⟩
  have HW2 := hid hw2
  have H2 := hid (two_start [.int .i64 1296126539, .string ⟨b.toArray⟩] [.int .i64 0, .int .i64 0, .int .i64 0, .int .i64 0, .string ⟨#[]⟩, .int .i64 0, .int .i64 0, .slice none 0 0] _ _ w w2 hw2)
  have HN := hid (fun w => dnew_any b w)
  obtain ⟨a, ha⟩ : ∃ a, (⟨b, 0⟩ : Rs).go 0 rdHyper = a := ⟨_, rfl⟩
  obtain ⟨m, hm⟩ : ∃ m, a.2.go 0 rdHyper = m := ⟨_, rfl⟩
  obtain ⟨c, hc⟩ : ∃ c, m.2.go 0 rdHyper = c := ⟨_, rfl⟩
  obtain ⟨s, hs⟩ : ∃ s, rdSys c.2 = s := ⟨_, rfl⟩
  have h3 : rdMark ⟨b, 0⟩ = (⟨sg64 a.1, sg64 m.1, sg64 c.1, s.1⟩, s.2) := by
    unfold rdMark rdMarkR
    simp only [ha, hm, hc, hs]
  obtain ⟨d, hd⟩ : ∃ d, rdDone s.2.l s.2.e = d := ⟨_, rfl⟩
  have HD := hid hd
  obtain ⟨R, hR⟩ : ∃ R, pmP 1296126539 b = R := ⟨_, rfl⟩
  have HR : Hid (R = if d = 0 ∧ MarkP.may ⟨sg64 a.1, sg64 m.1, sg64 c.1, s.1⟩ then (⟨sg64 a.1, sg64 m.1, sg64 c.1, s.1⟩, 0) else (nulM, 111)) := by
    show R = _
    have h4 := readM_rd b d (by rw [h3]; exact hd)
    rw [h3] at h4
    rw [← hR]
    unfold pmP
    rw [if_neg (by simp), h4]
    simp only
    by_cases h0 : d = 0 ∧ MarkP.may ⟨sg64 a.1, sg64 m.1, sg64 c.1, s.1⟩
    · rw [if_pos h0, if_pos h0]
    · rw [if_neg h0, if_neg h0]
  rw [hR]
  have HA1 : Hid (∀ k p w1 cs, Du w w1 k p ⟨b, 0⟩ cs → Calls Tryz.prog 28 #[.pointer (some ⟨p, 0, none⟩)] w1 fun e w' => e = .returned (.int .i64 (sg64 a.1)) ∧ Du w w' k p a.2 cs) := fun k p w1 cs h1 => by rw [← ha]; exact h1.hyper
  have HA2 : Hid (∀ k p w1 cs, Du w w1 k p a.2 cs → Calls Tryz.prog 28 #[.pointer (some ⟨p, 0, none⟩)] w1 fun e w' => e = .returned (.int .i64 (sg64 m.1)) ∧ Du w w' k p m.2 cs) := fun k p w1 cs h1 => by rw [← hm]; exact h1.hyper
  have HA3 : Hid (∀ k p w1 cs, Du w w1 k p m.2 cs → Calls Tryz.prog 28 #[.pointer (some ⟨p, 0, none⟩)] w1 fun e w' => e = .returned (.int .i64 (sg64 c.1)) ∧ Du w w' k p c.2 cs) := fun k p w1 cs h1 => by rw [← hc]; exact h1.hyper
  have HA4 : Hid (∀ k p w1 cs, Du w w1 k p c.2 cs → Calls Tryz.prog 24 #[.pointer (some ⟨p, 0, none⟩)] w1 fun e w' => ∃ oa cap, e = .returned (.agg #[.int .i64 s.1.stamp, .string ⟨s.1.machine.toArray⟩, .int .i64 s.1.user, .int .i64 s.1.group, .slice oa s.1.groups.length cap]) ∧ Du w w' k p s.2 cs ∧ OwnI w' (k + 1) (.slice oa s.1.groups.length cap) s.1.groups) := fun k p w1 cs h1 => by rw [← hs]; exact h1.sys
  obtain ⟨an, as_⟩ := a
  obtain ⟨mn, ms⟩ := m
  obtain ⟨cn, cs⟩ := c
  obtain ⟨⟨st, mc, us, gr, gs⟩, ss⟩ := s
  simp only at HA1 HA2 HA3 HA4 HR hd HD
  clear h3 ha hm hc hs hw2 hd hR
  generalize sg64 an = A at HA1 HR
  generalize sg64 mn = B at HA2 HR
  generalize sg64 cn = C at HA3 HR
  obtain ⟨p, hp⟩ : ∃ p, w2.heap.size = p := ⟨_, rfl⟩
  have HP : Hid (w.heap.size + 1 + 1 = p) := H2.out.2.2 ▸ hp
  go_enter Tryz.func10, Tryz.ntmps10
  go_wp2_with fail
  rw [← HW2.out]
  refine (HN.out _).mono ?_
  rintro e w3 ⟨rfl, h3⟩
  rw [hp]
  have HR3 : Hid (DR w3 p b 0 ∧ Below p w2 w3) := by
    show DR w3 p b 0 ∧ Below p w2 w3
    rw [h3, ← hp]
    exact ⟨DR.new _ _, below_new _ _⟩
  obtain ⟨k, hk⟩ : ∃ k, w3.heap.size = k := ⟨_, rfl⟩
  obtain ⟨w4, hw4⟩ : ∃ y, w3.alloc (.cells #[.int .i64 0, .int .i64 0, .int .i64 0, .int .i64 0, .string ⟨#[]⟩, .int .i64 0, .int .i64 0, .slice none 0 0] 35) = y := ⟨_, rfl⟩
  have H4 : Hid (Du w w4 k p ⟨b, 0⟩ [.int .i64 0, .int .i64 0, .int .i64 0, .int .i64 0, .string ⟨#[]⟩, .int .i64 0, .int .i64 0, .slice none 0 0]) := by
    have hB : Below w3.heap.size w3 w4 := by rw [← hw4]; exact below_new _ _
    refine ⟨HR3.out.1.below hB, by rw [← hw4, ← hk]; exact Bk.new _ _ _, (H2.out.1.below HR3.out.2 (by have := HP.out; omega)).below hB (by have := HP.out; have := HR3.out.1.lt; omega), (H2.out.2.1.trans (HR3.out.2.mono (by have := HP.out; omega))).trans (hB.mono (by have := HP.out; have := HR3.out.1.lt; omega)), by have := HP.out; omega, by rw [← hk]; exact HR3.out.1.lt⟩
  clear h3 HR3 H2 HN HP
  go_wp2_with fail
  refine (HA1.out _ _ _ _ H4.out).mono ?_
  rintro e w5 ⟨rfl, h5⟩
  have k0 := h5.k.cell 0 rfl
  have f0 := h5.k.frozen 0
  have H5 : Hid (Du w (w5.setCell ⟨k, 0, none⟩ (.int .i64 A)) k p as_ [.int .i64 A, .int .i64 0, .int .i64 0, .int .i64 0, .string ⟨#[]⟩, .int .i64 0, .int .i64 0, .slice none 0 0]) := h5.set 0 _
  clear h5 hw4 hk hp H4
  go_wp2_with fail
  refine (HA2.out _ _ _ _ H5.out).mono ?_
  rintro e w6 ⟨rfl, h6⟩
  have k0 := h6.k.cell 1 rfl
  have f0 := h6.k.frozen 1
  have H6 : Hid (Du w (w6.setCell ⟨k, 1, none⟩ (.int .i64 B)) k p ms [.int .i64 A, .int .i64 B, .int .i64 0, .int .i64 0, .string ⟨#[]⟩, .int .i64 0, .int .i64 0, .slice none 0 0]) := h6.set 1 _
  clear h6 H5
  go_wp2_with fail
  refine (HA3.out _ _ _ _ H6.out).mono ?_
  rintro e w7 ⟨rfl, h7⟩
  have k0 := h7.k.cell 2 rfl
  have f0 := h7.k.frozen 2
  have H7 : Hid (Du w (w7.setCell ⟨k, 2, none⟩ (.int .i64 C)) k p cs [.int .i64 A, .int .i64 B, .int .i64 C, .int .i64 0, .string ⟨#[]⟩, .int .i64 0, .int .i64 0, .slice none 0 0]) := h7.set 2 _
  clear h7 H6
  go_wp2_with fail
  refine (HA4.out _ _ _ _ H7.out).mono ?_
  rintro e w8 ⟨oa, cap, rfl, h8, ho8⟩
  have k3 := h8.k.cell 3 rfl
  have k4 := h8.k.cell 4 rfl
  have k5 := h8.k.cell 5 rfl
  have k6 := h8.k.cell 6 rfl
  have k7 := h8.k.cell 7 rfl
  have f3 := h8.k.frozen 3
  have f4 := h8.k.frozen 4
  have f5 := h8.k.frozen 5
  have f6 := h8.k.frozen 6
  have f7 := h8.k.frozen 7
  obtain ⟨w9, hw9⟩ : ∃ y, ((((w8.setCell ⟨k, 3, none⟩ (.int .i64 st)).setCell ⟨k, 4, none⟩ (.string ⟨mc.toArray⟩)).setCell ⟨k, 5, none⟩ (.int .i64 us)).setCell ⟨k, 6, none⟩ (.int .i64 gr)).setCell ⟨k, 7, none⟩ (.slice oa gs.length cap) = y := ⟨_, rfl⟩
  have H9 : Hid (Du w w9 k p ss [.int .i64 A, .int .i64 B, .int .i64 C, .int .i64 st, .string ⟨mc.toArray⟩, .int .i64 us, .int .i64 gr, .slice oa gs.length cap]) := by
    rw [← hw9]
    exact ((((h8.set 3 (.int .i64 st)).set 4 (.string ⟨mc.toArray⟩)).set 5 (.int .i64 us)).set 6 (.int .i64 gr)).set 7 (.slice oa gs.length cap)
  have HO9 : Hid (OwnI w9 (k + 1) (.slice oa gs.length cap) gs) := by
    rw [← hw9]
    exact ho8.of_blocks (fun g hg => by
      have hne : g ≠ k := by have := (ho8.lt g hg).1; omega
      rw [Below.heap_setCell _ _ _ g hne, Below.heap_setCell _ _ _ g hne, Below.heap_setCell _ _ _ g hne, Below.heap_setCell _ _ _ g hne, Below.heap_setCell _ _ _ g hne])
  have c0 := H9.out.k.cell 0 rfl
  have c1 := H9.out.k.cell 1 rfl
  have c2 := H9.out.k.cell 2 rfl
  have c3 := H9.out.k.cell 3 rfl
  have c4 := H9.out.k.cell 4 rfl
  have c5 := H9.out.k.cell 5 rfl
  have c6 := H9.out.k.cell 6 rfl
  have c7 := H9.out.k.cell 7 rfl
  have HM := hid (markMay_any ⟨A, B, C, ⟨st, mc, us, gr, gs⟩⟩ oa cap w9 HO9.out.gsAt)
  obtain ⟨y, hy⟩ : ∃ y, decide (MarkP.may ⟨A, B, C, ⟨st, mc, us, gr, gs⟩⟩) = y := ⟨_, rfl⟩
  rw [hy] at HM
  have HY : Hid (y = true ↔ MarkP.may ⟨A, B, C, ⟨st, mc, us, gr, gs⟩⟩) := by show _ ↔ _; rw [← hy]; exact decide_eq_true_iff
  clear h8 ho8 H7 HA1 HA2 HA3 HA4 hy k0 f0
  go_wp2_with fail
  refine HM.out.mono ?_
  rintro e w10 ⟨rfl, hB10⟩
  have H10 := hid (H9.out.below hB10)
  have HO10 := hid (HO9.out.of_blocks (fun g hg => hB10.block g (HO9.out.lt g hg).2))
  have HDN := hid (ddone_any p _ _ w10 H10.out.r)
  rw [HD.out] at HDN
  clear hB10 hw9 k3 k4 k5 k6 k7 f3 f4 f5 f6 f7 c0 c1 c2 c3 c4 c5 c6 c7 H9 HO9 HM
  go_wp2_with fail
  refine HDN.out.mono ?_
  rintro e wz ⟨rfl, hB11⟩
  have H11 := H10.out.below hB11
  have HO : Hid (OwnI wz (w.heap.size + 1 + 1) (.slice oa gs.length cap) gs) := (HO10.out.of_blocks (fun g hg => hB11.block g (HO10.out.lt g hg).2)).mono (by have := H10.out.l1; have := H10.out.l2; omega)
  have HK := hid H11.z
  have HB := hid H11.low
  have c0 := H11.k.cell 0 rfl
  have c1 := H11.k.cell 1 rfl
  have c2 := H11.k.cell 2 rfl
  have c3 := H11.k.cell 3 rfl
  have c4 := H11.k.cell 4 rfl
  have c5 := H11.k.cell 5 rfl
  have c6 := H11.k.cell 6 rfl
  have c7 := H11.k.cell 7 rfl
  clear hB11 H11 H10 HO10 HDN
  by_cases h0 : d = 0 ∧ MarkP.may ⟨A, B, C, ⟨st, mc, us, gr, gs⟩⟩
  · have hR := HR.out
    rw [if_pos h0] at hR
    subst hR
    have hy := HY.out.2 h0.2
    subst hy
    obtain ⟨h0, _⟩ := h0
    subst h0
    clear HR HY
    have k0 := HK.out.cell 0 rfl
    have f0 := HK.out.frozen 0
    have k1 := HK.out.cell 1 rfl
    have f1 := HK.out.frozen 1
    have k2 := HK.out.cell 2 rfl
    have f2 := HK.out.frozen 2
    have k3 := HK.out.cell 3 rfl
    have f3 := HK.out.frozen 3
    have k4 := HK.out.cell 4 rfl
    have f4 := HK.out.frozen 4
    have k5 := HK.out.cell 5 rfl
    have f5 := HK.out.frozen 5
    have k6 := HK.out.cell 6 rfl
    have f6 := HK.out.frozen 6
    have k7 := HK.out.cell 7 rfl
    have f7 := HK.out.frozen 7
    have HZ := HK.out.set8 (.int .i64 A) (.int .i64 B) (.int .i64 C) (.int .i64 st) (.string ⟨mc.toArray⟩) (.int .i64 us) (.int .i64 gr) (.slice oa gs.length cap)
    have q0 := HZ.cell 0 rfl
    have q1 := HZ.cell 1 rfl
    have q2 := HZ.cell 2 rfl
    have q3 := HZ.cell 3 rfl
    have q4 := HZ.cell 4 rfl
    have q5 := HZ.cell 5 rfl
    have q6 := HZ.cell 6 rfl
    have q7 := HZ.cell 7 rfl
    have HE := hid ((HO.out.of_blocks (fun g hg => set8_ne wz (w.heap.size + 1) g (.int .i64 A) (.int .i64 B) (.int .i64 C) (.int .i64 st) (.string ⟨mc.toArray⟩) (.int .i64 us) (.int .i64 gr) (.slice oa gs.length cap) (by have := (HO.out.lt g hg).1; omega))).mono (show w.heap.size ≤ w.heap.size + 1 + 1 by omega))
    have HB8 := hid (below_set8 (b := w.heap.size + 1) HB.out (by omega) (.int .i64 A) (.int .i64 B) (.int .i64 C) (.int .i64 st) (.string ⟨mc.toArray⟩) (.int .i64 us) (.int .i64 gr) (.slice oa gs.length cap))
    clear HZ
    go_wp2
    exact bodyPost_ret (v := .tuple #[.agg #[.int .i64 A, .int .i64 B, .int .i64 C, .int .i64 st, .string ⟨mc.toArray⟩, .int .i64 us, .int .i64 gr, .slice oa gs.length cap], .int .i64 0]) (by simp [results, Tryz.results10, go_sem, q0, q1, q2, q3, q4, q5, q6, q7]) rfl ⟨_, _, rfl, HE.out, HB8.out⟩
  · have hR := HR.out
    rw [if_neg h0] at hR
    subst hR
    by_cases hd0 : d = 0
    · have hy : y = false := by
        cases y
        · rfl
        · exact absurd ⟨hd0, HY.out.1 rfl⟩ h0
      subst hy
      subst hd0
      clear HR HY h0
      have k0 := HK.out.cell 0 rfl
      have f0 := HK.out.frozen 0
      have k1 := HK.out.cell 1 rfl
      have f1 := HK.out.frozen 1
      have k2 := HK.out.cell 2 rfl
      have f2 := HK.out.frozen 2
      have k3 := HK.out.cell 3 rfl
      have f3 := HK.out.frozen 3
      have k4 := HK.out.cell 4 rfl
      have f4 := HK.out.frozen 4
      have k5 := HK.out.cell 5 rfl
      have f5 := HK.out.frozen 5
      have k6 := HK.out.cell 6 rfl
      have f6 := HK.out.frozen 6
      have k7 := HK.out.cell 7 rfl
      have f7 := HK.out.frozen 7
      have HZ := HK.out.set8 (.int .i64 0) (.int .i64 0) (.int .i64 0) (.int .i64 0) (.string ⟨#[]⟩) (.int .i64 0) (.int .i64 0) (.slice none 0 0)
      have q0 := HZ.cell 0 rfl
      have q1 := HZ.cell 1 rfl
      have q2 := HZ.cell 2 rfl
      have q3 := HZ.cell 3 rfl
      have q4 := HZ.cell 4 rfl
      have q5 := HZ.cell 5 rfl
      have q6 := HZ.cell 6 rfl
      have q7 := HZ.cell 7 rfl
      have HB7 := hid (below_set8 (b := w.heap.size + 1) HB.out (by omega) (.int .i64 0) (.int .i64 0) (.int .i64 0) (.int .i64 0) (.string ⟨#[]⟩) (.int .i64 0) (.int .i64 0) (.slice none 0 0))
      clear HZ
      go_wp2
      exact bodyPost_ret (v := .tuple #[.agg #[.int .i64 0, .int .i64 0, .int .i64 0, .int .i64 0, .string ⟨#[]⟩, .int .i64 0, .int .i64 0, .slice none 0 0], .int .i64 111]) (by simp [results, Tryz.results10, go_sem, q0, q1, q2, q3, q4, q5, q6, q7]) rfl ⟨none, 0, rfl, OwnI.nil _ _, HB7.out⟩
    · have h1 : (d != 0) = true := bne_iff_ne.2 hd0
      clear HR HY h0
      have k0 := HK.out.cell 0 rfl
      have f0 := HK.out.frozen 0
      have k1 := HK.out.cell 1 rfl
      have f1 := HK.out.frozen 1
      have k2 := HK.out.cell 2 rfl
      have f2 := HK.out.frozen 2
      have k3 := HK.out.cell 3 rfl
      have f3 := HK.out.frozen 3
      have k4 := HK.out.cell 4 rfl
      have f4 := HK.out.frozen 4
      have k5 := HK.out.cell 5 rfl
      have f5 := HK.out.frozen 5
      have k6 := HK.out.cell 6 rfl
      have f6 := HK.out.frozen 6
      have k7 := HK.out.cell 7 rfl
      have f7 := HK.out.frozen 7
      have HZ := HK.out.set8 (.int .i64 0) (.int .i64 0) (.int .i64 0) (.int .i64 0) (.string ⟨#[]⟩) (.int .i64 0) (.int .i64 0) (.slice none 0 0)
      have q0 := HZ.cell 0 rfl
      have q1 := HZ.cell 1 rfl
      have q2 := HZ.cell 2 rfl
      have q3 := HZ.cell 3 rfl
      have q4 := HZ.cell 4 rfl
      have q5 := HZ.cell 5 rfl
      have q6 := HZ.cell 6 rfl
      have q7 := HZ.cell 7 rfl
      have HB7 := hid (below_set8 (b := w.heap.size + 1) HB.out (by omega) (.int .i64 0) (.int .i64 0) (.int .i64 0) (.int .i64 0) (.string ⟨#[]⟩) (.int .i64 0) (.int .i64 0) (.slice none 0 0))
      clear HZ
      go_wp2
      exact bodyPost_ret (v := .tuple #[.agg #[.int .i64 0, .int .i64 0, .int .i64 0, .int .i64 0, .string ⟨#[]⟩, .int .i64 0, .int .i64 0, .slice none 0 0], .int .i64 111]) (by simp [results, Tryz.results10, go_sem, q0, q1, q2, q3, q4, q5, q6, q7]) rfl ⟨none, 0, rfl, OwnI.nil _ _, HB7.out⟩
theorem dparseMark_any (f : Int) (b : List UInt8) (w : World) :
    Calls Tryz.prog 10 #[.agg #[.int .i64 f, .string ⟨b.toArray⟩]] w (MarkPost (pmP f b) w) := by
  by_cases hf : f = 1296126539
  · subst hf; exact dparseMark_one b w
  · have : pmP f b = (nulM, 112) := by unfold pmP; rw [if_pos hf]
    rw [this]; exact dparseMark_flavor f b w hf
end Go.Proofs.YtihcdahmfdijoaaGreatDoor
