/- The document's ParseSys. -/
import Derived.Test.YtihcdahmfdijoaaGreatDoorZa
namespace Go.Proofs.YtihcdahmfdijoaaGreatDoor
open Go.RowKit
set_option maxRecDepth 4000 in
theorem dparseSys_flavor (f : Int) (b : List UInt8) (w : World) (hf : f ≠ 1) :
    Calls Tryz.prog 8 #[.agg #[.int .i64 f, .string ⟨b.toArray⟩]] w (SysPost (nulS, 112) w) := by
  have hf1 : (f != 1) = true := bne_iff_ne.2 hf
  have hf2 : ¬ f = 1 := hf
  clear hf
  go_enter Tryz.func8, Tryz.ntmps8
  go_wp2
  have hk := Bk.new (w.alloc (.cells #[.int .i64 f, .string ⟨b.toArray⟩] 23)) [.int .i64 0, .string ⟨#[]⟩, .int .i64 0, .int .i64 0, .slice none 0 0] 30
  have hz : (w.alloc (.cells #[.int .i64 f, .string ⟨b.toArray⟩] 23)).heap.size = w.heap.size + 1 := by simp
  rw [hz] at hk
  have q0 := hk.cell 0 rfl
  have q1 := hk.cell 1 rfl
  have q2 := hk.cell 2 rfl
  have q3 := hk.cell 3 rfl
  have q4 := hk.cell 4 rfl
  refine bodyPost_ret (v := .tuple #[.agg #[.int .i64 0, .string ⟨#[]⟩, .int .i64 0, .int .i64 0, .slice none 0 0], .int .i64 112]) (by simp [results, Tryz.results8, go_sem, q0, q1, q2, q3, q4]) rfl ⟨none, 0, rfl, OwnI.nil _ _, (below_new _ _).alloc (by simp) _⟩
set_option maxRecDepth 4000 in
set_option maxHeartbeats 4000000 in
theorem dparseSys_one (b : List UInt8) (w : World) :
    Calls Tryz.prog 8 #[.agg #[.int .i64 1, .string ⟨b.toArray⟩]] w (SysPost (psP 1 b) w) := by
  obtain ⟨w2, hw2⟩ : ∃ x, x = (w.alloc (.cells #[.int .i64 1, .string ⟨b.toArray⟩] 23)).alloc (.cells #[.int .i64 0, .string ⟨#[]⟩, .int .i64 0, .int .i64 0, .slice none 0 0] 30) := ⟨_, rfl⟩
  have HW2 := hid hw2
  have H2 := hid (two_start [.int .i64 1, .string ⟨b.toArray⟩] [.int .i64 0, .string ⟨#[]⟩, .int .i64 0, .int .i64 0, .slice none 0 0] _ _ w w2 hw2)
  have HN := hid (fun w => dnew_any b w)
  obtain ⟨d, hd⟩ : ∃ d, rdDone (rdSys ⟨b, 0⟩).2.l (rdSys ⟨b, 0⟩).2.e = d := ⟨_, rfl⟩
  have HD := hid hd
  obtain ⟨R, hR⟩ : ∃ R, psP 1 b = R := ⟨_, rfl⟩
  have HR : Hid (R = if d = 0 then ((rdSys ⟨b, 0⟩).1, 0) else (nulS, 111)) := by
    show R = _
    rw [← hR]
    unfold psP
    rw [if_neg (by simp), readS_done, hd]
    by_cases h0 : d = 0
    · rw [if_pos h0, if_pos h0]
    · rw [if_neg h0, if_neg h0]
  rw [hR]
  clear hw2 hd hR
  obtain ⟨p, hp⟩ : ∃ p, w2.heap.size = p := ⟨_, rfl⟩
  have HP : Hid (w.heap.size + 1 + 1 = p ∧ w2.heap.size = p) := ⟨H2.out.2.2 ▸ hp, hp⟩
  go_enter Tryz.func8, Tryz.ntmps8
  go_wp2_with fail
  rw [← HW2.out]
  refine (HN.out _).mono ?_
  rintro e w3 ⟨rfl, h3⟩
  rw [hp]
  have HR3 : Hid (DR w3 p b 0 ∧ Below p w2 w3) := by
    show DR w3 p b 0 ∧ Below p w2 w3
    rw [h3, ← hp]
    exact ⟨DR.new _ _, below_new _ _⟩
  have HS := hid (dreads_any p ⟨b, 0⟩ w3 HR3.out.1)
  clear h3
  go_wp2_with fail
  refine HS.out.mono ?_
  rintro e w4 ⟨oa, cap, rfl, hr4, ho4, hs4⟩
  have HB4 : Hid (Below p w2 w4) := HR3.out.2.trans (hs4.belowB (Nat.le_refl _) (Nat.le_of_lt HR3.out.1.lt))
  have HZ3 : Hid (p ≤ w3.heap.size) := Nat.le_of_lt HR3.out.1.lt
  obtain ⟨c, hc⟩ : ∃ c, w4.heap.size = c := ⟨_, rfl⟩
  obtain ⟨w5, hw5⟩ : ∃ y, w4.alloc (.cells #[.int .i64 (rdSys ⟨b, 0⟩).1.stamp, .string ⟨(rdSys ⟨b, 0⟩).1.machine.toArray⟩, .int .i64 (rdSys ⟨b, 0⟩).1.user, .int .i64 (rdSys ⟨b, 0⟩).1.group, .slice oa (rdSys ⟨b, 0⟩).1.groups.length cap] 30) = y := ⟨_, rfl⟩
  have h5 : Below w4.heap.size w4 w5 := by rw [← hw5]; exact below_new _ _
  have HC5 : Hid (Bk w5 c [.int .i64 (rdSys ⟨b, 0⟩).1.stamp, .string ⟨(rdSys ⟨b, 0⟩).1.machine.toArray⟩, .int .i64 (rdSys ⟨b, 0⟩).1.user, .int .i64 (rdSys ⟨b, 0⟩).1.group, .slice oa (rdSys ⟨b, 0⟩).1.groups.length cap] 30) := by rw [← hw5, ← hc]; exact Bk.new _ _ _
  have HB5 : Hid (Below p w2 w5) := HB4.out.trans (h5.mono (Nat.le_of_lt hr4.lt))
  have HO5 := hid (ho4.of_blocks (fun g hg => h5.block g (ho4.lt g hg).2))
  have HDN := hid (ddone_any p _ _ w5 (hr4.below h5))
  rw [HD.out] at HDN
  clear h5 hr4 ho4 hs4 HS HB4
  go_wp2_with fail
  refine HDN.out.mono ?_
  rintro e w6 ⟨rfl, hB6⟩
  have HK : Hid (Bk w6 (w.heap.size + 1) [.int .i64 0, .string ⟨#[]⟩, .int .i64 0, .int .i64 0, .slice none 0 0] 30) := (H2.out.1.below HB5.out (by have := HP.out; omega)).below hB6 (by have := HP.out; have := HB5.out.size; omega)
  have HC : Hid (Bk w6 c [.int .i64 (rdSys ⟨b, 0⟩).1.stamp, .string ⟨(rdSys ⟨b, 0⟩).1.machine.toArray⟩, .int .i64 (rdSys ⟨b, 0⟩).1.user, .int .i64 (rdSys ⟨b, 0⟩).1.group, .slice oa (rdSys ⟨b, 0⟩).1.groups.length cap] 30) := HC5.out.below hB6 HC5.out.lt
  have HB : Hid (Below w.heap.size w w6) := (H2.out.2.1.trans (HB5.out.mono (by have := HP.out; omega))).trans (hB6.mono (by have := HP.out; have := HB5.out.size; omega))
  have HO : Hid (OwnI w6 (w.heap.size + 1 + 1) (.slice oa (rdSys ⟨b, 0⟩).1.groups.length cap) (rdSys ⟨b, 0⟩).1.groups) := (HO5.out.of_blocks (fun g hg => hB6.block g (HO5.out.lt g hg).2)).mono (by have := HP.out; have := HZ3.out; omega)
  clear hB6 HB5 HO5 HC5 hw5 hp hc
  have k0 := HK.out.cell 0 rfl
  have k1 := HK.out.cell 1 rfl
  have k2 := HK.out.cell 2 rfl
  have k3 := HK.out.cell 3 rfl
  have k4 := HK.out.cell 4 rfl
  have f0 := HK.out.frozen 0
  have f1 := HK.out.frozen 1
  have f2 := HK.out.frozen 2
  have f3 := HK.out.frozen 3
  have f4 := HK.out.frozen 4
  clear HDN
  by_cases h0 : d = 0
  · have hR := HR.out
    rw [if_pos h0] at hR
    subst hR
    clear HR
    have c0 := HC.out.cell 0 rfl
    have c1 := HC.out.cell 1 rfl
    have c2 := HC.out.cell 2 rfl
    have c3 := HC.out.cell 3 rfl
    have c4 := HC.out.cell 4 rfl
    generalize (rdSys ⟨b, 0⟩).1 = s at *
    obtain ⟨st, mc, us, gr, gs⟩ := s
    simp only at *
    have HZ := HK.out.set5 (.int .i64 st) (.string ⟨mc.toArray⟩) (.int .i64 us) (.int .i64 gr) (.slice oa gs.length cap)
    have q0 := HZ.cell 0 rfl
    have q1 := HZ.cell 1 rfl
    have q2 := HZ.cell 2 rfl
    have q3 := HZ.cell 3 rfl
    have q4 := HZ.cell 4 rfl
    have HE : Hid (OwnI (((((w6.setCell ⟨w.heap.size + 1, 0, none⟩ (.int .i64 st)).setCell ⟨w.heap.size + 1, 1, none⟩ (.string ⟨mc.toArray⟩)).setCell ⟨w.heap.size + 1, 2, none⟩ (.int .i64 us)).setCell ⟨w.heap.size + 1, 3, none⟩ (.int .i64 gr)).setCell ⟨w.heap.size + 1, 4, none⟩ (.slice oa gs.length cap)) w.heap.size (.slice oa gs.length cap) gs) :=
      (HO.out.of_blocks (fun g hg => set5_ne _ _ g _ _ _ _ _ (by have := (HO.out.lt g hg).1; omega))).mono (by omega)
    have HB7 := hid (below_set5 (b := w.heap.size + 1) HB.out (by omega) (.int .i64 st) (.string ⟨mc.toArray⟩) (.int .i64 us) (.int .i64 gr) (.slice oa gs.length cap))
    clear HZ
    subst h0
    go_wp2
    refine bodyPost_ret (v := .tuple #[.agg #[.int .i64 st, .string ⟨mc.toArray⟩, .int .i64 us, .int .i64 gr, .slice oa gs.length cap], .int .i64 0]) (by simp [results, Tryz.results8, go_sem, q0, q1, q2, q3, q4]) rfl ⟨_, _, rfl, HE.out, HB7.out⟩
  · have hR := HR.out
    rw [if_neg h0] at hR
    subst hR
    clear HR
    have h1 : (d != 0) = true := bne_iff_ne.2 h0
    have HZ := HK.out.set5 (.int .i64 0) (.string ⟨#[]⟩) (.int .i64 0) (.int .i64 0) (.slice none 0 0)
    have q0 := HZ.cell 0 rfl
    have q1 := HZ.cell 1 rfl
    have q2 := HZ.cell 2 rfl
    have q3 := HZ.cell 3 rfl
    have q4 := HZ.cell 4 rfl
    have HB7 := hid (below_set5 (b := w.heap.size + 1) HB.out (by omega) (.int .i64 0) (.string ⟨#[]⟩) (.int .i64 0) (.int .i64 0) (.slice none 0 0))
    clear HZ
    go_wp2
    refine bodyPost_ret (v := .tuple #[.agg #[.int .i64 0, .string ⟨#[]⟩, .int .i64 0, .int .i64 0, .slice none 0 0], .int .i64 111]) (by simp [results, Tryz.results8, go_sem, q0, q1, q2, q3, q4]) rfl ⟨none, 0, rfl, OwnI.nil _ _, HB7.out⟩
theorem dparseSys_any (f : Int) (b : List UInt8) (w : World) :
    Calls Tryz.prog 8 #[.agg #[.int .i64 f, .string ⟨b.toArray⟩]] w (SysPost (psP f b) w) := by
  by_cases hf : f = 1
  · subst hf; exact dparseSys_one b w
  · have : psP f b = (nulS, 112) := by unfold psP; rw [if_pos hf]
    rw [this]; exact dparseSys_flavor f b w hf
end Go.Proofs.YtihcdahmfdijoaaGreatDoor
