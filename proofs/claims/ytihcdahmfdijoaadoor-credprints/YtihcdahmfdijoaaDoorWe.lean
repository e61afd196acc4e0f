/- The document's PrintSys, PrintMark. -/
import Derived.Test.YtihcdahmfdijoaaDoorWd
namespace Go.Proofs.YtihcdahmfdijoaaDoor
open Go.RowKit
set_option maxRecDepth 4000 in
set_option maxHeartbeats 2000000 in
theorem rprintSys_any (s : SysP) (oa : Option Addr) (ca : Nat) (w : World) (hg : GsAt w w.heap.size oa s.groups) :
    Calls Tryd.prog 10 #[.agg #[.int .i64 s.stamp, .string ⟨s.machine.toArray⟩, .int .i64 s.user, .int .i64 s.group, .slice oa s.groups.length ca]] w fun e w' => e = .returned (prV 1 (printS s)) ∧ Below w.heap.size w w' := by
  obtain ⟨w2, hw2⟩ : ∃ y, y = (w.alloc (.cells #[.int .i64 s.stamp, .string ⟨s.machine.toArray⟩, .int .i64 s.user, .int .i64 s.group, .slice oa s.groups.length ca] 24)).alloc (.cells #[.int .i64 0, .string ⟨#[]⟩] 32) := ⟨_, rfl⟩
  have HW2 : Hid ((w.alloc (.cells #[.int .i64 s.stamp, .string ⟨s.machine.toArray⟩, .int .i64 s.user, .int .i64 s.group, .slice oa s.groups.length ca] 24)).alloc (.cells #[.int .i64 0, .string ⟨#[]⟩] 32) = w2) := hw2.symm
  have H2 := hid (two_start [.int .i64 s.stamp, .string ⟨s.machine.toArray⟩, .int .i64 s.user, .int .i64 s.group, .slice oa s.groups.length ca] [.int .i64 0, .string ⟨#[]⟩] _ _ w w2 hw2)
  have HB2 : Hid (Bk w2 w.heap.size [.int .i64 s.stamp, .string ⟨s.machine.toArray⟩, .int .i64 s.user, .int .i64 s.group, .slice oa s.groups.length ca] 24) := by
    show Bk _ _ _ _
    rw [hw2]; exact (Bk.new w [.int .i64 s.stamp, .string ⟨s.machine.toArray⟩, .int .i64 s.user, .int .i64 s.group, .slice oa s.groups.length ca] _).below (below_new _ _) (by simp)
  have HMA := hid (sysMay_any s oa ca w2 ((hg.below H2.out.2.1).mono (by have := H2.out.2.2; omega)))
  have HNW : Hid (∀ w, Calls Tryd.prog 25 #[.int .i64 1000] w fun e w' => e = .returned (.pointer (some ⟨w.heap.size, 0, none⟩)) ∧ w' = w.alloc (.cells #[.string ⟨#[]⟩, .int .i64 1000, .int .i64 0] 63)) := fun w => rnew 1000 w
  have HG := hid hg
  clear hw2 hg
  obtain ⟨st, mc, us, gr, gs⟩ := s
  simp only at HW2 H2 HB2 HMA HG ⊢
  obtain ⟨b, hb⟩ : ∃ b, decide (SysP.may ⟨st, mc, us, gr, gs⟩) = b := ⟨_, rfl⟩
  rw [hb] at HMA
  obtain ⟨o, ho⟩ : ∃ o, printS ⟨st, mc, us, gr, gs⟩ = o := ⟨_, rfl⟩
  rw [ho]
  have HO := hid ho
  have HBB := hid hb
  clear ho hb
  go_enter Tryd.func10, Tryd.ntmps10
  go_wp2_with fail
  rw [HW2.out]
  refine HMA.out.mono ?_
  rintro e w3 ⟨rfl, hB3⟩
  have hz := H2.out.2.2
  have HK3 := hid (H2.out.1.below hB3 (by omega))
  have HBX := hid (HB2.out.below hB3 (by omega))
  have HB3 : Hid (Below w.heap.size w w3) := H2.out.2.1.trans (hB3.mono (by omega))
  have HZ3 : Hid (w.heap.size + 1 + 1 ≤ w3.heap.size) := by have := hB3.size; show _ ≤ _; omega
  have HGA := hid ((HG.out.below HB3.out).mono HB3.out.size)
  clear hB3 hz HMA HB2
  cases b
  · have ho : none = o := by
      rw [← HO.out]; unfold printS; rw [if_neg (of_decide_eq_false HBB.out)]
    subst ho
    clear HO HBB
    have k0 := HK3.out.cell 0 rfl
    have k1 := HK3.out.cell 1 rfl
    have f0 := HK3.out.frozen 0
    have f1 := HK3.out.frozen 1
    have HZ := (HK3.out.set 0 (.int .i64 0)).set 1 (.string ⟨#[]⟩)
    have q0 := HZ.cell 0 rfl
    have q1 := HZ.cell 1 rfl
    have HE : Hid (Below w.heap.size w ((w3.setCell ⟨w.heap.size + 1, 0, none⟩ (.int .i64 0)).setCell ⟨w.heap.size + 1, 1, none⟩ (.string ⟨#[]⟩))) := (HB3.out.setCell (by simp) _).setCell (by simp) _
    clear HZ
    go_wp2
    exact bodyPost_ret (v := prV 1 none) (by unfold prV; simp [results, Tryd.results10, go_sem, q0, q1]) rfl ⟨rfl, HE.out⟩
  · have hmay : SysP.may ⟨st, mc, us, gr, gs⟩ := of_decide_eq_true HBB.out
    obtain ⟨L, hL⟩ : ∃ L, SysP.body ⟨st, mc, us, gr, gs⟩ = L := ⟨_, rfl⟩
    have ho : some L = o := by
      rw [← HO.out]; unfold printS; rw [if_pos hmay, hL]
    have HL := hid hL
    clear hL
    subst ho
    clear HO HBB
    go_wp2_with fail
    refine (HNW.out _).mono ?_
    rintro e w4 ⟨rfl, h4⟩
    have H4 : Hid (RL w4 w3.heap.size 1000 [] ∧ Below w3.heap.size w3 w4 ∧ w4.heap.size = w3.heap.size + 1) := by
      subst h4
      exact ⟨RW.new 1000 w3, below_new _ _, by simp⟩
    have HBX4 := hid (HBX.out.below H4.out.2.1 HBX.out.lt)
    have HK4 := hid (HK3.out.below H4.out.2.1 HK3.out.lt)
    have HNP : Hid (w.heap.size ≠ w3.heap.size ∧ w.heap.size + 1 ≠ w3.heap.size) := by have := HZ3.out; exact ⟨by omega, by omega⟩
    clear h4
    have b0 := HBX4.out.cell 0 rfl
    have b1 := HBX4.out.cell 1 rfl
    have b2 := HBX4.out.cell 2 rfl
    have b3 := HBX4.out.cell 3 rfl
    have b4 := HBX4.out.cell 4 rfl
    have S5 := hid (rsys_any w3.heap.size ⟨st, mc, us, gr, gs⟩ oa ca 1000 [] w4 H4.out.1 hmay (by decide) (by decide) (HGA.out.below (H4.out.2.1.mono (Nat.le_refl _)))) 
    clear hmay
    go_wp2_with fail
    refine S5.out.mono ?_
    rintro e w5 ⟨rfl, hr5, hO5⟩
    rw [List.nil_append] at hr5
    have HR5 := hid hr5
    have HO5 := hid hO5
    clear hr5 hO5 S5
    have HK5 := hid (HK4.out.only HO5.out HNP.out.2)
    rw [HL.out] at HR5
    have s0 := HR5.out.s
    have HB5 : Hid (Below w.heap.size w w5) := (HB3.out.trans (H4.out.2.1.mono HB3.out.size)).trans ⟨HO5.out.os, HO5.out.tape, HO5.out.output, HO5.out.size, fun k hk => HO5.out.block k (by have := H4.out.2.2; have := HZ3.out; omega) (by have := HZ3.out; omega)⟩
    have k0 := HK5.out.cell 0 rfl
    have k1 := HK5.out.cell 1 rfl
    have f0 := HK5.out.frozen 0
    have f1 := HK5.out.frozen 1
    have HZ := (HK5.out.set 0 (.int .i64 1)).set 1 (.string ⟨L.toArray⟩)
    have q0 := HZ.cell 0 rfl
    have q1 := HZ.cell 1 rfl
    have HE : Hid (Below w.heap.size w ((w5.setCell ⟨w.heap.size + 1, 0, none⟩ (.int .i64 1)).setCell ⟨w.heap.size + 1, 1, none⟩ (.string ⟨L.toArray⟩))) := (HB5.out.setCell (by simp) _).setCell (by simp) _
    clear HZ
    go_wp2
    exact bodyPost_ret (v := prV 1 (some L)) (by unfold prV; simp [results, Tryd.results10, go_sem, q0, q1]) rfl ⟨rfl, HE.out⟩
set_option maxRecDepth 4000 in
set_option maxHeartbeats 2000000 in
theorem rprintMark_any (m : MarkP) (oa : Option Addr) (ca : Nat) (w : World) (hg : GsAt w w.heap.size oa m.sys.groups) :
    Calls Tryd.prog 12 #[.agg #[.int .i64 m.inst, .int .i64 m.seq, .int .i64 m.water, .int .i64 m.sys.stamp, .string ⟨m.sys.machine.toArray⟩, .int .i64 m.sys.user, .int .i64 m.sys.group, .slice oa m.sys.groups.length ca]] w fun e w' => e = .returned (prV 1296126539 (printM m)) ∧ Below w.heap.size w w' := by
  obtain ⟨w2, hw2⟩ : ∃ y, y = (w.alloc (.cells #[.int .i64 m.inst, .int .i64 m.seq, .int .i64 m.water, .int .i64 m.sys.stamp, .string ⟨m.sys.machine.toArray⟩, .int .i64 m.sys.user, .int .i64 m.sys.group, .slice oa m.sys.groups.length ca] 26)).alloc (.cells #[.int .i64 0, .string ⟨#[]⟩] 32) := ⟨_, rfl⟩
  have HW2 : Hid ((w.alloc (.cells #[.int .i64 m.inst, .int .i64 m.seq, .int .i64 m.water, .int .i64 m.sys.stamp, .string ⟨m.sys.machine.toArray⟩, .int .i64 m.sys.user, .int .i64 m.sys.group, .slice oa m.sys.groups.length ca] 26)).alloc (.cells #[.int .i64 0, .string ⟨#[]⟩] 32) = w2) := hw2.symm
  have H2 := hid (two_start [.int .i64 m.inst, .int .i64 m.seq, .int .i64 m.water, .int .i64 m.sys.stamp, .string ⟨m.sys.machine.toArray⟩, .int .i64 m.sys.user, .int .i64 m.sys.group, .slice oa m.sys.groups.length ca] [.int .i64 0, .string ⟨#[]⟩] _ _ w w2 hw2)
  have HB2 : Hid (Bk w2 w.heap.size [.int .i64 m.inst, .int .i64 m.seq, .int .i64 m.water, .int .i64 m.sys.stamp, .string ⟨m.sys.machine.toArray⟩, .int .i64 m.sys.user, .int .i64 m.sys.group, .slice oa m.sys.groups.length ca] 26) := by
    show Bk _ _ _ _
    rw [hw2]; exact (Bk.new w [.int .i64 m.inst, .int .i64 m.seq, .int .i64 m.water, .int .i64 m.sys.stamp, .string ⟨m.sys.machine.toArray⟩, .int .i64 m.sys.user, .int .i64 m.sys.group, .slice oa m.sys.groups.length ca] _).below (below_new _ _) (by simp)
  have HMA := hid (markMay_any m oa ca w2 ((hg.below H2.out.2.1).mono (by have := H2.out.2.2; omega)))
  have HNW : Hid (∀ w, Calls Tryd.prog 25 #[.int .i64 1000] w fun e w' => e = .returned (.pointer (some ⟨w.heap.size, 0, none⟩)) ∧ w' = w.alloc (.cells #[.string ⟨#[]⟩, .int .i64 1000, .int .i64 0] 63)) := fun w => rnew 1000 w
  have HG := hid hg
  clear hw2 hg
  obtain ⟨i, q, u, st, mc, us, gr, gs⟩ := m
  simp only at HW2 H2 HB2 HMA HG ⊢
  obtain ⟨b, hb⟩ : ∃ b, decide (MarkP.may ⟨i, q, u, st, mc, us, gr, gs⟩) = b := ⟨_, rfl⟩
  rw [hb] at HMA
  obtain ⟨o, ho⟩ : ∃ o, printM ⟨i, q, u, st, mc, us, gr, gs⟩ = o := ⟨_, rfl⟩
  rw [ho]
  have HO := hid ho
  have HBB := hid hb
  clear ho hb
  go_enter Tryd.func12, Tryd.ntmps12
  go_wp2_with fail
  rw [HW2.out]
  refine HMA.out.mono ?_
  rintro e w3 ⟨rfl, hB3⟩
  have hz := H2.out.2.2
  have HK3 := hid (H2.out.1.below hB3 (by omega))
  have HBX := hid (HB2.out.below hB3 (by omega))
  have HB3 : Hid (Below w.heap.size w w3) := H2.out.2.1.trans (hB3.mono (by omega))
  have HZ3 : Hid (w.heap.size + 1 + 1 ≤ w3.heap.size) := by have := hB3.size; show _ ≤ _; omega
  have HGA := hid ((HG.out.below HB3.out).mono HB3.out.size)
  clear hB3 hz HMA HB2
  cases b
  · have ho : none = o := by
      rw [← HO.out]; unfold printM; rw [if_neg (of_decide_eq_false HBB.out)]
    subst ho
    clear HO HBB
    have k0 := HK3.out.cell 0 rfl
    have k1 := HK3.out.cell 1 rfl
    have f0 := HK3.out.frozen 0
    have f1 := HK3.out.frozen 1
    have HZ := (HK3.out.set 0 (.int .i64 0)).set 1 (.string ⟨#[]⟩)
    have q0 := HZ.cell 0 rfl
    have q1 := HZ.cell 1 rfl
    have HE : Hid (Below w.heap.size w ((w3.setCell ⟨w.heap.size + 1, 0, none⟩ (.int .i64 0)).setCell ⟨w.heap.size + 1, 1, none⟩ (.string ⟨#[]⟩))) := (HB3.out.setCell (by simp) _).setCell (by simp) _
    clear HZ
    go_wp2
    exact bodyPost_ret (v := prV 1296126539 none) (by unfold prV; simp [results, Tryd.results12, go_sem, q0, q1]) rfl ⟨rfl, HE.out⟩
  · have hmay : MarkP.may ⟨i, q, u, st, mc, us, gr, gs⟩ := of_decide_eq_true HBB.out
    obtain ⟨L, hL⟩ : ∃ L, MarkP.body ⟨i, q, u, st, mc, us, gr, gs⟩ = L := ⟨_, rfl⟩
    have ho : some L = o := by
      rw [← HO.out]; unfold printM; rw [if_pos hmay, hL]
    have HL := hid hL
    clear hL
    subst ho
    clear HO HBB
    go_wp2_with fail
    refine (HNW.out _).mono ?_
    rintro e w4 ⟨rfl, h4⟩
    have H4 : Hid (RL w4 w3.heap.size 1000 [] ∧ Below w3.heap.size w3 w4 ∧ w4.heap.size = w3.heap.size + 1) := by
      subst h4
      exact ⟨RW.new 1000 w3, below_new _ _, by simp⟩
    have HBX4 := hid (HBX.out.below H4.out.2.1 HBX.out.lt)
    have HK4 := hid (HK3.out.below H4.out.2.1 HK3.out.lt)
    have HNP : Hid (w.heap.size ≠ w3.heap.size ∧ w.heap.size + 1 ≠ w3.heap.size) := by have := HZ3.out; exact ⟨by omega, by omega⟩
    clear h4
    have b0 := HBX4.out.cell 0 rfl
    have b1 := HBX4.out.cell 1 rfl
    have b2 := HBX4.out.cell 2 rfl
    have b3 := HBX4.out.cell 3 rfl
    have b4 := HBX4.out.cell 4 rfl
    have b5 := HBX4.out.cell 5 rfl
    have b6 := HBX4.out.cell 6 rfl
    have b7 := HBX4.out.cell 7 rfl
    have S1 := hid (l_hyper w3.heap.size i 1000 [] w4 H4.out.1 (by have := hmay.1.1; simp only at this; omega) (by have := hmay.1.2; simp only at this; omega) (by decide) (by decide))
    have HMY := hid hmay
    clear hmay
    go_wp2_with fail
    refine S1.out.mono ?_
    rintro e w5a ⟨rfl, hr5, hO5⟩
    have HO5a := hid hO5
    have HX5 := hid (HBX4.out.only hO5 HNP.out.1)
    have S2 := hid (l_hyper w3.heap.size q 1000 _ w5a hr5 (by have := HMY.out.2.1.1; simp only at this; omega) (by have := HMY.out.2.1.2; simp only at this; omega) (by decide) (by rw [List.length_append, nbL_len]; decide))
    clear hr5 hO5 S1 b0 b1 b2 b3 b4 b5 b6 b7
    have b1 := HX5.out.cell 1 rfl
    go_wp2_with fail
    refine S2.out.mono ?_
    rintro e w5b ⟨rfl, hr5, hO5⟩
    have HO5b := hid (HO5a.out.trans hO5)
    have HX5b := hid (HX5.out.only hO5 HNP.out.1)
    have S3 := hid (l_hyper w3.heap.size u 1000 _ w5b hr5 (by have := HMY.out.2.2.1.1; simp only at this; omega) (by have := HMY.out.2.2.1.2; simp only at this; omega) (by decide) (by simp only [List.length_append, nbL_len]; decide))
    clear hr5 hO5 S2 b1
    have b2 := HX5b.out.cell 2 rfl
    go_wp2_with fail
    refine S3.out.mono ?_
    rintro e w5c ⟨rfl, hr5, hO5⟩
    have HO5c := hid (HO5b.out.trans hO5)
    have HX5c := hid (HX5b.out.only hO5 HNP.out.1)
    have S4 := hid (rsys_any w3.heap.size ⟨st, mc, us, gr, gs⟩ oa ca 1000 _ w5c hr5 HMY.out.2.2.2 (by decide) (by simp only [List.length_append, nbL_len]; decide) ((HGA.out.below (H4.out.2.1.mono (Nat.le_refl _))).only (by have := H4.out.2.2; omega) HO5c.out))
    clear hr5 hO5 S3 b2
    have b3 := HX5c.out.cell 3 rfl
    have b4 := HX5c.out.cell 4 rfl
    have b5 := HX5c.out.cell 5 rfl
    have b6 := HX5c.out.cell 6 rfl
    have b7 := HX5c.out.cell 7 rfl
    go_wp2_with fail
    refine S4.out.mono ?_
    rintro e w5 ⟨rfl, hr5, hO5⟩
    have HR5 : Hid (RL w5 w3.heap.size 1000 (MarkP.body ⟨i, q, u, st, mc, us, gr, gs⟩)) := by
      show RL _ _ _ _
      have := hr5
      unfold MarkP.body
      simpa only [List.nil_append, List.append_assoc] using this
    have HO5 := hid (HO5c.out.trans hO5)
    clear hr5 hO5 S4 b3 b4 b5 b6 b7
    have HK5 := hid (HK4.out.only HO5.out HNP.out.2)
    rw [HL.out] at HR5
    have s0 := HR5.out.s
    have HB5 : Hid (Below w.heap.size w w5) := (HB3.out.trans (H4.out.2.1.mono HB3.out.size)).trans ⟨HO5.out.os, HO5.out.tape, HO5.out.output, HO5.out.size, fun k hk => HO5.out.block k (by have := H4.out.2.2; have := HZ3.out; omega) (by have := HZ3.out; omega)⟩
    have k0 := HK5.out.cell 0 rfl
    have k1 := HK5.out.cell 1 rfl
    have f0 := HK5.out.frozen 0
    have f1 := HK5.out.frozen 1
    have HZ := (HK5.out.set 0 (.int .i64 1296126539)).set 1 (.string ⟨L.toArray⟩)
    have q0 := HZ.cell 0 rfl
    have q1 := HZ.cell 1 rfl
    have HE : Hid (Below w.heap.size w ((w5.setCell ⟨w.heap.size + 1, 0, none⟩ (.int .i64 1296126539)).setCell ⟨w.heap.size + 1, 1, none⟩ (.string ⟨L.toArray⟩))) := (HB5.out.setCell (by simp) _).setCell (by simp) _
    clear HZ
    go_wp2
    exact bodyPost_ret (v := prV 1296126539 (some L)) (by unfold prV; simp [results, Tryd.results12, go_sem, q0, q1]) rfl ⟨rfl, HE.out⟩
end Go.Proofs.YtihcdahmfdijoaaDoor
