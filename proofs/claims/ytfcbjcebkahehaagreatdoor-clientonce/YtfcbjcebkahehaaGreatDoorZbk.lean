/- ParseMark. Who is let in: small functions. A credential judged. A mark judged. A mark judged. -/
import Derived.Test.YtfcbjcebkahehaaGreatDoorZbj
import Derived.StillTailTactics
namespace Go.Proofs.YtfcbjcebkahehaaGreatDoor
open Go.RowKit
/-- what ParseMark tells -/
def pmP (f : Int) (b : List UInt8) : MarkP × Int := if f ≠ 1296126539 then (nulM, 112) else match readM b with | none => (nulM, 111) | some m => (m, 0)
def MarkPost (r : MarkP × Int) (w : World) (e : Ending) (w' : World) : Prop :=
  ∃ a cap, e = .returned (.tuple #[.agg #[.int .i64 r.1.inst, .int .i64 r.1.seq, .int .i64 r.1.water, .int .i64 r.1.sys.stamp, .string ⟨r.1.sys.machine.toArray⟩, .int .i64 r.1.sys.user, .int .i64 r.1.sys.group, .slice a r.1.sys.groups.length cap], .int .i64 r.2]) ∧ OwnI w' w.heap.size (.slice a r.1.sys.groups.length cap) r.1.sys.groups ∧ Below w.heap.size w w'
theorem readM_done (b : List UInt8) : readM b = if rdDone (rdSys (rdM3 ⟨b, 0⟩).st).2.l (rdSys (rdM3 ⟨b, 0⟩).st).2.e = 0 then some ⟨(rdM3 ⟨b, 0⟩).i, (rdM3 ⟨b, 0⟩).q, (rdM3 ⟨b, 0⟩).u, (rdSys (rdM3 ⟨b, 0⟩).st).1⟩ else none := by
  have e1 : rdMark ⟨b, 0⟩ = (⟨(rdM3 ⟨b, 0⟩).i, (rdM3 ⟨b, 0⟩).q, (rdM3 ⟨b, 0⟩).u, (rdSys (rdM3 ⟨b, 0⟩).s).1⟩, (rdSys (rdM3 ⟨b, 0⟩).s).2) := rfl
  unfold readM
  rw [e1]
  generalize rdM3 ⟨b, 0⟩ = m
  obtain ⟨i, q, u, st⟩ := m
  unfold M3.st
  simp only
  cases hn : numsB i q u
  · have hmay : ¬ MarkP.may ⟨i, q, u, (rdSys st).1⟩ := fun x => by
      have := ((may_iff _).1 x).1
      rw [hn] at this; cases this
    rw [if_neg (fun x => hmay x.2), if_neg]
    intro x
    rw [if_neg (by decide)] at x
    have hne : (if st.e = 0 then (111 : Int) else st.e) ≠ 0 := by
      by_cases h0 : st.e = 0
      · rw [if_pos h0]; decide
      · rw [if_neg h0]; exact h0
    generalize (if st.e = 0 then (111 : Int) else st.e) = E at x hne
    have h2 : (rdSys ⟨st.l, E⟩).2.e ≠ 0 := fun y => hne (sys_back _ y).1
    unfold rdDone at x
    rw [if_neg (fun y => h2 y.1)] at x
    exact h2 x
  · rw [if_pos rfl]
    unfold rdDone
    by_cases he : (rdSys st).2.e = 0
    · have hm : MarkP.may ⟨i, q, u, (rdSys st).1⟩ := (may_iff _).2 ⟨hn, (sys_back st he).2.1⟩
      by_cases hl : (rdSys st).2.l = []
      · simp [he, hl, hm]
      · simp [he, hl]
    · simp [he]
set_option maxRecDepth 4000 in
theorem parseMark_flavor (f : Int) (b : List UInt8) (w : World) (hf : f ≠ 1296126539) :
    Calls Tryz.prog 165 #[.agg #[.int .i64 f, .string ⟨b.toArray⟩]] w (MarkPost (nulM, 112) w) := by
  have hf1 : (f != 1296126539) = true := bne_iff_ne.2 hf
  have hf2 : ¬ f = 1296126539 := hf
  clear hf
  go_enter Tryz.func165, Tryz.ntmps165
  go_wp2
  have HZ := Bk.new (w.alloc (.cells #[.int .i64 f, .string ⟨b.toArray⟩] 44)) [.int .i64 0, .int .i64 0, .int .i64 0, .int .i64 0, .string ⟨#[]⟩, .int .i64 0, .int .i64 0, .slice none 0 0] 131
  have hz : (w.alloc (.cells #[.int .i64 f, .string ⟨b.toArray⟩] 44)).heap.size = w.heap.size + 1 := by simp
  rw [hz] at HZ
  have q0 := HZ.cell 0 rfl
  have q1 := HZ.cell 1 rfl
  have q2 := HZ.cell 2 rfl
  have q3 := HZ.cell 3 rfl
  have q4 := HZ.cell 4 rfl
  have q5 := HZ.cell 5 rfl
  have q6 := HZ.cell 6 rfl
  have q7 := HZ.cell 7 rfl
  refine bodyPost_ret (v := .tuple #[.agg #[.int .i64 0, .int .i64 0, .int .i64 0, .int .i64 0, .string ⟨#[]⟩, .int .i64 0, .int .i64 0, .slice none 0 0], .int .i64 112]) (by simp [results, Tryz.results165, go_sem, q0, q1, q2, q3, q4, q5, q6, q7]) rfl ⟨none, 0, rfl, OwnI.nil _ _, (below_new _ _).alloc (by simp) _⟩
set_option maxRecDepth 4000 in
set_option maxHeartbeats 1000000 in
theorem parseMark_one (b : List UInt8) (w : World) (hT : ErrT w) (hl : b.length ≤ 281474976710656) :
    Calls Tryz.prog 165 #[.agg #[.int .i64 1296126539, .string ⟨b.toArray⟩]] w (MarkPost (pmP 1296126539 b) w) := by
  obtain ⟨w2, hw2⟩ : ∃ x, x = (w.alloc (.cells #[.int .i64 1296126539, .string ⟨b.toArray⟩] 44)).alloc (.cells #[.int .i64 0, .int .i64 0, .int .i64 0, .int .i64 0, .string ⟨#[]⟩, .int .i64 0, .int .i64 0, .slice none 0 0] 131) := ⟨_, rfl⟩
  have HW2 := hid hw2
  have H2 := hid (two_start [.int .i64 1296126539, .string ⟨b.toArray⟩] [.int .i64 0, .int .i64 0, .int .i64 0, .int .i64 0, .string ⟨#[]⟩, .int .i64 0, .int .i64 0, .slice none 0 0] _ _ w w2 hw2)
  have HT2 := hid (hT.below H2.out.2.1)
  have HN := hid (fun w => rnew_rd b w)
  have HL := hid hl
  obtain ⟨d, hd⟩ : ∃ d, rdDone (rdSys (rdM3 ⟨b, 0⟩).st).2.l (rdSys (rdM3 ⟨b, 0⟩).st).2.e = d := ⟨_, rfl⟩
  have HD := hid hd
  obtain ⟨R, hR⟩ : ∃ R, pmP 1296126539 b = R := ⟨_, rfl⟩
  have HR : Hid (R = if d = 0 then (⟨(rdM3 ⟨b, 0⟩).i, (rdM3 ⟨b, 0⟩).q, (rdM3 ⟨b, 0⟩).u, (rdSys (rdM3 ⟨b, 0⟩).st).1⟩, 0) else (nulM, 111)) := by
    show R = _
    rw [← hR]
    unfold pmP
    rw [if_neg (by simp), readM_done, hd]
    by_cases h0 : d = 0
    · rw [if_pos h0, if_pos h0]
    · rw [if_neg h0, if_neg h0]
  rw [hR]
  clear hT hl hw2 hd hR
  go_enter Tryz.func165, Tryz.ntmps165
  go_wp2_with fail
  refine (HN.out _).mono ?_
  rintro e w4 ⟨rfl, h4⟩
  rw [← HW2.out] at h4
  have H4 := hid (At.start b ([.int .i64 0, .string ⟨#[]⟩, .int .i64 0, .int .i64 0, .slice none 0 0] ++ [.int .i64 0, .int .i64 0, .int .i64 0]) _ w2 w4 h4)
  have HS := hid (mread_any w2.heap.size (w2.heap.size + 1) _ ⟨b, 0⟩ w2 w4 H4.out.1 HL.out)
  rw [H2.out.2.2] at HS
  clear h4
  go_wp2_with fail
  refine HS.out.mono ?_
  rintro e w5 ⟨rfl, sl, h5, ho5⟩
  obtain ⟨oa, cap, hsl⟩ := ho5.form
  subst hsl
  have H5 := hid (And.intro h5 ho5)
  have HDN := hid (rdone_rd _ _ _ w5 h5.r (HT2.out.below (by rw [H2.out.2.2]; exact h5.low)))
  rw [HD.out] at HDN
  clear h5 ho5 HS
  go_wp2_with fail
  refine HDN.out.mono ?_
  rintro e w6 ⟨rfl, hB6⟩
  have h56 := H5.out.1
  have hz5 := h56.k.lt
  have hr := h56.r.lt
  have HK : Hid (Bk w6 (w.heap.size + 1) [.int .i64 0, .int .i64 0, .int .i64 0, .int .i64 0, .string ⟨#[]⟩, .int .i64 0, .int .i64 0, .slice none 0 0] 131) := (H2.out.1.below h56.low (by have := H2.out.2.2; omega)).below hB6 (by omega)
  have HC := hid (h56.k.below hB6 hz5)
  have HB : Hid (Below w.heap.size w w6) := (H2.out.2.1.trans (h56.low.mono (by omega))).trans (hB6.mono (by omega))
  have HO := hid ((H5.out.2.of_blocks (w' := w6) (fun g hg => hB6.block g (H5.out.2.lt g hg).2)).mono (show w.heap.size + 1 + 1 ≤ w.heap.size + 1 + 1 + 1 + 1 by omega))
  have HZ6 : Hid (w.heap.size + 1 + 1 + 1 < w6.heap.size) := Nat.lt_of_lt_of_le hr hB6.size
  clear h56 hz5 hr hB6 HDN H5
  generalize rdM3 ⟨b, 0⟩ = m at *
  generalize (rdSys m.st).1 = s at *
  obtain ⟨i, q, u, sx⟩ := m
  obtain ⟨st, mc, us, gr, gs⟩ := s
  simp only at *
  by_cases h0 : d = 0
  · have hR := HR.out
    rw [if_pos h0] at hR
    subst hR
    clear HR
    have HTO := hid (told_any (w.heap.size + 1 + 1) st us gr i q u mc oa gs.length cap w6 HC.out)
    subst h0
    go_wp2_with fail
    refine HTO.out.mono ?_
    rintro e w7 ⟨rfl, hB7⟩
    have hz6 := HZ6.out
    have HK7 : Hid (Bk w7 (w.heap.size + 1) [.int .i64 0, .int .i64 0, .int .i64 0, .int .i64 0, .string ⟨#[]⟩, .int .i64 0, .int .i64 0, .slice none 0 0] 131) := HK.out.below hB7 (by omega)
    have HB7 : Hid (Below w.heap.size w w7) := HB.out.trans (hB7.mono (by omega))
    have HO7 : Hid (OwnI w7 (w.heap.size + 1 + 1) (.slice oa gs.length cap) gs) := HO.out.of_blocks (fun g hg => hB7.block g (HO.out.lt g hg).2)
    clear hB7 hz6 HTO
    have k0 := HK7.out.cell 0 rfl
    have f0 := HK7.out.frozen 0
    have k1 := HK7.out.cell 1 rfl
    have f1 := HK7.out.frozen 1
    have k2 := HK7.out.cell 2 rfl
    have f2 := HK7.out.frozen 2
    have k3 := HK7.out.cell 3 rfl
    have f3 := HK7.out.frozen 3
    have k4 := HK7.out.cell 4 rfl
    have f4 := HK7.out.frozen 4
    have k5 := HK7.out.cell 5 rfl
    have f5 := HK7.out.frozen 5
    have k6 := HK7.out.cell 6 rfl
    have f6 := HK7.out.frozen 6
    have k7 := HK7.out.cell 7 rfl
    have f7 := HK7.out.frozen 7
    have HZ := HK7.out.set8 (.int .i64 i) (.int .i64 q) (.int .i64 u) (.int .i64 st) (.string ⟨mc.toArray⟩) (.int .i64 us) (.int .i64 gr) (.slice oa gs.length cap)
    have q0 := HZ.cell 0 rfl
    have q1 := HZ.cell 1 rfl
    have q2 := HZ.cell 2 rfl
    have q3 := HZ.cell 3 rfl
    have q4 := HZ.cell 4 rfl
    have q5 := HZ.cell 5 rfl
    have q6 := HZ.cell 6 rfl
    have q7 := HZ.cell 7 rfl
    have HE := hid ((HO7.out.of_blocks (fun g hg => set8_ne w7 (w.heap.size + 1) g (.int .i64 i) (.int .i64 q) (.int .i64 u) (.int .i64 st) (.string ⟨mc.toArray⟩) (.int .i64 us) (.int .i64 gr) (.slice oa gs.length cap) (by have := (HO7.out.lt g hg).1; omega))).mono (show w.heap.size ≤ w.heap.size + 1 + 1 by omega))
    have HB8 := hid (below_set8 (b := w.heap.size + 1) HB7.out (by omega) (.int .i64 i) (.int .i64 q) (.int .i64 u) (.int .i64 st) (.string ⟨mc.toArray⟩) (.int .i64 us) (.int .i64 gr) (.slice oa gs.length cap))
    clear HZ
    go_wp2
    exact bodyPost_ret (v := .tuple #[.agg #[.int .i64 i, .int .i64 q, .int .i64 u, .int .i64 st, .string ⟨mc.toArray⟩, .int .i64 us, .int .i64 gr, .slice oa gs.length cap], .int .i64 0]) (by simp [results, Tryz.results165, go_sem, q0, q1, q2, q3, q4, q5, q6, q7]) rfl ⟨_, _, rfl, HE.out, HB8.out⟩
  · have hR := HR.out
    rw [if_neg h0] at hR
    subst hR
    clear HR
    have h1 : (d != 0) = true := bne_iff_ne.2 h0
    have k0 := HK.out.cell 0 rfl
    have f0 := HK.out.frozen 0
    have k1 := HK.out.cell 1 rfl
    have f1 := HK.out.frozen 1
    have k2 := HK.out.cell 2 rfl
    have f2 := HK.out.frozen 2
    have k3 := HK.out.cell 3 rfl
    have f3 := HK.out.frozen 3
    have k4 := HK.out.cell 4 rfl
    have f4 := HK.out.frozen 4
    have k5 := HK.out.cell 5 rfl
    have f5 := HK.out.frozen 5
    have k6 := HK.out.cell 6 rfl
    have f6 := HK.out.frozen 6
    have k7 := HK.out.cell 7 rfl
    have f7 := HK.out.frozen 7
    have HZ := HK.out.set8 (.int .i64 0) (.int .i64 0) (.int .i64 0) (.int .i64 0) (.string ⟨#[]⟩) (.int .i64 0) (.int .i64 0) (.slice none 0 0)
    have q0 := HZ.cell 0 rfl
    have q1 := HZ.cell 1 rfl
    have q2 := HZ.cell 2 rfl
    have q3 := HZ.cell 3 rfl
    have q4 := HZ.cell 4 rfl
    have q5 := HZ.cell 5 rfl
    have q6 := HZ.cell 6 rfl
    have q7 := HZ.cell 7 rfl
    have HB7 := hid (below_set8 (b := w.heap.size + 1) HB.out (by omega) (.int .i64 0) (.int .i64 0) (.int .i64 0) (.int .i64 0) (.string ⟨#[]⟩) (.int .i64 0) (.int .i64 0) (.slice none 0 0))
    clear HZ
    go_wp2
    exact bodyPost_ret (v := .tuple #[.agg #[.int .i64 0, .int .i64 0, .int .i64 0, .int .i64 0, .string ⟨#[]⟩, .int .i64 0, .int .i64 0, .slice none 0 0], .int .i64 111]) (by simp [results, Tryz.results165, go_sem, q0, q1, q2, q3, q4, q5, q6, q7]) rfl ⟨none, 0, rfl, OwnI.nil _ _, HB7.out⟩
theorem parseMark_any (f : Int) (b : List UInt8) (w : World) (hT : ErrT w) (hl : b.length ≤ 281474976710656) :
    Calls Tryz.prog 165 #[.agg #[.int .i64 f, .string ⟨b.toArray⟩]] w (MarkPost (pmP f b) w) := by
  by_cases hf : f = 1296126539
  · subst hf; exact parseMark_one b w hT hl
  · have : pmP f b = (nulM, 112) := by unfold pmP; rw [if_pos hf]
    rw [this]; exact parseMark_flavor f b w hf
end Go.Proofs.YtfcbjcebkahehaaGreatDoor
namespace Go.Proofs.YtfcbjcebkahehaaGreatDoor
open Go.RowKit
def bad (g : Bool) : Int := if g then 0 else 1
theorem badUnless_any (g : Bool) (w : World) : Calls Tryz.prog 163 #[.bool g] w fun e w' => e = .returned (.int .i64 (bad g)) ∧ w' = w := by
  cases g
  · go_enter Tryz.func163, Tryz.ntmps163
    go_wp2
    go_ret
    exact ⟨rfl, rfl⟩
  · go_enter Tryz.func163, Tryz.ntmps163
    go_wp2
    go_ret
    exact ⟨rfl, rfl⟩
def nob (f : Int) (s : ByteArray) : Bool := (f == 0) && (s.toList == [])
theorem isNobody_any (f : Int) (s : ByteArray) (w : World) : Calls Tryz.prog 131 #[.agg #[.int .i64 f, .string s]] w fun e w' => e = .returned (.bool (nob f s)) ∧ Below w.heap.size w w' := by
  unfold nob
  cases h0 : (f == 0)
  · have h1 : ¬ f = 0 := by simpa using h0
    go_enter Tryz.func131, Tryz.ntmps131
    go_wp2
    go_ret
    exact ⟨rfl, below_new _ _⟩
  · obtain rfl : f = 0 := by simpa using h0
    cases h1 : (s.toList == [])
    · go_enter Tryz.func131, Tryz.ntmps131
      go_wp2
      go_ret
      exact ⟨rfl, below_new _ _⟩
    · go_enter Tryz.func131, Tryz.ntmps131
      go_wp2
      go_ret
      exact ⟨rfl, below_new _ _⟩
end Go.Proofs.YtfcbjcebkahehaaGreatDoor
namespace Go.Proofs.YtfcbjcebkahehaaGreatDoor
open Go.RowKit
def J3Post (r : MarkP × Bool × Int) (w : World) (e : Ending) (w' : World) : Prop :=
  ∃ a cap, e = .returned (.tuple #[.agg #[.int .i64 r.1.inst, .int .i64 r.1.seq, .int .i64 r.1.water, .int .i64 r.1.sys.stamp, .string ⟨r.1.sys.machine.toArray⟩, .int .i64 r.1.sys.user, .int .i64 r.1.sys.group, .slice a r.1.sys.groups.length cap], .bool r.2.1, .int .i64 r.2.2]) ∧ OwnI w' w.heap.size (.slice a r.1.sys.groups.length cap) r.1.sys.groups ∧ Below w.heap.size w w'
def markOk (r : MarkP × Int) (xid : Int) : Bool := (r.2 == 0) && ((r.1.seq == xid) && decide (r.1.water ≤ r.1.seq))
/-- what judgeCred tells -/
def jcP (f : Int) (b : List UInt8) (xid : Int) : MarkP × Bool × Int :=
  if f = 0 then (nulM, false, bad (nob 0 ⟨b.toArray⟩)) else if f = 1 then (nulM, false, bad ((psP 1 b).2 == 0)) else if f = 1296126539 then ((pmP f b).1, true, bad (markOk (pmP f b) xid)) else (nulM, false, 2)
set_option maxRecDepth 4000 in
theorem judge_none (b : List UInt8) (xid : Int) (w : World) :
    Calls Tryz.prog 130 #[.agg #[.int .i64 0, .string ⟨b.toArray⟩], .int .i64 xid] w (J3Post (nulM, false, bad (nob 0 ⟨b.toArray⟩)) w) := by
  obtain ⟨w2, hw2⟩ : ∃ x, x = (w.alloc (.cells #[.int .i64 0, .string ⟨b.toArray⟩] 44)).alloc (.cells #[.int .i64 0, .int .i64 0, .int .i64 0, .int .i64 0, .string ⟨#[]⟩, .int .i64 0, .int .i64 0, .slice none 0 0] 131) := ⟨_, rfl⟩
  have HW2 : Hid ((w.alloc (.cells #[.int .i64 0, .string ⟨b.toArray⟩] 44)).alloc (.cells #[.int .i64 0, .int .i64 0, .int .i64 0, .int .i64 0, .string ⟨#[]⟩, .int .i64 0, .int .i64 0, .slice none 0 0] 131) = w2) := hw2.symm
  have H2 := hid (two_start [.int .i64 0, .string ⟨b.toArray⟩] [.int .i64 0, .int .i64 0, .int .i64 0, .int .i64 0, .string ⟨#[]⟩, .int .i64 0, .int .i64 0, .slice none 0 0] _ _ w w2 hw2)
  have HI := hid (isNobody_any 0 ⟨b.toArray⟩ w2)
  have HBU := hid (fun w => badUnless_any (nob 0 ⟨b.toArray⟩) w)
  generalize bad (nob 0 ⟨b.toArray⟩) = V at HBU ⊢
  generalize nob 0 ⟨b.toArray⟩ = g at HI HBU
  clear hw2
  go_enter Tryz.func130, Tryz.ntmps130
  go_wp2_with fail
  rw [HW2.out]
  refine HI.out.mono ?_
  rintro e w3 ⟨rfl, hB3⟩
  have HB3 := hid hB3
  clear hB3
  go_wp2_with fail
  refine (HBU.out _).mono ?_
  rintro e w4 ⟨rfl, hw⟩
  rw [hw]
  clear hw
  have HK : Hid (Bk w3 (w.heap.size + 1) [.int .i64 0, .int .i64 0, .int .i64 0, .int .i64 0, .string ⟨#[]⟩, .int .i64 0, .int .i64 0, .slice none 0 0] 131) := H2.out.1.below HB3.out (by have := H2.out.2.2; omega)
  have HB : Hid (Below w.heap.size w w3) := H2.out.2.1.trans (HB3.out.mono (by have := H2.out.2.2; omega))
  have k0 := HK.out.cell 0 rfl
  have f0 := HK.out.frozen 0
  have k1 := HK.out.cell 1 rfl
  have f1 := HK.out.frozen 1
  have k2 := HK.out.cell 2 rfl
  have f2 := HK.out.frozen 2
  have k3 := HK.out.cell 3 rfl
  have f3 := HK.out.frozen 3
  have k4 := HK.out.cell 4 rfl
  have f4 := HK.out.frozen 4
  have k5 := HK.out.cell 5 rfl
  have f5 := HK.out.frozen 5
  have k6 := HK.out.cell 6 rfl
  have f6 := HK.out.frozen 6
  have k7 := HK.out.cell 7 rfl
  have f7 := HK.out.frozen 7
  have HZ := HK.out.set8 (.int .i64 0) (.int .i64 0) (.int .i64 0) (.int .i64 0) (.string ⟨#[]⟩) (.int .i64 0) (.int .i64 0) (.slice none 0 0)
  have q0 := HZ.cell 0 rfl
  have q1 := HZ.cell 1 rfl
  have q2 := HZ.cell 2 rfl
  have q3 := HZ.cell 3 rfl
  have q4 := HZ.cell 4 rfl
  have q5 := HZ.cell 5 rfl
  have q6 := HZ.cell 6 rfl
  have q7 := HZ.cell 7 rfl
  have HB7 := hid (below_set8 (b := w.heap.size + 1) HB.out (by omega) (.int .i64 0) (.int .i64 0) (.int .i64 0) (.int .i64 0) (.string ⟨#[]⟩) (.int .i64 0) (.int .i64 0) (.slice none 0 0))
  clear HZ
  go_wp2
  exact bodyPost_ret (v := .tuple #[.agg #[.int .i64 0, .int .i64 0, .int .i64 0, .int .i64 0, .string ⟨#[]⟩, .int .i64 0, .int .i64 0, .slice none 0 0], .bool false, .int .i64 V]) (by simp [results, Tryz.results130, go_sem, q0, q1, q2, q3, q4, q5, q6, q7]) rfl ⟨none, 0, rfl, OwnI.nil _ _, HB7.out⟩
set_option maxRecDepth 4000 in
theorem judge_other (f : Int) (b : List UInt8) (xid : Int) (w : World) (h0 : f ≠ 0) (h1 : f ≠ 1) (h2 : f ≠ 1296126539) :
    Calls Tryz.prog 130 #[.agg #[.int .i64 f, .string ⟨b.toArray⟩], .int .i64 xid] w (J3Post (nulM, false, 2) w) := by
  have e0 : (f == 0) = false := by simpa using h0
  have e1 : (f == 1) = false := by simpa using h1
  have e2 : (f == 1296126539) = false := by simpa using h2
  clear h0 h1 h2
  go_enter Tryz.func130, Tryz.ntmps130
  go_wp2
  have hs := two_start [.int .i64 f, .string ⟨b.toArray⟩] [.int .i64 0, .int .i64 0, .int .i64 0, .int .i64 0, .string ⟨#[]⟩, .int .i64 0, .int .i64 0, .slice none 0 0] 44 131 w _ rfl
  have HZ := hs.1
  have q0 := HZ.cell 0 rfl
  have q1 := HZ.cell 1 rfl
  have q2 := HZ.cell 2 rfl
  have q3 := HZ.cell 3 rfl
  have q4 := HZ.cell 4 rfl
  have q5 := HZ.cell 5 rfl
  have q6 := HZ.cell 6 rfl
  have q7 := HZ.cell 7 rfl
  exact bodyPost_ret (v := .tuple #[.agg #[.int .i64 0, .int .i64 0, .int .i64 0, .int .i64 0, .string ⟨#[]⟩, .int .i64 0, .int .i64 0, .slice none 0 0], .bool false, .int .i64 2]) (by simp [results, Tryz.results130, go_sem, q0, q1, q2, q3, q4, q5, q6, q7]) rfl ⟨none, 0, rfl, OwnI.nil _ _, hs.2.1⟩
set_option maxRecDepth 4000 in
theorem judge_sys (b : List UInt8) (xid : Int) (w : World) (hT : ErrT w) (hl : b.length ≤ 281474976710656) :
    Calls Tryz.prog 130 #[.agg #[.int .i64 1, .string ⟨b.toArray⟩], .int .i64 xid] w (J3Post (nulM, false, bad ((psP 1 b).2 == 0)) w) := by
  obtain ⟨w2, hw2⟩ : ∃ x, x = (w.alloc (.cells #[.int .i64 1, .string ⟨b.toArray⟩] 44)).alloc (.cells #[.int .i64 0, .int .i64 0, .int .i64 0, .int .i64 0, .string ⟨#[]⟩, .int .i64 0, .int .i64 0, .slice none 0 0] 131) := ⟨_, rfl⟩
  have HW2 : Hid ((w.alloc (.cells #[.int .i64 1, .string ⟨b.toArray⟩] 44)).alloc (.cells #[.int .i64 0, .int .i64 0, .int .i64 0, .int .i64 0, .string ⟨#[]⟩, .int .i64 0, .int .i64 0, .slice none 0 0] 131) = w2) := hw2.symm
  have H2 := hid (two_start [.int .i64 1, .string ⟨b.toArray⟩] [.int .i64 0, .int .i64 0, .int .i64 0, .int .i64 0, .string ⟨#[]⟩, .int .i64 0, .int .i64 0, .slice none 0 0] _ _ w w2 hw2)
  have HS := hid (parseSys_any 1 b w2 (hT.below H2.out.2.1) hl)
  generalize psP 1 b = R at HS ⊢
  obtain ⟨⟨st, mc, us, gr, gs⟩, er⟩ := R
  have HBU := hid (fun w => badUnless_any (er == 0) w)
  simp only
  generalize bad (er == 0) = V at HBU ⊢
  obtain ⟨g, hg⟩ : ∃ g, (er == 0) = g := ⟨_, rfl⟩
  rw [hg] at HBU
  clear hw2 hT hl
  go_enter Tryz.func130, Tryz.ntmps130
  go_wp2_with fail
  rw [HW2.out]
  refine HS.out.mono ?_
  rintro e w3 ⟨oa, cap, rfl, _, hB3⟩
  have HB3 := hid hB3
  clear hB3
  simp only
  go_wp2_with fail
  obtain ⟨w4, hw4⟩ : ∃ x, x = w3.alloc (.cells #[.int .i64 st, .string ⟨mc.toArray⟩, .int .i64 us, .int .i64 gr, .slice oa gs.length cap] 26) := ⟨_, rfl⟩
  rw [← hw4]
  have HB4 : Hid (Below w3.heap.size w3 w4) := by rw [hw4]; exact below_new _ _
  clear hw4
  refine (HBU.out _).mono ?_
  rintro e w5 ⟨rfl, hw⟩
  rw [hw]
  clear hw
  have HK : Hid (Bk w4 (w.heap.size + 1) [.int .i64 0, .int .i64 0, .int .i64 0, .int .i64 0, .string ⟨#[]⟩, .int .i64 0, .int .i64 0, .slice none 0 0] 131) := (H2.out.1.below HB3.out (by have := H2.out.2.2; omega)).below HB4.out (by have := H2.out.2.2; have := HB3.out.size; omega)
  have HB : Hid (Below w.heap.size w w4) := (H2.out.2.1.trans (HB3.out.mono (by have := H2.out.2.2; omega))).trans (HB4.out.mono (by have := H2.out.2.2; have := HB3.out.size; omega))
  have k0 := HK.out.cell 0 rfl
  have f0 := HK.out.frozen 0
  have k1 := HK.out.cell 1 rfl
  have f1 := HK.out.frozen 1
  have k2 := HK.out.cell 2 rfl
  have f2 := HK.out.frozen 2
  have k3 := HK.out.cell 3 rfl
  have f3 := HK.out.frozen 3
  have k4 := HK.out.cell 4 rfl
  have f4 := HK.out.frozen 4
  have k5 := HK.out.cell 5 rfl
  have f5 := HK.out.frozen 5
  have k6 := HK.out.cell 6 rfl
  have f6 := HK.out.frozen 6
  have k7 := HK.out.cell 7 rfl
  have f7 := HK.out.frozen 7
  have HZ := HK.out.set8 (.int .i64 0) (.int .i64 0) (.int .i64 0) (.int .i64 0) (.string ⟨#[]⟩) (.int .i64 0) (.int .i64 0) (.slice none 0 0)
  have q0 := HZ.cell 0 rfl
  have q1 := HZ.cell 1 rfl
  have q2 := HZ.cell 2 rfl
  have q3 := HZ.cell 3 rfl
  have q4 := HZ.cell 4 rfl
  have q5 := HZ.cell 5 rfl
  have q6 := HZ.cell 6 rfl
  have q7 := HZ.cell 7 rfl
  have HB7 := hid (below_set8 (b := w.heap.size + 1) HB.out (by omega) (.int .i64 0) (.int .i64 0) (.int .i64 0) (.int .i64 0) (.string ⟨#[]⟩) (.int .i64 0) (.int .i64 0) (.slice none 0 0))
  clear HZ
  go_wp2
  exact bodyPost_ret (v := .tuple #[.agg #[.int .i64 0, .int .i64 0, .int .i64 0, .int .i64 0, .string ⟨#[]⟩, .int .i64 0, .int .i64 0, .slice none 0 0], .bool false, .int .i64 V]) (by simp [results, Tryz.results130, go_sem, q0, q1, q2, q3, q4, q5, q6, q7]) rfl ⟨none, 0, rfl, OwnI.nil _ _, HB7.out⟩
end Go.Proofs.YtfcbjcebkahehaaGreatDoor
namespace Go.Proofs.YtfcbjcebkahehaaGreatDoor
open Go.RowKit
set_option maxRecDepth 4000 in
set_option maxHeartbeats 8000000 in
theorem judge_mark_a (b : List UInt8) (xid : Int) (w : World) (hT : ErrT w) (hl : b.length ≤ 281474976710656) (e1 : ((pmP 1296126539 b).2 == 0) = false) :
    Calls Tryz.prog 130 #[.agg #[.int .i64 1296126539, .string ⟨b.toArray⟩], .int .i64 xid] w (J3Post ((pmP 1296126539 b).1, true, bad (markOk (pmP 1296126539 b) xid)) w) := by
  obtain ⟨w2, hw2⟩ : ∃ x, x = (w.alloc (.cells #[.int .i64 1296126539, .string ⟨b.toArray⟩] 44)).alloc (.cells #[.int .i64 0, .int .i64 0, .int .i64 0, .int .i64 0, .string ⟨#[]⟩, .int .i64 0, .int .i64 0, .slice none 0 0] 131) := ⟨_, rfl⟩
  have HW2 : Hid ((w.alloc (.cells #[.int .i64 1296126539, .string ⟨b.toArray⟩] 44)).alloc (.cells #[.int .i64 0, .int .i64 0, .int .i64 0, .int .i64 0, .string ⟨#[]⟩, .int .i64 0, .int .i64 0, .slice none 0 0] 131) = w2) := hw2.symm
  have H2 := hid (two_start [.int .i64 1296126539, .string ⟨b.toArray⟩] [.int .i64 0, .int .i64 0, .int .i64 0, .int .i64 0, .string ⟨#[]⟩, .int .i64 0, .int .i64 0, .slice none 0 0] _ _ w w2 hw2)
  have HS := hid (parseMark_any 1296126539 b w2 (hT.below H2.out.2.1) hl)
  generalize pmP 1296126539 b = R at HS e1 ⊢
  obtain ⟨⟨i, q, u, st, mc, us, gr, gs⟩, er⟩ := R
  obtain ⟨g, hg⟩ : ∃ g, markOk (⟨i, q, u, st, mc, us, gr, gs⟩, er) xid = g := ⟨_, rfl⟩
  rw [hg]
  have HBU := hid (fun w => badUnless_any g w)
  have HG : Hid (((er == 0) && ((q == xid) && decide (u ≤ q))) = g) := hg
  simp only
  generalize bad g = V at HBU ⊢
  clear hw2 hT hl hg
  go_enter Tryz.func130, Tryz.ntmps130
  go_wp2_with fail
  rw [HW2.out]
  refine HS.out.mono ?_
  rintro e w3 ⟨oa, cap, rfl, ho3, hB3⟩
  have HB3 := hid hB3
  have HO3 := hid ho3
  clear hB3 ho3
  simp only
  go_wp2_with fail
  obtain ⟨w4, hw4⟩ : ∃ x, x = w3.alloc (.cells #[.int .i64 i, .int .i64 q, .int .i64 u, .int .i64 st, .string ⟨mc.toArray⟩, .int .i64 us, .int .i64 gr, .slice oa gs.length cap] 131) := ⟨_, rfl⟩
  rw [← hw4]
  have hB4 : Below w3.heap.size w3 w4 := by rw [hw4]; exact below_new _ _
  have hL : Bk w4 w3.heap.size [.int .i64 i, .int .i64 q, .int .i64 u, .int .i64 st, .string ⟨mc.toArray⟩, .int .i64 us, .int .i64 gr, .slice oa gs.length cap] 131 := by rw [hw4]; exact Bk.new _ _ _
  have hz := H2.out.2.2
  have hz3 := HB3.out.size
  have hK : Bk w4 (w.heap.size + 1) [.int .i64 0, .int .i64 0, .int .i64 0, .int .i64 0, .string ⟨#[]⟩, .int .i64 0, .int .i64 0, .slice none 0 0] 131 := (H2.out.1.below HB3.out (by omega)).below hB4 (by omega)
  have HB : Hid (Below w.heap.size w w4) := (H2.out.2.1.trans (HB3.out.mono (by omega))).trans (hB4.mono (by omega))
  have HO : Hid (OwnI w4 (w.heap.size + 1 + 1) (.slice oa gs.length cap) gs) := (HO3.out.of_blocks (fun g hg => hB4.block g (HO3.out.lt g hg).2)).mono (by omega)
  have HNE : Hid (w3.heap.size ≠ w.heap.size + 1) := by show _ ≠ _; omega
  have HK := hid hK
  have HL := hid hL
  have c0 := hL.cell 0 rfl
  have c1 := hL.cell 1 rfl
  have c2 := hL.cell 2 rfl
  have c3 := hL.cell 3 rfl
  have c4 := hL.cell 4 rfl
  have c5 := hL.cell 5 rfl
  have c6 := hL.cell 6 rfl
  have c7 := hL.cell 7 rfl
  have k0 := hK.cell 0 rfl
  have f0 := hK.frozen 0
  have k1 := hK.cell 1 rfl
  have f1 := hK.frozen 1
  have k2 := hK.cell 2 rfl
  have f2 := hK.frozen 2
  have k3 := hK.cell 3 rfl
  have f3 := hK.frozen 3
  have k4 := hK.cell 4 rfl
  have f4 := hK.frozen 4
  have k5 := hK.cell 5 rfl
  have f5 := hK.frozen 5
  have k6 := hK.cell 6 rfl
  have f6 := hK.frozen 6
  have k7 := hK.cell 7 rfl
  have f7 := hK.frozen 7
  clear hw4 hB4 hL hK hz hz3
  rename_i K1 A1 K0 A0
  have HA1 := hid A1
  have HA0 := hid A0
  clear A1 A0 HS HW2 H2 HB3 HO3
  generalize hQ : Exit.then K0 _ = Q0
  have HQ := hid hQ
  clear hQ
  have e1 : (er == 0) = false := e1
  have HG2 : Hid (g = false) := by have := HG.out; rw [e1] at this; exact this.symm
  rw [HG2.out] at HBU
  have e1' : decide (er = 0) = false := by simpa using e1
  clear HG
  go_still_tail 17, (by kernel_rfl)
  still_call (HBU.out _)
  refine wpStill_nil ?_
  obtain ⟨w5, hw5⟩ : ∃ x, x = w4.drew := ⟨_, rfl⟩
  have HK5 : Hid (Bk w5 (w.heap.size + 1) [.int .i64 0, .int .i64 0, .int .i64 0, .int .i64 0, .string ⟨#[]⟩, .int .i64 0, .int .i64 0, .slice none 0 0] 131) := by rw [hw5]; exact HK.out.drew
  have HB5 : Hid (Below w.heap.size w w5) := by rw [hw5]; exact HB.out.drew
  have HO5 : Hid (OwnI w5 (w.heap.size + 1 + 1) (.slice oa gs.length cap) gs) := by rw [hw5]; exact HO.out
  change wpList _ _ _ _ _ w4.drew
  rw [← hw5]
  clear hw5 k0 k1 k2 k3 k4 k5 k6 k7 f0 f1 f2 f3 f4 f5 f6 f7 c0 c1 c2 c3 c4 c5 c6 c7
  have k0 := HK5.out.cell 0 rfl
  have f0 := HK5.out.frozen 0
  have k1 := HK5.out.cell 1 rfl
  have f1 := HK5.out.frozen 1
  have k2 := HK5.out.cell 2 rfl
  have f2 := HK5.out.frozen 2
  have k3 := HK5.out.cell 3 rfl
  have f3 := HK5.out.frozen 3
  have k4 := HK5.out.cell 4 rfl
  have f4 := HK5.out.frozen 4
  have k5 := HK5.out.cell 5 rfl
  have f5 := HK5.out.frozen 5
  have k6 := HK5.out.cell 6 rfl
  have f6 := HK5.out.frozen 6
  have k7 := HK5.out.cell 7 rfl
  have f7 := HK5.out.frozen 7
  have HE := hid ((HO5.out.of_blocks (fun g hg => set8_ne w5 (w.heap.size + 1) g (.int .i64 i) (.int .i64 q) (.int .i64 u) (.int .i64 st) (.string ⟨mc.toArray⟩) (.int .i64 us) (.int .i64 gr) (.slice oa gs.length cap) (by have := (HO5.out.lt g hg).1; omega))).mono (show w.heap.size ≤ w.heap.size + 1 + 1 by omega))
  have HB8 := hid (below_set8 (b := w.heap.size + 1) HB5.out (by omega) (.int .i64 i) (.int .i64 q) (.int .i64 u) (.int .i64 st) (.string ⟨mc.toArray⟩) (.int .i64 us) (.int .i64 gr) (.slice oa gs.length cap))
  have HZ0 := hid (HK5.out.set8 (.int .i64 i) (.int .i64 q) (.int .i64 u) (.int .i64 st) (.string ⟨mc.toArray⟩) (.int .i64 us) (.int .i64 gr) (.slice oa gs.length cap))
  go_wp2_with fail
  rw [← HQ.out]
  have A0 := HA0.out
  have A1 := HA1.out
  go_wp2
  have HZ := HZ0.out
  have q0 := HZ.cell 0 rfl
  have q1 := HZ.cell 1 rfl
  have q2 := HZ.cell 2 rfl
  have q3 := HZ.cell 3 rfl
  have q4 := HZ.cell 4 rfl
  have q5 := HZ.cell 5 rfl
  have q6 := HZ.cell 6 rfl
  have q7 := HZ.cell 7 rfl
  exact bodyPost_ret (v := .tuple #[.agg #[.int .i64 i, .int .i64 q, .int .i64 u, .int .i64 st, .string ⟨mc.toArray⟩, .int .i64 us, .int .i64 gr, .slice oa gs.length cap], .bool true, .int .i64 V]) (by simp [results, Tryz.results130, go_sem, q0, q1, q2, q3, q4, q5, q6, q7]) rfl ⟨_, _, rfl, HE.out, HB8.out⟩
end Go.Proofs.YtfcbjcebkahehaaGreatDoor
namespace Go.Proofs.YtfcbjcebkahehaaGreatDoor
open Go.RowKit
set_option maxRecDepth 4000 in
set_option maxHeartbeats 8000000 in
theorem judge_mark_b (b : List UInt8) (xid : Int) (w : World) (hT : ErrT w) (hl : b.length ≤ 281474976710656) (e1 : ((pmP 1296126539 b).2 == 0) = true) (e2 : ((pmP 1296126539 b).1.seq == xid) = false) :
    Calls Tryz.prog 130 #[.agg #[.int .i64 1296126539, .string ⟨b.toArray⟩], .int .i64 xid] w (J3Post ((pmP 1296126539 b).1, true, bad (markOk (pmP 1296126539 b) xid)) w) := by
  obtain ⟨w2, hw2⟩ : ∃ x, x = (w.alloc (.cells #[.int .i64 1296126539, .string ⟨b.toArray⟩] 44)).alloc (.cells #[.int .i64 0, .int .i64 0, .int .i64 0, .int .i64 0, .string ⟨#[]⟩, .int .i64 0, .int .i64 0, .slice none 0 0] 131) := ⟨_, rfl⟩
  have HW2 : Hid ((w.alloc (.cells #[.int .i64 1296126539, .string ⟨b.toArray⟩] 44)).alloc (.cells #[.int .i64 0, .int .i64 0, .int .i64 0, .int .i64 0, .string ⟨#[]⟩, .int .i64 0, .int .i64 0, .slice none 0 0] 131) = w2) := hw2.symm
  have H2 := hid (two_start [.int .i64 1296126539, .string ⟨b.toArray⟩] [.int .i64 0, .int .i64 0, .int .i64 0, .int .i64 0, .string ⟨#[]⟩, .int .i64 0, .int .i64 0, .slice none 0 0] _ _ w w2 hw2)
  have HS := hid (parseMark_any 1296126539 b w2 (hT.below H2.out.2.1) hl)
  generalize pmP 1296126539 b = R at HS e1 e2 ⊢
  obtain ⟨⟨i, q, u, st, mc, us, gr, gs⟩, er⟩ := R
  obtain ⟨g, hg⟩ : ∃ g, markOk (⟨i, q, u, st, mc, us, gr, gs⟩, er) xid = g := ⟨_, rfl⟩
  rw [hg]
  have HBU := hid (fun w => badUnless_any g w)
  have HG : Hid (((er == 0) && ((q == xid) && decide (u ≤ q))) = g) := hg
  simp only
  generalize bad g = V at HBU ⊢
  clear hw2 hT hl hg
  go_enter Tryz.func130, Tryz.ntmps130
  go_wp2_with fail
  rw [HW2.out]
  refine HS.out.mono ?_
  rintro e w3 ⟨oa, cap, rfl, ho3, hB3⟩
  have HB3 := hid hB3
  have HO3 := hid ho3
  clear hB3 ho3
  simp only
  go_wp2_with fail
  obtain ⟨w4, hw4⟩ : ∃ x, x = w3.alloc (.cells #[.int .i64 i, .int .i64 q, .int .i64 u, .int .i64 st, .string ⟨mc.toArray⟩, .int .i64 us, .int .i64 gr, .slice oa gs.length cap] 131) := ⟨_, rfl⟩
  rw [← hw4]
  have hB4 : Below w3.heap.size w3 w4 := by rw [hw4]; exact below_new _ _
  have hL : Bk w4 w3.heap.size [.int .i64 i, .int .i64 q, .int .i64 u, .int .i64 st, .string ⟨mc.toArray⟩, .int .i64 us, .int .i64 gr, .slice oa gs.length cap] 131 := by rw [hw4]; exact Bk.new _ _ _
  have hz := H2.out.2.2
  have hz3 := HB3.out.size
  have hK : Bk w4 (w.heap.size + 1) [.int .i64 0, .int .i64 0, .int .i64 0, .int .i64 0, .string ⟨#[]⟩, .int .i64 0, .int .i64 0, .slice none 0 0] 131 := (H2.out.1.below HB3.out (by omega)).below hB4 (by omega)
  have HB : Hid (Below w.heap.size w w4) := (H2.out.2.1.trans (HB3.out.mono (by omega))).trans (hB4.mono (by omega))
  have HO : Hid (OwnI w4 (w.heap.size + 1 + 1) (.slice oa gs.length cap) gs) := (HO3.out.of_blocks (fun g hg => hB4.block g (HO3.out.lt g hg).2)).mono (by omega)
  have HNE : Hid (w3.heap.size ≠ w.heap.size + 1) := by show _ ≠ _; omega
  have HK := hid hK
  have HL := hid hL
  have c0 := hL.cell 0 rfl
  have c1 := hL.cell 1 rfl
  have c2 := hL.cell 2 rfl
  have c3 := hL.cell 3 rfl
  have c4 := hL.cell 4 rfl
  have c5 := hL.cell 5 rfl
  have c6 := hL.cell 6 rfl
  have c7 := hL.cell 7 rfl
  have k0 := hK.cell 0 rfl
  have f0 := hK.frozen 0
  have k1 := hK.cell 1 rfl
  have f1 := hK.frozen 1
  have k2 := hK.cell 2 rfl
  have f2 := hK.frozen 2
  have k3 := hK.cell 3 rfl
  have f3 := hK.frozen 3
  have k4 := hK.cell 4 rfl
  have f4 := hK.frozen 4
  have k5 := hK.cell 5 rfl
  have f5 := hK.frozen 5
  have k6 := hK.cell 6 rfl
  have f6 := hK.frozen 6
  have k7 := hK.cell 7 rfl
  have f7 := hK.frozen 7
  clear hw4 hB4 hL hK hz hz3
  rename_i K1 A1 K0 A0
  have HA1 := hid A1
  have HA0 := hid A0
  clear A1 A0 HS HW2 H2 HB3 HO3
  generalize hQ : Exit.then K0 _ = Q0
  have HQ := hid hQ
  clear hQ
  have e1 : (er == 0) = true := e1
  have e2 : (q == xid) = false := e2
  have HG2 : Hid (g = false) := by have := HG.out; rw [e1, e2] at this; exact this.symm
  rw [HG2.out] at HBU
  obtain rfl : er = 0 := by simpa using e1
  have e2' : decide (q = xid) = false := by simpa using e2
  clear HG e1
  go_still_tail 17, (by kernel_rfl)
  still_call (HBU.out _)
  refine wpStill_nil ?_
  obtain ⟨w5, hw5⟩ : ∃ x, x = w4.drew := ⟨_, rfl⟩
  have HK5 : Hid (Bk w5 (w.heap.size + 1) [.int .i64 0, .int .i64 0, .int .i64 0, .int .i64 0, .string ⟨#[]⟩, .int .i64 0, .int .i64 0, .slice none 0 0] 131) := by rw [hw5]; exact HK.out.drew
  have HB5 : Hid (Below w.heap.size w w5) := by rw [hw5]; exact HB.out.drew
  have HO5 : Hid (OwnI w5 (w.heap.size + 1 + 1) (.slice oa gs.length cap) gs) := by rw [hw5]; exact HO.out
  change wpList _ _ _ _ _ w4.drew
  rw [← hw5]
  clear hw5 k0 k1 k2 k3 k4 k5 k6 k7 f0 f1 f2 f3 f4 f5 f6 f7 c0 c1 c2 c3 c4 c5 c6 c7
  have k0 := HK5.out.cell 0 rfl
  have f0 := HK5.out.frozen 0
  have k1 := HK5.out.cell 1 rfl
  have f1 := HK5.out.frozen 1
  have k2 := HK5.out.cell 2 rfl
  have f2 := HK5.out.frozen 2
  have k3 := HK5.out.cell 3 rfl
  have f3 := HK5.out.frozen 3
  have k4 := HK5.out.cell 4 rfl
  have f4 := HK5.out.frozen 4
  have k5 := HK5.out.cell 5 rfl
  have f5 := HK5.out.frozen 5
  have k6 := HK5.out.cell 6 rfl
  have f6 := HK5.out.frozen 6
  have k7 := HK5.out.cell 7 rfl
  have f7 := HK5.out.frozen 7
  have HE := hid ((HO5.out.of_blocks (fun g hg => set8_ne w5 (w.heap.size + 1) g (.int .i64 i) (.int .i64 q) (.int .i64 u) (.int .i64 st) (.string ⟨mc.toArray⟩) (.int .i64 us) (.int .i64 gr) (.slice oa gs.length cap) (by have := (HO5.out.lt g hg).1; omega))).mono (show w.heap.size ≤ w.heap.size + 1 + 1 by omega))
  have HB8 := hid (below_set8 (b := w.heap.size + 1) HB5.out (by omega) (.int .i64 i) (.int .i64 q) (.int .i64 u) (.int .i64 st) (.string ⟨mc.toArray⟩) (.int .i64 us) (.int .i64 gr) (.slice oa gs.length cap))
  have HZ0 := hid (HK5.out.set8 (.int .i64 i) (.int .i64 q) (.int .i64 u) (.int .i64 st) (.string ⟨mc.toArray⟩) (.int .i64 us) (.int .i64 gr) (.slice oa gs.length cap))
  go_wp2_with fail
  rw [← HQ.out]
  have A0 := HA0.out
  have A1 := HA1.out
  go_wp2
  have HZ := HZ0.out
  have q0 := HZ.cell 0 rfl
  have q1 := HZ.cell 1 rfl
  have q2 := HZ.cell 2 rfl
  have q3 := HZ.cell 3 rfl
  have q4 := HZ.cell 4 rfl
  have q5 := HZ.cell 5 rfl
  have q6 := HZ.cell 6 rfl
  have q7 := HZ.cell 7 rfl
  exact bodyPost_ret (v := .tuple #[.agg #[.int .i64 i, .int .i64 q, .int .i64 u, .int .i64 st, .string ⟨mc.toArray⟩, .int .i64 us, .int .i64 gr, .slice oa gs.length cap], .bool true, .int .i64 V]) (by simp [results, Tryz.results130, go_sem, q0, q1, q2, q3, q4, q5, q6, q7]) rfl ⟨_, _, rfl, HE.out, HB8.out⟩
end Go.Proofs.YtfcbjcebkahehaaGreatDoor
