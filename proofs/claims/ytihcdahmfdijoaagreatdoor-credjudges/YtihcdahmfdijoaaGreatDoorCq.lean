/- A credential judged. -/
import Derived.Test.YtihcdahmfdijoaaGreatDoorCp
namespace Go.Proofs.YtihcdahmfdijoaaGreatDoor
open Go.RowKit
def J3Post (r : MarkP × Bool × Int) (w : World) (e : Ending) (w' : World) : Prop :=
  ∃ a cap, e = .returned (.tuple #[.agg #[.int .i64 r.1.inst, .int .i64 r.1.seq, .int .i64 r.1.water, .int .i64 r.1.sys.stamp, .string ⟨r.1.sys.machine.toArray⟩, .int .i64 r.1.sys.user, .int .i64 r.1.sys.group, .slice a r.1.sys.groups.length cap], .bool r.2.1, .int .i64 r.2.2]) ∧ OwnI w' w.heap.size (.slice a r.1.sys.groups.length cap) r.1.sys.groups ∧ Below w.heap.size w w'
def markOk (r : MarkP × Int) (xid : Int) : Bool := (r.2 == 0) && ((r.1.seq == xid) && decide (r.1.water ≤ r.1.seq))
/-- what judgeCred tells -/
def jcP (f : Int) (b : List UInt8) (xid : Int) : MarkP × Bool × Int :=
  if f = 0 then (nulM, false, bad (nob 0 ⟨b.toArray⟩)) else if f = 1 then (nulM, false, bad ((psP 1 b).2 == 0)) else if f = 1296126539 then ((pmP f b).1, true, bad (markOk (pmP f b) xid)) else (nulM, false, 2)
set_option maxRecDepth 4000 in
theorem judge_none (b : List UInt8) (xid : Int) (w : World) :
    Calls Tryz.prog 31 #[.agg #[.int .i64 0, .string ⟨b.toArray⟩], .int .i64 xid] w (J3Post (nulM, false, bad (nob 0 ⟨b.toArray⟩)) w) := by
  obtain ⟨w2, hw2⟩ : ∃ x, x = (w.alloc (.cells #[.int .i64 0, .string ⟨b.toArray⟩] 23)).alloc (.cells #[.int .i64 0, .int .i64 0, .int .i64 0, .int .i64 0, .string ⟨#[]⟩, .int .i64 0, .int .i64 0, .slice none 0 0] 35) := ⟨_, rfl⟩
  have HW2 : Hid ((w.alloc (.cells #[.int .i64 0, .string ⟨b.toArray⟩] 23)).alloc (.cells #[.int .i64 0, .int .i64 0, .int .i64 0, .int .i64 0, .string ⟨#[]⟩, .int .i64 0, .int .i64 0, .slice none 0 0] 35) = w2) := hw2.symm
  have H2 := hid (two_start [.int .i64 0, .string ⟨b.toArray⟩] [.int .i64 0, .int .i64 0, .int .i64 0, .int .i64 0, .string ⟨#[]⟩, .int .i64 0, .int .i64 0, .slice none 0 0] _ _ w w2 hw2)
  have HI := hid (isNobody_any 0 ⟨b.toArray⟩ w2)
  have HBU := hid (fun w => badUnless_any (nob 0 ⟨b.toArray⟩) w)
  generalize bad (nob 0 ⟨b.toArray⟩) = V at HBU ⊢
  generalize nob 0 ⟨b.toArray⟩ = g at HI HBU
  clear hw2
  go_enter Tryz.func31, Tryz.ntmps31
  go_wp2_with fail
  rw [HW2.out]
  refine HI.out.mono ?_
  rintro e w3 ⟨rfl, hB3⟩
  have HB3 := hid hB3
  clear hB3
  go_wp2_with fail
  refine (HBU.out _).mono ?_
  rintro e w4 ⟨rfl, hw⟩
  rw [hw]
  clear hw
  have HK : Hid (Bk w3 (w.heap.size + 1) [.int .i64 0, .int .i64 0, .int .i64 0, .int .i64 0, .string ⟨#[]⟩, .int .i64 0, .int .i64 0, .slice none 0 0] 35) := H2.out.1.below HB3.out (by have := H2.out.2.2; omega)
  have HB : Hid (Below w.heap.size w w3) := H2.out.2.1.trans (HB3.out.mono (by have := H2.out.2.2; omega))
  have k0 := HK.out.cell 0 rfl
  have f0 := HK.out.frozen 0
  have k1 := HK.out.cell 1 rfl
  have f1 := HK.out.frozen 1
  have k2 := HK.out.cell 2 rfl
  have f2 := HK.out.frozen 2
  have k3 := HK.out.cell 3 rfl
  have f3 := HK.out.frozen 3
  have k4 := HK.out.cell 4 rfl
  have f4 := HK.out.frozen 4
  have k5 := HK.out.cell 5 rfl
  have f5 := HK.out.frozen 5
  have k6 := HK.out.cell 6 rfl
  have f6 := HK.out.frozen 6
  have k7 := HK.out.cell 7 rfl
  have f7 := HK.out.frozen 7
  have HZ := HK.out.set8 (.int .i64 0) (.int .i64 0) (.int .i64 0) (.int .i64 0) (.string ⟨#[]⟩) (.int .i64 0) (.int .i64 0) (.slice none 0 0)
  have q0 := HZ.cell 0 rfl
  have q1 := HZ.cell 1 rfl
  have q2 := HZ.cell 2 rfl
  have q3 := HZ.cell 3 rfl
  have q4 := HZ.cell 4 rfl
  have q5 := HZ.cell 5 rfl
  have q6 := HZ.cell 6 rfl
  have q7 := HZ.cell 7 rfl
  have HB7 := hid (below_set8 (b := w.heap.size + 1) HB.out (by omega) (.int .i64 0) (.int .i64 0) (.int .i64 0) (.int .i64 0) (.string ⟨#[]⟩) (.int .i64 0) (.int .i64 0) (.slice none 0 0))
  clear HZ
  go_wp2
  exact bodyPost_ret (v := .tuple #[.agg #[.int .i64 0, .int .i64 0, .int .i64 0, .int .i64 0, .string ⟨#[]⟩, .int .i64 0, .int .i64 0, .slice none 0 0], .bool false, .int .i64 V]) (by simp [results, Tryz.results31, go_sem, q0, q1, q2, q3, q4, q5, q6, q7]) rfl ⟨none, 0, rfl, OwnI.nil _ _, HB7.out⟩
set_option maxRecDepth 4000 in
theorem judge_other (f : Int) (b : List UInt8) (xid : Int) (w : World) (h0 : f ≠ 0) (h1 : f ≠ 1) (h2 : f ≠ 1296126539) :
    Calls Tryz.prog 31 #[.agg #[.int .i64 f, .string ⟨b.toArray⟩], .int .i64 xid] w (J3Post (nulM, false, 2) w) := by
  have e0 : (f == 0) = false := by simpa using h0
  have e1 : (f == 1) = false := by simpa using h1
  have e2 : (f == 1296126539) = false := by simpa using h2
  clear h0 h1 h2
  go_enter Tryz.func31, Tryz.ntmps31
  go_wp2
  have hs := two_start [.int .i64 f, .string ⟨b.toArray⟩] [.int .i64 0, .int .i64 0, .int .i64 0, .int .i64 0, .string ⟨#[]⟩, .int .i64 0, .int .i64 0, .slice none 0 0] 23 35 w _ rfl
  have HZ := hs.1
  have q0 := HZ.cell 0 rfl
  have q1 := HZ.cell 1 rfl
  have q2 := HZ.cell 2 rfl
  have q3 := HZ.cell 3 rfl
  have q4 := HZ.cell 4 rfl
  have q5 := HZ.cell 5 rfl
  have q6 := HZ.cell 6 rfl
  have q7 := HZ.cell 7 rfl
  exact bodyPost_ret (v := .tuple #[.agg #[.int .i64 0, .int .i64 0, .int .i64 0, .int .i64 0, .string ⟨#[]⟩, .int .i64 0, .int .i64 0, .slice none 0 0], .bool false, .int .i64 2]) (by simp [results, Tryz.results31, go_sem, q0, q1, q2, q3, q4, q5, q6, q7]) rfl ⟨none, 0, rfl, OwnI.nil _ _, hs.2.1⟩
set_option maxRecDepth 4000 in
theorem judge_sys (b : List UInt8) (xid : Int) (w : World) (hT : ErrT w) (hl : b.length ≤ 281474976710656) :
    Calls Tryz.prog 31 #[.agg #[.int .i64 1, .string ⟨b.toArray⟩], .int .i64 xid] w (J3Post (nulM, false, bad ((psP 1 b).2 == 0)) w) := by
  obtain ⟨w2, hw2⟩ : ∃ x, x = (w.alloc (.cells #[.int .i64 1, .string ⟨b.toArray⟩] 23)).alloc (.cells #[.int .i64 0, .int .i64 0, .int .i64 0, .int .i64 0, .string ⟨#[]⟩, .int .i64 0, .int .i64 0, .slice none 0 0] 35) := ⟨_, rfl⟩
  have HW2 : Hid ((w.alloc (.cells #[.int .i64 1, .string ⟨b.toArray⟩] 23)).alloc (.cells #[.int .i64 0, .int .i64 0, .int .i64 0, .int .i64 0, .string ⟨#[]⟩, .int .i64 0, .int .i64 0, .slice none 0 0] 35) = w2) := hw2.symm
  have H2 := hid (two_start [.int .i64 1, .string ⟨b.toArray⟩] [.int .i64 0, .int .i64 0, .int .i64 0, .int .i64 0, .string ⟨#[]⟩, .int .i64 0, .int .i64 0, .slice none 0 0] _ _ w w2 hw2)
  have HS := hid (parseSys_any 1 b w2 (hT.below H2.out.2.1) hl)
  generalize psP 1 b = R at HS ⊢
  obtain ⟨⟨st, mc, us, gr, gs⟩, er⟩ := R
  have HBU := hid (fun w => badUnless_any (er == 0) w)
  simp only
  generalize bad (er == 0) = V at HBU ⊢
  obtain ⟨g, hg⟩ : ∃ g, (er == 0) = g := ⟨_, rfl⟩
  rw [hg] at HBU
  clear hw2 hT hl
  go_enter Tryz.func31, Tryz.ntmps31
  go_wp2_with fail
  rw [HW2.out]
  refine HS.out.mono ?_
  rintro e w3 ⟨oa, cap, rfl, _, hB3⟩
  have HB3 := hid hB3
  clear hB3
  simp only
  go_wp2_with fail
  obtain ⟨w4, hw4⟩ : ∃ x, x = w3.alloc (.cells #[.int .i64 st, .string ⟨mc.toArray⟩, .int .i64 us, .int .i64 gr, .slice oa gs.length cap] 30) := ⟨_, rfl⟩
  rw [← hw4]
  have HB4 : Hid (Below w3.heap.size w3 w4) := by rw [hw4]; exact below_new _ _
  clear hw4
  refine (HBU.out _).mono ?_
  rintro e w5 ⟨rfl, hw⟩
  rw [hw]
  clear hw
  have HK : Hid (Bk w4 (w.heap.size + 1) [.int .i64 0, .int .i64 0, .int .i64 0, .int .i64 0, .string ⟨#[]⟩, .int .i64 0, .int .i64 0, .slice none 0 0] 35) := (H2.out.1.below HB3.out (by have := H2.out.2.2; omega)).below HB4.out (by have := H2.out.2.2; have := HB3.out.size; omega)
  have HB : Hid (Below w.heap.size w w4) := (H2.out.2.1.trans (HB3.out.mono (by have := H2.out.2.2; omega))).trans (HB4.out.mono (by have := H2.out.2.2; have := HB3.out.size; omega))
  have k0 := HK.out.cell 0 rfl
  have f0 := HK.out.frozen 0
  have k1 := HK.out.cell 1 rfl
  have f1 := HK.out.frozen 1
  have k2 := HK.out.cell 2 rfl
  have f2 := HK.out.frozen 2
  have k3 := HK.out.cell 3 rfl
  have f3 := HK.out.frozen 3
  have k4 := HK.out.cell 4 rfl
  have f4 := HK.out.frozen 4
  have k5 := HK.out.cell 5 rfl
  have f5 := HK.out.frozen 5
  have k6 := HK.out.cell 6 rfl
  have f6 := HK.out.frozen 6
  have k7 := HK.out.cell 7 rfl
  have f7 := HK.out.frozen 7
  have HZ := HK.out.set8 (.int .i64 0) (.int .i64 0) (.int .i64 0) (.int .i64 0) (.string ⟨#[]⟩) (.int .i64 0) (.int .i64 0) (.slice none 0 0)
  have q0 := HZ.cell 0 rfl
  have q1 := HZ.cell 1 rfl
  have q2 := HZ.cell 2 rfl
  have q3 := HZ.cell 3 rfl
  have q4 := HZ.cell 4 rfl
  have q5 := HZ.cell 5 rfl
  have q6 := HZ.cell 6 rfl
  have q7 := HZ.cell 7 rfl
  have HB7 := hid (below_set8 (b := w.heap.size + 1) HB.out (by omega) (.int .i64 0) (.int .i64 0) (.int .i64 0) (.int .i64 0) (.string ⟨#[]⟩) (.int .i64 0) (.int .i64 0) (.slice none 0 0))
  clear HZ
  go_wp2
  exact bodyPost_ret (v := .tuple #[.agg #[.int .i64 0, .int .i64 0, .int .i64 0, .int .i64 0, .string ⟨#[]⟩, .int .i64 0, .int .i64 0, .slice none 0 0], .bool false, .int .i64 V]) (by simp [results, Tryz.results31, go_sem, q0, q1, q2, q3, q4, q5, q6, q7]) rfl ⟨none, 0, rfl, OwnI.nil _ _, HB7.out⟩
end Go.Proofs.YtihcdahmfdijoaaGreatDoor
