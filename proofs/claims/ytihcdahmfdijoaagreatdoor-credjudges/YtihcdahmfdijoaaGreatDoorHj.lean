/- How much a call weighs. The document's judgement of a call. The document's Judge. CredJudges: its walk. -/
import Derived.Test.YtihcdahmfdijoaaGreatDoorCu
import Derived.Deep.QuietTactic
import Derived.BigQuiet
import Derived.Test.YtihcdahmfdijoaaGreatDoorZd
import Derived.Test.YtihcdahmfdijoaaGreatDoorCs
import Derived.Test.YtihcdahmfdijoaaGreatDoorZi
import Derived.Test.YtihcdahmfdijoaaGreatDoorCv
import Derived.Test.YtihcdahmfdijoaaGreatDoorNb
import Derived.Deep.RegionHeld3
import Derived.Deep.CutBlock
import Derived.Deep.DeepCutAuto
namespace Go.Proofs.YtihcdahmfdijoaaGreatDoor
open Go.RowKit
set_option maxRecDepth 4000 in
set_option maxHeartbeats 400000 in
theorem callWeighs_any (xid rpc prog vers proc cf vf : Int) (cb vb ar : ByteArray) (w : World) :
    Calls Tryz.prog 14 #[.agg #[.int .i64 xid, .int .i64 rpc, .int .i64 prog, .int .i64 vers, .int .i64 proc, .int .i64 cf, .string cb, .int .i64 vf, .string vb, .string ar]] w fun e w' => e = .returned (.int .i64 (addF (addF cb.size vb.size) ar.size)) ∧ Below w.heap.size w w' := by
  have HA : Hid (∀ w, Calls Tryz.prog 5 #[.int .i64 (cb.size : Int), .int .i64 (vb.size : Int)] w fun e w' => e = .returned (.int .i64 (addF cb.size vb.size)) ∧ w' = w) := fun w => addsUp_any _ _ w (by omega) (by omega)
  have HB : Hid (∀ w, Calls Tryz.prog 5 #[.int .i64 (addF cb.size vb.size), .int .i64 (ar.size : Int)] w fun e w' => e = .returned (.int .i64 (addF (addF cb.size vb.size) ar.size)) ∧ w' = w) := fun w => addsUp_any _ _ w (addF_pos (by omega) (by omega)) (by omega)
  generalize addF (addF cb.size vb.size) ar.size = Z at HB ⊢
  generalize addF cb.size vb.size = Y at HA HB
  obtain ⟨w2, hw2⟩ : ∃ x, w.alloc (.cells #[.int .i64 xid, .int .i64 rpc, .int .i64 prog, .int .i64 vers, .int .i64 proc, .int .i64 cf, .string cb, .int .i64 vf, .string vb, .string ar] 43) = x := ⟨_, rfl⟩
  have hk : Bk w2 w.heap.size [.int .i64 xid, .int .i64 rpc, .int .i64 prog, .int .i64 vers, .int .i64 proc, .int .i64 cf, .string cb, .int .i64 vf, .string vb, .string ar] 43 := by rw [← hw2]; exact Bk.new _ _ _
  have HBe : Hid (Below w.heap.size w w2) := by rw [← hw2]; exact below_new _ _
  have c6 := hk.cell 6 rfl
  have c8 := hk.cell 8 rfl
  have c9 := hk.cell 9 rfl
  clear hk
  go_enter Tryz.func14, Tryz.ntmps14
  go_wp2_with fail
  obtain ⟨A, hA⟩ : ∃ A, (cb.size : Int) = A := ⟨_, rfl⟩
  obtain ⟨B, hB⟩ : ∃ A, (vb.size : Int) = A := ⟨_, rfl⟩
  obtain ⟨C, hC⟩ : ∃ A, (ar.size : Int) = A := ⟨_, rfl⟩
  rw [hA, hB] at HA
  rw [hC] at HB
  go_quiet (first | (go_at_call 5; with_reducible exact Calls.quiet_of_same (HA.out _)) | (go_at_call 5; with_reducible exact Calls.quiet_of_same (HB.out _)))
  go_wp2
  go_ret
  exact ⟨rfl, below_drew HBe.out _⟩
end Go.Proofs.YtihcdahmfdijoaaGreatDoor
namespace Go.Proofs.YtihcdahmfdijoaaGreatDoor
open Go.RowKit
set_option maxRecDepth 4000 in
theorem dcred_none (xid rpc prog vers proc vf : Int) (cb vb : List UInt8) (args : ByteArray) (w : World) :
    Calls Tryz.prog 33 #[.agg #[.int .i64 xid, .int .i64 rpc, .int .i64 prog, .int .i64 vers, .int .i64 proc, .int .i64 0, .string ⟨cb.toArray⟩, .int .i64 vf, .string ⟨vb.toArray⟩, .string args]] w fun e w' => e = .returned (.int .i64 (bad (nob 0 ⟨cb.toArray⟩))) ∧ Below w.heap.size w w' := by
  generalize (⟨cb.toArray⟩ : ByteArray) = s
  cases h1 : (s.toList == [])
  · have e : bad (nob 0 s) = 1 := by unfold bad nob; rw [h1]; rfl
    rw [e]
    go_enter Tryz.func33, Tryz.ntmps33
    go_wp2
    go_ret
    exact ⟨rfl, below_new _ _⟩
  · have e : bad (nob 0 s) = 0 := by unfold bad nob; rw [h1]; rfl
    rw [e]
    go_enter Tryz.func33, Tryz.ntmps33
    go_wp2
    go_ret
    exact ⟨rfl, below_new _ _⟩
set_option maxRecDepth 4000 in
theorem dcred_other (cf : Int) (xid rpc prog vers proc vf : Int) (cb vb : List UInt8) (args : ByteArray) (w : World) (h0 : cf ≠ 0) (h1 : cf ≠ 1) (h2 : cf ≠ 1296126539) :
    Calls Tryz.prog 33 #[.agg #[.int .i64 xid, .int .i64 rpc, .int .i64 prog, .int .i64 vers, .int .i64 proc, .int .i64 cf, .string ⟨cb.toArray⟩, .int .i64 vf, .string ⟨vb.toArray⟩, .string args]] w fun e w' => e = .returned (.int .i64 2) ∧ Below w.heap.size w w' := by
  have e0 : (cf == 0) = false := beq_eq_false_iff_ne.2 h0
  have e1 : (cf == 1) = false := beq_eq_false_iff_ne.2 h1
  have e2 : (cf == 1296126539) = false := beq_eq_false_iff_ne.2 h2
  go_enter Tryz.func33, Tryz.ntmps33
  go_wp2
  go_ret
  exact ⟨rfl, below_new _ _⟩
set_option maxRecDepth 4000 in
theorem dcred_sys (xid rpc prog vers proc vf : Int) (cb vb : List UInt8) (args : ByteArray) (w : World) :
    Calls Tryz.prog 33 #[.agg #[.int .i64 xid, .int .i64 rpc, .int .i64 prog, .int .i64 vers, .int .i64 proc, .int .i64 1, .string ⟨cb.toArray⟩, .int .i64 vf, .string ⟨vb.toArray⟩, .string args]] w fun e w' => e = .returned (.int .i64 (bad ((psP 1 cb).2 == 0))) ∧ Below w.heap.size w w' := by
  have HS := hid (fun w => dparseSys_any 1 cb w)
  generalize psP 1 cb = R at HS ⊢
  obtain ⟨⟨st, mc, us, gr, gs⟩, er⟩ := R
  simp only
  obtain ⟨V, hV⟩ : ∃ V, bad (er == 0) = V := ⟨_, rfl⟩
  have HV := hid hV
  rw [hV]
  clear hV
  obtain ⟨w1, hw1⟩ : ∃ x, w.alloc (.cells #[.int .i64 xid, .int .i64 rpc, .int .i64 prog, .int .i64 vers, .int .i64 proc, .int .i64 1, .string ⟨cb.toArray⟩, .int .i64 vf, .string ⟨vb.toArray⟩, .string args] 43) = x := ⟨_, rfl⟩
  have HB1 : Hid (Below w.heap.size w w1) := by rw [← hw1]; exact below_new _ _
  have HK1 : Hid (Bk w1 w.heap.size [.int .i64 xid, .int .i64 rpc, .int .i64 prog, .int .i64 vers, .int .i64 proc, .int .i64 1, .string ⟨cb.toArray⟩, .int .i64 vf, .string ⟨vb.toArray⟩, .string args] 43) := by rw [← hw1]; exact Bk.new _ _ _
  have c5 := HK1.out.cell 5 rfl
  have c6 := HK1.out.cell 6 rfl
  go_enter Tryz.func33, Tryz.ntmps33
  go_wp2_with fail
  refine (HS.out _).mono ?_
  rintro e w3 ⟨oa, cap, rfl, _, hB3⟩
  have HB3 : Hid (Below w.heap.size w w3) := HB1.out.trans (hB3.mono HB1.out.size)
  obtain ⟨w4, hw4⟩ : ∃ x, w3.alloc (.cells #[.int .i64 st, .string ⟨mc.toArray⟩, .int .i64 us, .int .i64 gr, .slice oa gs.length cap] 30) = x := ⟨_, rfl⟩
  have HB4 : Hid (Below w.heap.size w w4) := HB3.out.trans (by rw [← hw4]; exact (below_new _ _).mono HB3.out.size)
  clear hw1 c5 c6 hB3
  by_cases h0 : er = 0
  · subst h0
    have hV := HV.out
    simp [bad] at hV
    subst hV
    clear HV
    go_wp2
    go_ret
    exact ⟨rfl, HB4.out⟩
  · have h1 : (er != 0) = true := bne_iff_ne.2 h0
    have h2 : (er == 0) = false := beq_eq_false_iff_ne.2 h0
    have hV := HV.out
    rw [h2] at hV
    simp [bad] at hV
    subst hV
    clear HV
    go_wp2
    go_ret
    exact ⟨rfl, HB4.out⟩
set_option maxRecDepth 4000 in
theorem dcred_mark (xid rpc prog vers proc vf : Int) (cb vb : List UInt8) (args : ByteArray) (w : World) :
    Calls Tryz.prog 33 #[.agg #[.int .i64 xid, .int .i64 rpc, .int .i64 prog, .int .i64 vers, .int .i64 proc, .int .i64 1296126539, .string ⟨cb.toArray⟩, .int .i64 vf, .string ⟨vb.toArray⟩, .string args]] w fun e w' => e = .returned (.int .i64 (bad (markOk (pmP 1296126539 cb) xid))) ∧ Below w.heap.size w w' := by
  have HS := hid (fun w => dparseMark_any 1296126539 cb w)
  generalize pmP 1296126539 cb = R at HS ⊢
  obtain ⟨⟨i, q, u, ⟨st, mc, us, gr, gs⟩⟩, er⟩ := R
  unfold markOk
  simp only
  obtain ⟨V, hV⟩ : ∃ V, bad ((er == 0) && ((q == xid) && decide (u ≤ q))) = V := ⟨_, rfl⟩
  have HV := hid hV
  rw [hV]
  clear hV
  obtain ⟨w1, hw1⟩ : ∃ x, w.alloc (.cells #[.int .i64 xid, .int .i64 rpc, .int .i64 prog, .int .i64 vers, .int .i64 proc, .int .i64 1296126539, .string ⟨cb.toArray⟩, .int .i64 vf, .string ⟨vb.toArray⟩, .string args] 43) = x := ⟨_, rfl⟩
  have HB1 : Hid (Below w.heap.size w w1) := by rw [← hw1]; exact below_new _ _
  have HK1 : Hid (Bk w1 w.heap.size [.int .i64 xid, .int .i64 rpc, .int .i64 prog, .int .i64 vers, .int .i64 proc, .int .i64 1296126539, .string ⟨cb.toArray⟩, .int .i64 vf, .string ⟨vb.toArray⟩, .string args] 43) := by rw [← hw1]; exact Bk.new _ _ _
  have c5 := HK1.out.cell 5 rfl
  have c6 := HK1.out.cell 6 rfl
  go_enter Tryz.func33, Tryz.ntmps33
  go_wp2_with fail
  refine (HS.out _).mono ?_
  rintro e w3 ⟨oa, cap, rfl, _, hB3⟩
  have HB3 : Hid (Below w.heap.size w w3) := HB1.out.trans (hB3.mono HB1.out.size)
  obtain ⟨m4, hm4⟩ : ∃ g, w3.heap.size = g := ⟨_, rfl⟩
  obtain ⟨w4, hw4⟩ : ∃ x, w3.alloc (.cells #[.int .i64 i, .int .i64 q, .int .i64 u, .int .i64 st, .string ⟨mc.toArray⟩, .int .i64 us, .int .i64 gr, .slice oa gs.length cap] 35) = x := ⟨_, rfl⟩
  have HB4 : Hid (Below w.heap.size w w4) := HB3.out.trans (by rw [← hw4]; exact (below_new _ _).mono HB3.out.size)
  have HM4 : Hid (Bk w4 m4 [.int .i64 i, .int .i64 q, .int .i64 u, .int .i64 st, .string ⟨mc.toArray⟩, .int .i64 us, .int .i64 gr, .slice oa gs.length cap] 35) := by rw [← hw4, ← hm4]; exact Bk.new _ _ _
  have HK4 : Hid (Bk w4 w.heap.size [.int .i64 xid, .int .i64 rpc, .int .i64 prog, .int .i64 vers, .int .i64 proc, .int .i64 1296126539, .string ⟨cb.toArray⟩, .int .i64 vf, .string ⟨vb.toArray⟩, .string args] 43) := (HK1.out.below hB3 HK1.out.lt).below (by rw [← hw4]; exact below_new _ _) (Nat.lt_of_lt_of_le HK1.out.lt hB3.size)
  have d1 := HM4.out.cell 1 rfl
  have d2 := HM4.out.cell 2 rfl
  have d0 := HK4.out.cell 0 rfl
  clear hw1 c5 c6 hB3 HK1 HB1
  by_cases h0 : er = 0
  · subst h0
    by_cases h1 : q = xid
    · subst h1
      by_cases h2 : u ≤ q
      · have hV := HV.out
        simp [bad, h2] at hV
        subst hV
        have h3 : ¬ q < u := by omega
        clear HV
        go_wp2
        go_ret
        exact ⟨rfl, HB4.out⟩
      · have hV := HV.out
        simp [bad, h2] at hV
        subst hV
        have h3 : q < u := by omega
        clear HV
        go_wp2
        go_ret
        exact ⟨rfl, HB4.out⟩
    · have e1 : (q != xid) = true := bne_iff_ne.2 h1
      have hV := HV.out
      simp [bad, h1] at hV
      subst hV
      clear HV
      go_wp2
      go_ret
      exact ⟨rfl, HB4.out⟩
  · have h1 : (er != 0) = true := bne_iff_ne.2 h0
    have hV := HV.out
    simp [bad, h0] at hV
    subst hV
    clear HV
    go_wp2
    go_ret
    exact ⟨rfl, HB4.out⟩
theorem dcred_any (cf : Int) (xid rpc prog vers proc vf : Int) (cb vb : List UInt8) (args : ByteArray) (w : World) :
    Calls Tryz.prog 33 #[.agg #[.int .i64 xid, .int .i64 rpc, .int .i64 prog, .int .i64 vers, .int .i64 proc, .int .i64 cf, .string ⟨cb.toArray⟩, .int .i64 vf, .string ⟨vb.toArray⟩, .string args]] w fun e w' => e = .returned (.int .i64 (jcP cf cb xid).2.2) ∧ Below w.heap.size w w' := by
  unfold jcP
  by_cases h0 : cf = 0
  · subst h0; rw [if_pos rfl]; exact dcred_none xid rpc prog vers proc vf cb vb args w
  · rw [if_neg h0]
    by_cases h1 : cf = 1
    · subst h1; rw [if_pos rfl]; exact dcred_sys xid rpc prog vers proc vf cb vb args w
    · rw [if_neg h1]
      by_cases h2 : cf = 1296126539
      · subst h2; rw [if_pos rfl]; exact dcred_mark xid rpc prog vers proc vf cb vb args w
      · rw [if_neg h2]; exact dcred_other cf xid rpc prog vers proc vf cb vb args w h0 h1 h2
end Go.Proofs.YtihcdahmfdijoaaGreatDoor
namespace Go.Proofs.YtihcdahmfdijoaaGreatDoor
open Go.RowKit
set_option maxRecDepth 4000 in
set_option maxHeartbeats 4000000 in
theorem djudge_core (xid rpc prog vers proc cf vf v : Int) (cb : List UInt8) (C S args : ByteArray) (hC : C = ⟨cb.toArray⟩) (w : World) (hcred : ∀ w, Calls Tryz.prog 33 #[.agg #[.int .i64 xid, .int .i64 rpc, .int .i64 prog, .int .i64 vers, .int .i64 proc, .int .i64 cf, .string C, .int .i64 vf, .string S, .string args]] w fun e w' => e = .returned (.int .i64 v) ∧ Below w.heap.size w w') (R : MarkP × Bool × Int)
    (hR : R = if v = 0 then (if nob vf S = true then (if cf = 1296126539 then ((pmP cf cb).1, true, 0) else (nulM, false, 0)) else (nulM, false, 3)) else (nulM, false, v)) :
    Calls Tryz.prog 16 #[.agg #[.int .i64 xid, .int .i64 rpc, .int .i64 prog, .int .i64 vers, .int .i64 proc, .int .i64 cf, .string C, .int .i64 vf, .string S, .string args]] w (J3Post R w) := by
  obtain ⟨w2, hw2⟩ : ∃ x, x = (w.alloc (.cells #[.int .i64 xid, .int .i64 rpc, .int .i64 prog, .int .i64 vers, .int .i64 proc, .int .i64 cf, .string C, .int .i64 vf, .string S, .string args] 43)).alloc (.cells #[.int .i64 0, .int .i64 0, .int .i64 0, .int .i64 0, .string ⟨#[]⟩, .int .i64 0, .int .i64 0, .slice none 0 0] 35) := ⟨_, rfl⟩
  have H2 := hid (two_start [.int .i64 xid, .int .i64 rpc, .int .i64 prog, .int .i64 vers, .int .i64 proc, .int .i64 cf, .string C, .int .i64 vf, .string S, .string args] [.int .i64 0, .int .i64 0, .int .i64 0, .int .i64 0, .string ⟨#[]⟩, .int .i64 0, .int .i64 0, .slice none 0 0] _ _ w w2 hw2)
  have HC2 : Hid (Bk w2 w.heap.size [.int .i64 xid, .int .i64 rpc, .int .i64 prog, .int .i64 vers, .int .i64 proc, .int .i64 cf, .string C, .int .i64 vf, .string S, .string args] 43) := by rw [hw2]; exact (Bk.new w [.int .i64 xid, .int .i64 rpc, .int .i64 prog, .int .i64 vers, .int .i64 proc, .int .i64 cf, .string C, .int .i64 vf, .string S, .string args] 43).below (below_new _ _) (by simp)
  have e2 := hw2.symm
  have HCR := hid hcred
  have HR := hid hR
  have HPM : Hid (∀ w, Calls Tryz.prog 10 #[.agg #[.int .i64 cf, .string C]] w (MarkPost (pmP cf cb) w)) := fun w => by rw [hC]; exact dparseMark_any cf cb w
  have c0 := HC2.out.cell 0 rfl
  have c1 := HC2.out.cell 1 rfl
  have c2 := HC2.out.cell 2 rfl
  have c3 := HC2.out.cell 3 rfl
  have c4 := HC2.out.cell 4 rfl
  have c5 := HC2.out.cell 5 rfl
  have c6 := HC2.out.cell 6 rfl
  have c7 := HC2.out.cell 7 rfl
  have c8 := HC2.out.cell 8 rfl
  have c9 := HC2.out.cell 9 rfl
  clear hw2 hcred hR hC
  go_enter Tryz.func16, Tryz.ntmps16
  go_wp2_with fail
  refine (HCR.out _).mono ?_
  rintro e w3 ⟨rfl, hB3⟩
  have HK : Hid (Bk w3 (w.heap.size + 1) [.int .i64 0, .int .i64 0, .int .i64 0, .int .i64 0, .string ⟨#[]⟩, .int .i64 0, .int .i64 0, .slice none 0 0] 35) := H2.out.1.below hB3 (by have := H2.out.2.2; omega)
  have HB : Hid (Below w.heap.size w w3) := H2.out.2.1.trans (hB3.mono H2.out.2.1.size)
  have HC3 : Hid (Bk w3 w.heap.size [.int .i64 xid, .int .i64 rpc, .int .i64 prog, .int .i64 vers, .int .i64 proc, .int .i64 cf, .string C, .int .i64 vf, .string S, .string args] 43) := HC2.out.below hB3 HC2.out.lt
  clear e2 hB3 c0 c1 c2 c3 c4 c5 c6 c7 c8 c9 HCR HC2
  have c5 := HC3.out.cell 5 rfl
  have c6 := HC3.out.cell 6 rfl
  have c7 := HC3.out.cell 7 rfl
  have c8 := HC3.out.cell 8 rfl
  by_cases hv : v = 0
  · subst hv
    have hR := HR.out
    rw [if_pos rfl] at hR
    cases hn : nob vf S
    · rw [hn, if_neg (by simp)] at hR
      subst hR
      clear HR HPM
      by_cases hf : vf = 0
      · subst hf
        have h1 : (S.toList == []) = false := by unfold nob at hn; simpa using hn
        clear hn
        have k0 := HK.out.cell 0 rfl
        have f0 := HK.out.frozen 0
        have k1 := HK.out.cell 1 rfl
        have f1 := HK.out.frozen 1
        have k2 := HK.out.cell 2 rfl
        have f2 := HK.out.frozen 2
        have k3 := HK.out.cell 3 rfl
        have f3 := HK.out.frozen 3
        have k4 := HK.out.cell 4 rfl
        have f4 := HK.out.frozen 4
        have k5 := HK.out.cell 5 rfl
        have f5 := HK.out.frozen 5
        have k6 := HK.out.cell 6 rfl
        have f6 := HK.out.frozen 6
        have k7 := HK.out.cell 7 rfl
        have f7 := HK.out.frozen 7
        have HZ := HK.out.set8 (.int .i64 0) (.int .i64 0) (.int .i64 0) (.int .i64 0) (.string ⟨#[]⟩) (.int .i64 0) (.int .i64 0) (.slice none 0 0)
        have q0 := HZ.cell 0 rfl
        have q1 := HZ.cell 1 rfl
        have q2 := HZ.cell 2 rfl
        have q3 := HZ.cell 3 rfl
        have q4 := HZ.cell 4 rfl
        have q5 := HZ.cell 5 rfl
        have q6 := HZ.cell 6 rfl
        have q7 := HZ.cell 7 rfl
        have HB7 := hid (below_set8 (b := w.heap.size + 1) HB.out (by omega) (.int .i64 0) (.int .i64 0) (.int .i64 0) (.int .i64 0) (.string ⟨#[]⟩) (.int .i64 0) (.int .i64 0) (.slice none 0 0))
        clear HZ
        go_wp2
        exact bodyPost_ret (v := .tuple #[.agg #[.int .i64 0, .int .i64 0, .int .i64 0, .int .i64 0, .string ⟨#[]⟩, .int .i64 0, .int .i64 0, .slice none 0 0], .bool false, .int .i64 3]) (by simp [results, Tryz.results16, go_sem, q0, q1, q2, q3, q4, q5, q6, q7]) rfl ⟨none, 0, rfl, OwnI.nil _ _, HB7.out⟩
      · have h1 : (vf != 0) = true := bne_iff_ne.2 hf
        clear hn
        have k0 := HK.out.cell 0 rfl
        have f0 := HK.out.frozen 0
        have k1 := HK.out.cell 1 rfl
        have f1 := HK.out.frozen 1
        have k2 := HK.out.cell 2 rfl
        have f2 := HK.out.frozen 2
        have k3 := HK.out.cell 3 rfl
        have f3 := HK.out.frozen 3
        have k4 := HK.out.cell 4 rfl
        have f4 := HK.out.frozen 4
        have k5 := HK.out.cell 5 rfl
        have f5 := HK.out.frozen 5
        have k6 := HK.out.cell 6 rfl
        have f6 := HK.out.frozen 6
        have k7 := HK.out.cell 7 rfl
        have f7 := HK.out.frozen 7
        have HZ := HK.out.set8 (.int .i64 0) (.int .i64 0) (.int .i64 0) (.int .i64 0) (.string ⟨#[]⟩) (.int .i64 0) (.int .i64 0) (.slice none 0 0)
        have q0 := HZ.cell 0 rfl
        have q1 := HZ.cell 1 rfl
        have q2 := HZ.cell 2 rfl
        have q3 := HZ.cell 3 rfl
        have q4 := HZ.cell 4 rfl
        have q5 := HZ.cell 5 rfl
        have q6 := HZ.cell 6 rfl
        have q7 := HZ.cell 7 rfl
        have HB7 := hid (below_set8 (b := w.heap.size + 1) HB.out (by omega) (.int .i64 0) (.int .i64 0) (.int .i64 0) (.int .i64 0) (.string ⟨#[]⟩) (.int .i64 0) (.int .i64 0) (.slice none 0 0))
        clear HZ
        go_wp2
        exact bodyPost_ret (v := .tuple #[.agg #[.int .i64 0, .int .i64 0, .int .i64 0, .int .i64 0, .string ⟨#[]⟩, .int .i64 0, .int .i64 0, .slice none 0 0], .bool false, .int .i64 3]) (by simp [results, Tryz.results16, go_sem, q0, q1, q2, q3, q4, q5, q6, q7]) rfl ⟨none, 0, rfl, OwnI.nil _ _, HB7.out⟩
    · rw [hn, if_pos rfl] at hR
      have hf : vf = 0 := by unfold nob at hn; simp at hn; exact hn.1
      have h1 : (S.toList == []) = true := by unfold nob at hn; rw [Bool.and_eq_true] at hn; exact hn.2
      subst hf
      clear hn
      by_cases hm : cf = 1296126539
      · rw [if_pos hm] at hR
        subst hm
        have HR2 := hid hR
        clear HR hR
        go_wp2_with fail
        refine (HPM.out _).mono ?_
        generalize pmP 1296126539 cb = rm at HR2
        obtain ⟨⟨i, q, u, ⟨st, mc, us, gr, gs⟩⟩, em⟩ := rm
        rintro e w4 ⟨oa, cap, rfl, o4, hB4⟩
        have hR := HR2.out
        subst hR
        obtain ⟨m5, hm5⟩ : ∃ g, w4.heap.size = g := ⟨_, rfl⟩
        obtain ⟨w5, hw5⟩ : ∃ x, w4.alloc (.cells #[.int .i64 i, .int .i64 q, .int .i64 u, .int .i64 st, .string ⟨mc.toArray⟩, .int .i64 us, .int .i64 gr, .slice oa gs.length cap] 35) = x := ⟨_, rfl⟩
        have h45 : Below w4.heap.size w4 w5 := by rw [← hw5]; exact below_new _ _
        have h35 : Below w3.heap.size w3 w5 := hB4.trans (h45.mono hB4.size)
        have HM5 : Hid (Bk w5 m5 [.int .i64 i, .int .i64 q, .int .i64 u, .int .i64 st, .string ⟨mc.toArray⟩, .int .i64 us, .int .i64 gr, .slice oa gs.length cap] 35) := by rw [← hw5, ← hm5]; exact Bk.new _ _ _
        have HK5 : Hid (Bk w5 (w.heap.size + 1) [.int .i64 0, .int .i64 0, .int .i64 0, .int .i64 0, .string ⟨#[]⟩, .int .i64 0, .int .i64 0, .slice none 0 0] 35) := HK.out.below h35 HK.out.lt
        have HB5 : Hid (Below w.heap.size w w5) := HB.out.trans (h35.mono HB.out.size)
        have HO5 : Hid (OwnI w5 (w.heap.size + 1 + 1) (.slice oa gs.length cap) gs) := (o4.of_blocks (fun g hg => h45.block g (o4.lt g hg).2)).mono HK.out.lt
        clear o4 hB4 h45 h35 HK HB HR2 HPM
        have k0 := HK5.out.cell 0 rfl
        have f0 := HK5.out.frozen 0
        have p0 := HM5.out.cell 0 rfl
        have k1 := HK5.out.cell 1 rfl
        have f1 := HK5.out.frozen 1
        have p1 := HM5.out.cell 1 rfl
        have k2 := HK5.out.cell 2 rfl
        have f2 := HK5.out.frozen 2
        have p2 := HM5.out.cell 2 rfl
        have k3 := HK5.out.cell 3 rfl
        have f3 := HK5.out.frozen 3
        have p3 := HM5.out.cell 3 rfl
        have k4 := HK5.out.cell 4 rfl
        have f4 := HK5.out.frozen 4
        have p4 := HM5.out.cell 4 rfl
        have k5 := HK5.out.cell 5 rfl
        have f5 := HK5.out.frozen 5
        have p5 := HM5.out.cell 5 rfl
        have k6 := HK5.out.cell 6 rfl
        have f6 := HK5.out.frozen 6
        have p6 := HM5.out.cell 6 rfl
        have k7 := HK5.out.cell 7 rfl
        have f7 := HK5.out.frozen 7
        have p7 := HM5.out.cell 7 rfl
        have HZ := HK5.out.set8 (.int .i64 i) (.int .i64 q) (.int .i64 u) (.int .i64 st) (.string ⟨mc.toArray⟩) (.int .i64 us) (.int .i64 gr) (.slice oa gs.length cap)
        have q0 := HZ.cell 0 rfl
        have q1 := HZ.cell 1 rfl
        have q2 := HZ.cell 2 rfl
        have q3 := HZ.cell 3 rfl
        have q4 := HZ.cell 4 rfl
        have q5 := HZ.cell 5 rfl
        have q6 := HZ.cell 6 rfl
        have q7 := HZ.cell 7 rfl
        have HE := hid ((HO5.out.of_blocks (fun g hg => set8_ne w5 (w.heap.size + 1) g (.int .i64 i) (.int .i64 q) (.int .i64 u) (.int .i64 st) (.string ⟨mc.toArray⟩) (.int .i64 us) (.int .i64 gr) (.slice oa gs.length cap) (by have := (HO5.out.lt g hg).1; omega))).mono (show w.heap.size ≤ w.heap.size + 1 + 1 by omega))
        have HB8 := hid (below_set8 (b := w.heap.size + 1) HB5.out (by omega) (.int .i64 i) (.int .i64 q) (.int .i64 u) (.int .i64 st) (.string ⟨mc.toArray⟩) (.int .i64 us) (.int .i64 gr) (.slice oa gs.length cap))
        clear HZ
        go_wp2
        exact bodyPost_ret (v := .tuple #[.agg #[.int .i64 i, .int .i64 q, .int .i64 u, .int .i64 st, .string ⟨mc.toArray⟩, .int .i64 us, .int .i64 gr, .slice oa gs.length cap], .bool true, .int .i64 0]) (by simp [results, Tryz.results16, go_sem, q0, q1, q2, q3, q4, q5, q6, q7]) rfl ⟨_, _, rfl, HE.out, HB8.out⟩
      · rw [if_neg hm] at hR
        subst hR
        have hm1 : (cf != 1296126539) = true := bne_iff_ne.2 hm
        clear HR HPM
        have k0 := HK.out.cell 0 rfl
        have f0 := HK.out.frozen 0
        have k1 := HK.out.cell 1 rfl
        have f1 := HK.out.frozen 1
        have k2 := HK.out.cell 2 rfl
        have f2 := HK.out.frozen 2
        have k3 := HK.out.cell 3 rfl
        have f3 := HK.out.frozen 3
        have k4 := HK.out.cell 4 rfl
        have f4 := HK.out.frozen 4
        have k5 := HK.out.cell 5 rfl
        have f5 := HK.out.frozen 5
        have k6 := HK.out.cell 6 rfl
        have f6 := HK.out.frozen 6
        have k7 := HK.out.cell 7 rfl
        have f7 := HK.out.frozen 7
        have HZ := HK.out.set8 (.int .i64 0) (.int .i64 0) (.int .i64 0) (.int .i64 0) (.string ⟨#[]⟩) (.int .i64 0) (.int .i64 0) (.slice none 0 0)
        have q0 := HZ.cell 0 rfl
        have q1 := HZ.cell 1 rfl
        have q2 := HZ.cell 2 rfl
        have q3 := HZ.cell 3 rfl
        have q4 := HZ.cell 4 rfl
        have q5 := HZ.cell 5 rfl
        have q6 := HZ.cell 6 rfl
        have q7 := HZ.cell 7 rfl
        have HB7 := hid (below_set8 (b := w.heap.size + 1) HB.out (by omega) (.int .i64 0) (.int .i64 0) (.int .i64 0) (.int .i64 0) (.string ⟨#[]⟩) (.int .i64 0) (.int .i64 0) (.slice none 0 0))
        clear HZ
        go_wp2
        exact bodyPost_ret (v := .tuple #[.agg #[.int .i64 0, .int .i64 0, .int .i64 0, .int .i64 0, .string ⟨#[]⟩, .int .i64 0, .int .i64 0, .slice none 0 0], .bool false, .int .i64 0]) (by simp [results, Tryz.results16, go_sem, q0, q1, q2, q3, q4, q5, q6, q7]) rfl ⟨none, 0, rfl, OwnI.nil _ _, HB7.out⟩
  · have hR := HR.out
    rw [if_neg hv] at hR
    subst hR
    have hv1 : (v != 0) = true := bne_iff_ne.2 hv
    have hv2 : (v == 0) = false := beq_eq_false_iff_ne.2 hv
    clear HR HPM
    have k0 := HK.out.cell 0 rfl
    have f0 := HK.out.frozen 0
    have k1 := HK.out.cell 1 rfl
    have f1 := HK.out.frozen 1
    have k2 := HK.out.cell 2 rfl
    have f2 := HK.out.frozen 2
    have k3 := HK.out.cell 3 rfl
    have f3 := HK.out.frozen 3
    have k4 := HK.out.cell 4 rfl
    have f4 := HK.out.frozen 4
    have k5 := HK.out.cell 5 rfl
    have f5 := HK.out.frozen 5
    have k6 := HK.out.cell 6 rfl
    have f6 := HK.out.frozen 6
    have k7 := HK.out.cell 7 rfl
    have f7 := HK.out.frozen 7
    have HZ := HK.out.set8 (.int .i64 0) (.int .i64 0) (.int .i64 0) (.int .i64 0) (.string ⟨#[]⟩) (.int .i64 0) (.int .i64 0) (.slice none 0 0)
    have q0 := HZ.cell 0 rfl
    have q1 := HZ.cell 1 rfl
    have q2 := HZ.cell 2 rfl
    have q3 := HZ.cell 3 rfl
    have q4 := HZ.cell 4 rfl
    have q5 := HZ.cell 5 rfl
    have q6 := HZ.cell 6 rfl
    have q7 := HZ.cell 7 rfl
    have HB7 := hid (below_set8 (b := w.heap.size + 1) HB.out (by omega) (.int .i64 0) (.int .i64 0) (.int .i64 0) (.int .i64 0) (.string ⟨#[]⟩) (.int .i64 0) (.int .i64 0) (.slice none 0 0))
    clear HZ
    go_wp2
    exact bodyPost_ret (v := .tuple #[.agg #[.int .i64 0, .int .i64 0, .int .i64 0, .int .i64 0, .string ⟨#[]⟩, .int .i64 0, .int .i64 0, .slice none 0 0], .bool false, .int .i64 v]) (by simp [results, Tryz.results16, go_sem, q0, q1, q2, q3, q4, q5, q6, q7]) rfl ⟨none, 0, rfl, OwnI.nil _ _, HB7.out⟩
theorem djudge_any (xid rpc prog vers proc cf vf : Int) (cb vb : List UInt8) (args : ByteArray) (w : World) :
    Calls Tryz.prog 16 #[.agg #[.int .i64 xid, .int .i64 rpc, .int .i64 prog, .int .i64 vers, .int .i64 proc, .int .i64 cf, .string ⟨cb.toArray⟩, .int .i64 vf, .string ⟨vb.toArray⟩, .string args]] w (J3Post (jP xid cf cb vf vb) w) := by
  refine djudge_core xid rpc prog vers proc cf vf _ cb ⟨cb.toArray⟩ ⟨vb.toArray⟩ args rfl w (fun w => dcred_any cf xid rpc prog vers proc vf cb vb args w) _ ?_
  unfold jP
  by_cases h : (jcP cf cb xid).2.2 = 0
  · rw [if_pos h, if_pos h]
    by_cases hn : nob vf ⟨vb.toArray⟩ = true
    · rw [if_pos hn, if_pos hn]
      unfold jcP at h ⊢
      by_cases h0 : cf = 0
      · subst h0; simp
      · rw [if_neg h0] at h ⊢
        by_cases h1 : cf = 1
        · subst h1; simp
        · rw [if_neg h1] at h ⊢
          by_cases h2 : cf = 1296126539
          · rw [if_pos h2, if_pos h2]
          · rw [if_neg h2] at h
            simp at h
    · rw [if_neg hn, if_neg hn]
  · rw [if_neg h, if_neg h]
end Go.Proofs.YtihcdahmfdijoaaGreatDoor
namespace Go.Proofs.YtihcdahmfdijoaaGreatDoor
open Go.RowKit
theorem jP_small (xid cf : Int) (cb : List UInt8) (vf : Int) (vb : List UInt8) : (jP xid cf cb vf vb).1.sys.groups.length ≤ 1000 := by
  have hz : nulM.sys.groups.length ≤ 1000 := by simp [nulM, nulS]
  have hp : (pmP cf cb).1.sys.groups.length ≤ 1000 := by
    by_cases h : (pmP cf cb).2 = 0
    · have := (pmP_ok h).2.1.2.2.2.2.2.2.2.1
      omega
    · unfold pmP at h ⊢
      split
      · exact hz
      · rename_i h1
        rw [if_neg h1] at h
        split
        · exact hz
        · rename_i s hs
          rw [hs] at h
          simp at h
  unfold jP jcP
  repeat' split
  all_goals first | exact hz | exact hp
theorem bk_here {w w' : World} {g : Nat} {xs : List Value} {t : TypeId} (h : w.alloc (.cells xs.toArray t) = w') (hg : w.heap.size = g) : Bk w' g xs t := by
  rw [← h, ← hg]
  exact Bk.new _ _ _
theorem low_here {w w' : World} {ob : Obj} (h : w.alloc ob = w') : Below w.heap.size w w' := by
  rw [← h]
  exact below_new _ _
theorem OwnI.idle {w w' : World} {b : Nat} {sl : Value} {gs : List Int} (h : OwnI w b sl gs) (hB : Below w.heap.size w w') : OwnI w' b sl gs := h.of_blocks (fun g hg => hB.block g (h.lt g hg).2)
theorem one_more (X : List One2) (x : One2) (n : Nat) (h : X.length = n) (f : One2 → Value) : ((X ++ [x]).take n).map f ++ [f x] = ((X ++ [x]).take (n + 1)).map f := by
  subst h
  rw [List.take_of_length_le (i := X.length + 1) (by simp), List.take_left]
  simp
theorem grown_kept {w w' : World} {o : Option Nat} {q c z : Nat} (hp : (o = some q ∧ w.grownBy w' (some q)) ∨ (q = w.heap.size ∧ w.grownBy w' none)) (ho : ∀ g, o = some g → g < z) (hc : z ≤ c) (hl : c < w.heap.size) : w'.heap[c]? = w.heap[c]? := by
  rcases hp with ⟨e, hg⟩ | ⟨_, hg⟩
  · exact hg.block c hl (fun e2 => by cases e2; have := ho _ e; omega)
  · exact hg.block c hl (by simp)
theorem asked_at {w : World} {qa : Nat} {xidA rpcA prgA verA prcA cfA vfA xidB rpcB prgB verB prcB cfB vfB : Int} {crA vbA crB vbB : List UInt8} {arA arB : ByteArray} (h : Bk w qa [.int .i64 xidA, .int .i64 rpcA, .int .i64 prgA, .int .i64 verA, .int .i64 prcA, .int .i64 cfA, .string ⟨crA.toArray⟩, .int .i64 vfA, .string ⟨vbA.toArray⟩, .string arA, .int .i64 xidA, .int .i64 rpcA, .int .i64 prgA, .int .i64 verA, .int .i64 prcA, .int .i64 cfA, .string ⟨crA.toArray⟩, .int .i64 vfA, .string ⟨vbA.toArray⟩, .string arA, .int .i64 xidB, .int .i64 rpcB, .int .i64 prgB, .int .i64 verB, .int .i64 prcB, .int .i64 cfB, .string ⟨crB.toArray⟩, .int .i64 vfB, .string ⟨vbB.toArray⟩, .string arB, .int .i64 xidA, .int .i64 rpcA, .int .i64 prgA, .int .i64 verA, .int .i64 prcA, .int .i64 cfA, .string ⟨crA.toArray⟩, .int .i64 vfA, .string ⟨vbA.toArray⟩, .string arA] 43) (j : Nat) (hj : j < 4) :
    ∃ (xid rpc prg ver prc cf vf : Int) (cr vb : List UInt8) (ar : ByteArray), (cr = crA ∧ vb = vbA ∨ cr = crB ∧ vb = vbB) ∧ w.cell? ⟨qa, j * 10, none⟩ = some (.int .i64 xid) ∧ w.cell? ⟨qa, j * 10 + 1, none⟩ = some (.int .i64 rpc) ∧ w.cell? ⟨qa, j * 10 + 2, none⟩ = some (.int .i64 prg) ∧ w.cell? ⟨qa, j * 10 + 3, none⟩ = some (.int .i64 ver) ∧ w.cell? ⟨qa, j * 10 + 4, none⟩ = some (.int .i64 prc) ∧ w.cell? ⟨qa, j * 10 + 5, none⟩ = some (.int .i64 cf) ∧ w.cell? ⟨qa, j * 10 + 6, none⟩ = some (.string ⟨cr.toArray⟩) ∧ w.cell? ⟨qa, j * 10 + 7, none⟩ = some (.int .i64 vf) ∧ w.cell? ⟨qa, j * 10 + 8, none⟩ = some (.string ⟨vb.toArray⟩) ∧ w.cell? ⟨qa, j * 10 + 9, none⟩ = some (.string ar) := by
  rcases (by omega : j = 0 ∨ j = 1 ∨ j = 2 ∨ j = 3) with rfl | rfl | rfl | rfl
  · exact ⟨xidA, rpcA, prgA, verA, prcA, cfA, vfA, crA, vbA, arA, .inl ⟨rfl, rfl⟩, h.cell 0 rfl, h.cell 1 rfl, h.cell 2 rfl, h.cell 3 rfl, h.cell 4 rfl, h.cell 5 rfl, h.cell 6 rfl, h.cell 7 rfl, h.cell 8 rfl, h.cell 9 rfl⟩
  · exact ⟨xidA, rpcA, prgA, verA, prcA, cfA, vfA, crA, vbA, arA, .inl ⟨rfl, rfl⟩, h.cell 10 rfl, h.cell 11 rfl, h.cell 12 rfl, h.cell 13 rfl, h.cell 14 rfl, h.cell 15 rfl, h.cell 16 rfl, h.cell 17 rfl, h.cell 18 rfl, h.cell 19 rfl⟩
  · exact ⟨xidB, rpcB, prgB, verB, prcB, cfB, vfB, crB, vbB, arB, .inr ⟨rfl, rfl⟩, h.cell 20 rfl, h.cell 21 rfl, h.cell 22 rfl, h.cell 23 rfl, h.cell 24 rfl, h.cell 25 rfl, h.cell 26 rfl, h.cell 27 rfl, h.cell 28 rfl, h.cell 29 rfl⟩
  · exact ⟨xidA, rpcA, prgA, verA, prcA, cfA, vfA, crA, vbA, arA, .inl ⟨rfl, rfl⟩, h.cell 30 rfl, h.cell 31 rfl, h.cell 32 rfl, h.cell 33 rfl, h.cell 34 rfl, h.cell 35 rfl, h.cell 36 rfl, h.cell 37 rfl, h.cell 38 rfl, h.cell 39 rfl⟩
set_option maxRecDepth 8000 in
set_option maxHeartbeats 4000000 in
theorem credJudges_any (xidA rpcA prgA verA prcA cfA vfA : Int) (crA vbA : List UInt8) (arA : ByteArray) (xidB rpcB prgB verB prcB cfB vfB : Int) (crB vbB : List UInt8) (arB : ByteArray) (w : World) (hT : ErrT w) :
    Calls Tryz.prog 4 #[.agg #[.int .i64 xidA, .int .i64 rpcA, .int .i64 prgA, .int .i64 verA, .int .i64 prcA, .int .i64 cfA, .string ⟨crA.toArray⟩, .int .i64 vfA, .string ⟨vbA.toArray⟩, .string arA], .agg #[.int .i64 xidB, .int .i64 rpcB, .int .i64 prgB, .int .i64 verB, .int .i64 prcB, .int .i64 cfB, .string ⟨crB.toArray⟩, .int .i64 vfB, .string ⟨vbB.toArray⟩, .string arB]] w fun e w' => e = .returned (.bool true) ∧ Below w.heap.size w w' := by
  obtain ⟨inf2, hi2⟩ := info_sl
  have HI2 := hid hi2
  clear hi2
  obtain ⟨w2, hw2⟩ : ∃ x, (w.alloc (.cells #[.int .i64 xidA, .int .i64 rpcA, .int .i64 prgA, .int .i64 verA, .int .i64 prcA, .int .i64 cfA, .string ⟨crA.toArray⟩, .int .i64 vfA, .string ⟨vbA.toArray⟩, .string arA] 43)).alloc (.cells #[.int .i64 xidB, .int .i64 rpcB, .int .i64 prgB, .int .i64 verB, .int .i64 prcB, .int .i64 cfB, .string ⟨crB.toArray⟩, .int .i64 vfB, .string ⟨vbB.toArray⟩, .string arB] 43) = x := ⟨_, rfl⟩
  have h2 := two_start [.int .i64 xidA, .int .i64 rpcA, .int .i64 prgA, .int .i64 verA, .int .i64 prcA, .int .i64 cfA, .string ⟨crA.toArray⟩, .int .i64 vfA, .string ⟨vbA.toArray⟩, .string arA] [.int .i64 xidB, .int .i64 rpcB, .int .i64 prgB, .int .i64 verB, .int .i64 prcB, .int .i64 cfB, .string ⟨crB.toArray⟩, .int .i64 vfB, .string ⟨vbB.toArray⟩, .string arB] 43 43 w w2 hw2.symm
  have hka : Bk w2 w.heap.size [.int .i64 xidA, .int .i64 rpcA, .int .i64 prgA, .int .i64 verA, .int .i64 prcA, .int .i64 cfA, .string ⟨crA.toArray⟩, .int .i64 vfA, .string ⟨vbA.toArray⟩, .string arA] 43 := by rw [← hw2]; exact (Bk.new w [.int .i64 xidA, .int .i64 rpcA, .int .i64 prgA, .int .i64 verA, .int .i64 prcA, .int .i64 cfA, .string ⟨crA.toArray⟩, .int .i64 vfA, .string ⟨vbA.toArray⟩, .string arA] 43).below (below_new _ _) (by simp)
  obtain ⟨B, hBB⟩ : ∃ B, w.heap.size = B := ⟨_, rfl⟩
  have HBB := hid hBB
  have HX2 : Hid (Bk w2 B [.int .i64 xidA, .int .i64 rpcA, .int .i64 prgA, .int .i64 verA, .int .i64 prcA, .int .i64 cfA, .string ⟨crA.toArray⟩, .int .i64 vfA, .string ⟨vbA.toArray⟩, .string arA] 43 ∧ Bk w2 (B + 1) [.int .i64 xidB, .int .i64 rpcB, .int .i64 prgB, .int .i64 verB, .int .i64 prcB, .int .i64 cfB, .string ⟨crB.toArray⟩, .int .i64 vfB, .string ⟨vbB.toArray⟩, .string arB] 43 ∧ Below w.heap.size w w2) := by
    show _ ∧ _ ∧ _
    rw [← HBB.out]
    exact ⟨hka, h2.1, h2.2.1⟩
  have BL : Hid (∀ w1 w', (Bk w1 B [.int .i64 xidA, .int .i64 rpcA, .int .i64 prgA, .int .i64 verA, .int .i64 prcA, .int .i64 cfA, .string ⟨crA.toArray⟩, .int .i64 vfA, .string ⟨vbA.toArray⟩, .string arA] 43 ∧ Bk w1 (B + 1) [.int .i64 xidB, .int .i64 rpcB, .int .i64 prgB, .int .i64 verB, .int .i64 prcB, .int .i64 cfB, .string ⟨crB.toArray⟩, .int .i64 vfB, .string ⟨vbB.toArray⟩, .string arB] 43 ∧ Below w.heap.size w w1) → Below w1.heap.size w1 w' → (Bk w' B [.int .i64 xidA, .int .i64 rpcA, .int .i64 prgA, .int .i64 verA, .int .i64 prcA, .int .i64 cfA, .string ⟨crA.toArray⟩, .int .i64 vfA, .string ⟨vbA.toArray⟩, .string arA] 43 ∧ Bk w' (B + 1) [.int .i64 xidB, .int .i64 rpcB, .int .i64 prgB, .int .i64 verB, .int .i64 prcB, .int .i64 cfB, .string ⟨crB.toArray⟩, .int .i64 vfB, .string ⟨vbB.toArray⟩, .string arB] 43 ∧ Below w.heap.size w w')) := fun w1 w' h hB => ⟨h.1.below hB h.1.lt, h.2.1.below hB h.2.1.lt, h.2.2.trans (hB.mono h.2.2.size)⟩
  have K : Hid (∀ w', (Bk w' B [.int .i64 xidA, .int .i64 rpcA, .int .i64 prgA, .int .i64 verA, .int .i64 prcA, .int .i64 cfA, .string ⟨crA.toArray⟩, .int .i64 vfA, .string ⟨vbA.toArray⟩, .string arA] 43 ∧ Bk w' (B + 1) [.int .i64 xidB, .int .i64 rpcB, .int .i64 prgB, .int .i64 verB, .int .i64 prcB, .int .i64 cfB, .string ⟨crB.toArray⟩, .int .i64 vfB, .string ⟨vbB.toArray⟩, .string arB] 43 ∧ Below w.heap.size w w') → w'.cell? ⟨B, 0, none⟩ = some (.int .i64 xidA) ∧ w'.cell? ⟨B, 1, none⟩ = some (.int .i64 rpcA) ∧ w'.cell? ⟨B, 2, none⟩ = some (.int .i64 prgA) ∧ w'.cell? ⟨B, 3, none⟩ = some (.int .i64 verA) ∧ w'.cell? ⟨B, 4, none⟩ = some (.int .i64 prcA) ∧ w'.cell? ⟨B, 5, none⟩ = some (.int .i64 cfA) ∧ w'.cell? ⟨B, 6, none⟩ = some (.string ⟨crA.toArray⟩) ∧ w'.cell? ⟨B, 7, none⟩ = some (.int .i64 vfA) ∧ w'.cell? ⟨B, 8, none⟩ = some (.string ⟨vbA.toArray⟩) ∧ w'.cell? ⟨B, 9, none⟩ = some (.string arA) ∧ w'.cell? ⟨B + 1, 0, none⟩ = some (.int .i64 xidB) ∧ w'.cell? ⟨B + 1, 1, none⟩ = some (.int .i64 rpcB) ∧ w'.cell? ⟨B + 1, 2, none⟩ = some (.int .i64 prgB) ∧ w'.cell? ⟨B + 1, 3, none⟩ = some (.int .i64 verB) ∧ w'.cell? ⟨B + 1, 4, none⟩ = some (.int .i64 prcB) ∧ w'.cell? ⟨B + 1, 5, none⟩ = some (.int .i64 cfB) ∧ w'.cell? ⟨B + 1, 6, none⟩ = some (.string ⟨crB.toArray⟩) ∧ w'.cell? ⟨B + 1, 7, none⟩ = some (.int .i64 vfB) ∧ w'.cell? ⟨B + 1, 8, none⟩ = some (.string ⟨vbB.toArray⟩) ∧ w'.cell? ⟨B + 1, 9, none⟩ = some (.string arB)) := fun w' h => ⟨h.1.cell 0 rfl, h.1.cell 1 rfl, h.1.cell 2 rfl, h.1.cell 3 rfl, h.1.cell 4 rfl, h.1.cell 5 rfl, h.1.cell 6 rfl, h.1.cell 7 rfl, h.1.cell 8 rfl, h.1.cell 9 rfl, h.2.1.cell 0 rfl, h.2.1.cell 1 rfl, h.2.1.cell 2 rfl, h.2.1.cell 3 rfl, h.2.1.cell 4 rfl, h.2.1.cell 5 rfl, h.2.1.cell 6 rfl, h.2.1.cell 7 rfl, h.2.1.cell 8 rfl, h.2.1.cell 9 rfl⟩
  have HC1 := hid (fun w => callWeighs_any xidA rpcA prgA verA prcA cfA vfA ⟨crA.toArray⟩ ⟨vbA.toArray⟩ arA w)
  have HC2 := hid (fun w => callWeighs_any xidB rpcB prgB verB prcB cfB vfB ⟨crB.toArray⟩ ⟨vbB.toArray⟩ arB w)
  obtain ⟨X1, hX1⟩ : ∃ x, addF (addF (⟨crA.toArray⟩ : ByteArray).size (⟨vbA.toArray⟩ : ByteArray).size) arA.size = x := ⟨_, rfl⟩
  obtain ⟨X2, hX2⟩ : ∃ x, addF (addF (⟨crB.toArray⟩ : ByteArray).size (⟨vbB.toArray⟩ : ByteArray).size) arB.size = x := ⟨_, rfl⟩
  rw [hX1] at HC1
  rw [hX2] at HC2
  have p1 : 0 ≤ X1 := hX1 ▸ addF_pos (addF_pos (by omega) (by omega)) (by omega)
  have p2 : 0 ≤ X2 := hX2 ▸ addF_pos (addF_pos (by omega) (by omega)) (by omega)
  have HA := hid (fun w => addsUp_any X1 X2 w p1 p2)
  obtain ⟨X5, hX5⟩ : ∃ x, addF X1 X2 = x := ⟨_, rfl⟩
  rw [hX5] at HA
  have HW : Hid (X5 ≤ 2147483647 → crA.length ≤ 2147483647 ∧ crB.length ≤ 2147483647) := fun h => by
    have e1 := addF_le (a := X1) (b := X2) (by rw [hX5]; exact h)
    have e3 := addF_le (a := addF (⟨crA.toArray⟩ : ByteArray).size (⟨vbA.toArray⟩ : ByteArray).size) (b := arA.size) (by rw [hX1]; omega)
    have e4 := addF_le (a := (⟨crA.toArray⟩ : ByteArray).size) (b := (⟨vbA.toArray⟩ : ByteArray).size) (by omega)
    have e5 := addF_le (a := addF (⟨crB.toArray⟩ : ByteArray).size (⟨vbB.toArray⟩ : ByteArray).size) (b := arB.size) (by rw [hX2]; omega)
    have e6 := addF_le (a := (⟨crB.toArray⟩ : ByteArray).size) (b := (⟨vbB.toArray⟩ : ByteArray).size) (by omega)
    have := ba_size crA
    have := ba_size crB
    omega
  have HT := hid hT
  clear hX1 hX2 hX5 p1 p2 hT h2 hka
  go_enter Tryz.func4, Tryz.ntmps4
  go_upto_region 1 with fail
  have HXd := hid (BL.out w2 w2.drew HX2.out ((Below.refl _ _).drew))
  have s1 := K.out _ HXd.out
  clear hw2
  go_cut [23] from 18 (fun v wx => v = .bool (decide (2147483647 < X5)) ∧ Hid (Bk wx B [.int .i64 xidA, .int .i64 rpcA, .int .i64 prgA, .int .i64 verA, .int .i64 prcA, .int .i64 cfA, .string ⟨crA.toArray⟩, .int .i64 vfA, .string ⟨vbA.toArray⟩, .string arA] 43 ∧ Bk wx (B + 1) [.int .i64 xidB, .int .i64 rpcB, .int .i64 prgB, .int .i64 verB, .int .i64 prcB, .int .i64 cfB, .string ⟨crB.toArray⟩, .int .i64 vfB, .string ⟨vbB.toArray⟩, .string arB] 43 ∧ Below w.heap.size w wx))
  case first =>
    rename_i Q1 K1 A3 K0 A2 J0 K9 A1 A0
    have HJ1 := hid A1
    have HJ0 := hid A0
    clear A3 A2 A1 A0
    go_region_held3 (fun w' => w'.cell? ⟨B, 0, none⟩ = some (.int .i64 xidA) ∧ w'.cell? ⟨B, 1, none⟩ = some (.int .i64 rpcA) ∧ w'.cell? ⟨B, 2, none⟩ = some (.int .i64 prgA) ∧ w'.cell? ⟨B, 3, none⟩ = some (.int .i64 verA) ∧ w'.cell? ⟨B, 4, none⟩ = some (.int .i64 prcA) ∧ w'.cell? ⟨B, 5, none⟩ = some (.int .i64 cfA) ∧ w'.cell? ⟨B, 6, none⟩ = some (.string ⟨crA.toArray⟩) ∧ w'.cell? ⟨B, 7, none⟩ = some (.int .i64 vfA) ∧ w'.cell? ⟨B, 8, none⟩ = some (.string ⟨vbA.toArray⟩) ∧ w'.cell? ⟨B, 9, none⟩ = some (.string arA) ∧ w'.cell? ⟨B + 1, 0, none⟩ = some (.int .i64 xidB) ∧ w'.cell? ⟨B + 1, 1, none⟩ = some (.int .i64 rpcB) ∧ w'.cell? ⟨B + 1, 2, none⟩ = some (.int .i64 prgB) ∧ w'.cell? ⟨B + 1, 3, none⟩ = some (.int .i64 verB) ∧ w'.cell? ⟨B + 1, 4, none⟩ = some (.int .i64 prcB) ∧ w'.cell? ⟨B + 1, 5, none⟩ = some (.int .i64 cfB) ∧ w'.cell? ⟨B + 1, 6, none⟩ = some (.string ⟨crB.toArray⟩) ∧ w'.cell? ⟨B + 1, 7, none⟩ = some (.int .i64 vfB) ∧ w'.cell? ⟨B + 1, 8, none⟩ = some (.string ⟨vbB.toArray⟩) ∧ w'.cell? ⟨B + 1, 9, none⟩ = some (.string arB)) (first | with_reducible exact s1 | with_reducible exact s5 | with_reducible exact s6) (first
      | (go_at_call 14
         with_reducible refine (HC1.out _).mono ?_
         rintro e w5 ⟨rfl, hB5⟩
         have HX5 := hid (BL.out _ _ HXd.out hB5)
         have s5 := K.out _ HX5.out
         clear hB5)
      | (go_at_call 14
         with_reducible refine (HC2.out _).mono ?_
         rintro e w6 ⟨rfl, hB6⟩
         have HX6 := hid (BL.out _ _ HX5.out hB6)
         have s6 := K.out _ HX6.out
         clear hB6)
      | (go_at_call 5
         with_reducible refine (HA.out _).mono ?_
         rintro e w9 ⟨rfl, hw⟩
         rw [hw]
         clear hw))
    have A1 := HJ1.out
    have A0 := HJ0.out
    go_wp2_with fail
    go_meet
    exact ⟨rfl, HX6⟩
  case rest =>
    obtain ⟨hv, HX⟩ := hcut
    subst hv
    clear HX2 HXd s1 HC1 HC2 HA
    by_cases hb : 2147483647 < X5
    · have hb2 : decide (2147483647 < X5) = true := decide_eq_true hb
      rw [hb2]
      go_wp2
      go_ret
      exact ⟨rfl, HX.out.2.2⟩
    · have hb2 : decide (2147483647 < X5) = false := decide_eq_false hb
      rw [hb2]
      have HLE := hid (HW.out (by omega))
      have HAW := hid (awake_any wc (HT.out.below HX.out.2.2))
      clear HW hb hb2
      go_wp2_with fail
      refine HAW.out.mono ?_
      rintro e w4 ⟨rfl, hB4⟩
      have HX4 := hid (BL.out _ _ HX.out hB4)
      obtain ⟨m0, m1, m2, m3, m4, m5, m6, m7, m8, m9, n0, n1, n2, n3, n4, n5, n6, n7, n8, n9⟩ := K.out _ HX4.out
      obtain ⟨qa, hqa⟩ : ∃ g, w4.heap.size = g := ⟨_, rfl⟩
      obtain ⟨w5, hw5⟩ : ∃ x, w4.alloc (.cells #[.int .i64 xidA, .int .i64 rpcA, .int .i64 prgA, .int .i64 verA, .int .i64 prcA, .int .i64 cfA, .string ⟨crA.toArray⟩, .int .i64 vfA, .string ⟨vbA.toArray⟩, .string arA, .int .i64 xidA, .int .i64 rpcA, .int .i64 prgA, .int .i64 verA, .int .i64 prcA, .int .i64 cfA, .string ⟨crA.toArray⟩, .int .i64 vfA, .string ⟨vbA.toArray⟩, .string arA, .int .i64 xidB, .int .i64 rpcB, .int .i64 prgB, .int .i64 verB, .int .i64 prcB, .int .i64 cfB, .string ⟨crB.toArray⟩, .int .i64 vfB, .string ⟨vbB.toArray⟩, .string arB, .int .i64 xidA, .int .i64 rpcA, .int .i64 prgA, .int .i64 verA, .int .i64 prcA, .int .i64 cfA, .string ⟨crA.toArray⟩, .int .i64 vfA, .string ⟨vbA.toArray⟩, .string arA] 43) = x := ⟨_, rfl⟩
      have HQ5 : Hid (Bk w5 qa [.int .i64 xidA, .int .i64 rpcA, .int .i64 prgA, .int .i64 verA, .int .i64 prcA, .int .i64 cfA, .string ⟨crA.toArray⟩, .int .i64 vfA, .string ⟨vbA.toArray⟩, .string arA, .int .i64 xidA, .int .i64 rpcA, .int .i64 prgA, .int .i64 verA, .int .i64 prcA, .int .i64 cfA, .string ⟨crA.toArray⟩, .int .i64 vfA, .string ⟨vbA.toArray⟩, .string arA, .int .i64 xidB, .int .i64 rpcB, .int .i64 prgB, .int .i64 verB, .int .i64 prcB, .int .i64 cfB, .string ⟨crB.toArray⟩, .int .i64 vfB, .string ⟨vbB.toArray⟩, .string arB, .int .i64 xidA, .int .i64 rpcA, .int .i64 prgA, .int .i64 verA, .int .i64 prcA, .int .i64 cfA, .string ⟨crA.toArray⟩, .int .i64 vfA, .string ⟨vbA.toArray⟩, .string arA] 43) := bk_here hw5 hqa
      have HB5 : Hid (Below w.heap.size w w5) := HX4.out.2.2.trans ((low_here hw5).mono HX4.out.2.2.size)
      obtain ⟨D, hD⟩ : ∃ D, w5.heap.size = D := ⟨_, rfl⟩
      have HD := hid hD
      clear hB4 HX HX4 HAW hD BL K
      go_wp2_with fail
      go_loopw [7, 8, 9] (fun l v n wr => ∃ (j cl cw : Nat) (ol ow : Option Addr) (X : List One2), n = .int .i64 (j : Int) ∧ l = .slice ol j cl ∧ v = .slice ow j cw ∧ j ≤ 4 ∧ Hid (X.length = j) ∧ Hid (∃ K, Ga wr D X j j (.slice ol j cl) (.slice ow j cw) K) ∧ Hid (Below D w5 wr)) (fun _ _ n _ => 4 - (intOf n).toNat)
      case atStart => exact ⟨0, 0, 0, none, none, [], rfl, rfl, rfl, by omega, rfl, ⟨_, Ga.start _ D (by rw [← HD.out]; exact Nat.le_refl _)⟩, Below.refl _ _⟩
      case round =>
        obtain ⟨j, cl, cw, ol, ow, X, rfl, rfl, rfl, hj, HXL, HGA, HBR⟩ := hrel
        clear hw5 hqa m0 m1 m2 m3 m4 m5 m6 m7 m8 m9 n0 n1 n2 n3 n4 n5 n6 n7 n8 n9
        by_cases hlt : j < 4
        · have HJ := hid hlt
          have j0 : (0 : Int) ≤ (j : Int) := by omega
          have j1 : (j : Int) < 4 := by omega
          have hqD : qa < D := by rw [← HD.out]; exact HQ5.out.lt
          have hq2 : qa < wr.heap.size := (HQ5.out.below HBR.out hqD).lt
          obtain ⟨xid, rpc, prg, ver, prc, cf, vf, cr, vb, ar, hfl, x0, x1, x2, x3, x4, x5, x6, x7, x8, x9⟩ := asked_at (HQ5.out.below HBR.out hqD) j hlt
          have HFL : Hid (∀ w', Below wr.heap.size wr w' → w'.cell? ⟨qa, j * 10, none⟩ = some (.int .i64 xid) ∧ w'.cell? ⟨qa, j * 10 + 1, none⟩ = some (.int .i64 rpc) ∧ w'.cell? ⟨qa, j * 10 + 2, none⟩ = some (.int .i64 prg) ∧ w'.cell? ⟨qa, j * 10 + 3, none⟩ = some (.int .i64 ver) ∧ w'.cell? ⟨qa, j * 10 + 4, none⟩ = some (.int .i64 prc) ∧ w'.cell? ⟨qa, j * 10 + 5, none⟩ = some (.int .i64 cf) ∧ w'.cell? ⟨qa, j * 10 + 6, none⟩ = some (.string ⟨cr.toArray⟩) ∧ w'.cell? ⟨qa, j * 10 + 7, none⟩ = some (.int .i64 vf) ∧ w'.cell? ⟨qa, j * 10 + 8, none⟩ = some (.string ⟨vb.toArray⟩) ∧ w'.cell? ⟨qa, j * 10 + 9, none⟩ = some (.string ar)) := fun w' hB => ⟨(cellB (hB.block qa hq2) _).trans x0, (cellB (hB.block qa hq2) _).trans x1, (cellB (hB.block qa hq2) _).trans x2, (cellB (hB.block qa hq2) _).trans x3, (cellB (hB.block qa hq2) _).trans x4, (cellB (hB.block qa hq2) _).trans x5, (cellB (hB.block qa hq2) _).trans x6, (cellB (hB.block qa hq2) _).trans x7, (cellB (hB.block qa hq2) _).trans x8, (cellB (hB.block qa hq2) _).trans x9⟩
          have HLn : Hid (cr.length ≤ 281474976710656) := by
            have := HLE.out
            rcases hfl with ⟨rfl, _⟩ | ⟨rfl, _⟩ <;> show _ ≤ _ <;> omega
          have HTR : Hid (ErrT wr) := HT.out.below (HB5.out.trans (HBR.out.mono (by rw [← HD.out]; exact HB5.out.size)))
          have hs2 := jP_small xid cf cr vf vb
          have HP1 : Hid (∀ w, ErrT w → Calls Tryz.prog 15 #[.agg #[.int .i64 xid, .int .i64 rpc, .int .i64 prg, .int .i64 ver, .int .i64 prc, .int .i64 cf, .string ⟨cr.toArray⟩, .int .i64 vf, .string ⟨vb.toArray⟩, .string ar]] w (J3Post (jP xid cf cr vf vb) w)) := fun w h => judge_any xid rpc prg ver prc cf vf cr vb ar w h HLn.out
          have HP2 : Hid (∀ w, Calls Tryz.prog 16 #[.agg #[.int .i64 xid, .int .i64 rpc, .int .i64 prg, .int .i64 ver, .int .i64 prc, .int .i64 cf, .string ⟨cr.toArray⟩, .int .i64 vf, .string ⟨vb.toArray⟩, .string ar]] w (J3Post (jP xid cf cr vf vb) w)) := fun w => djudge_any xid rpc prg ver prc cf vf cr vb ar w
          generalize jP xid cf cr vf vb = rm at hs2 HP1 HP2
          obtain ⟨⟨i, q, u, ⟨st2, mc2, us2, gr2, gs2⟩⟩, bb, ev⟩ := rm
          have HSM : Hid (gs2.length ≤ 1000) := hs2
          clear hs2 hfl hqD hq2 HLn
          go_wp2_with fail
          refine (HP1.out _ HTR.out).mono ?_
          rintro e w6 ⟨oc, cc, rfl, o6, hB6⟩
          have HO6 := hid o6
          obtain ⟨c1, hc1⟩ : ∃ g, w6.heap.size = g := ⟨_, rfl⟩
          obtain ⟨w7, hw7⟩ : ∃ x, w6.alloc (.cells #[.int .i64 i, .int .i64 q, .int .i64 u, .int .i64 st2, .string ⟨mc2.toArray⟩, .int .i64 us2, .int .i64 gr2, .slice oc gs2.length cc] 35) = x := ⟨_, rfl⟩
          have HC17 : Hid (Bk w7 c1 [.int .i64 i, .int .i64 q, .int .i64 u, .int .i64 st2, .string ⟨mc2.toArray⟩, .int .i64 us2, .int .i64 gr2, .slice oc gs2.length cc] 35) := bk_here hw7 hc1
          have HB7 : Hid (Below wr.heap.size wr w7) := hB6.trans ((low_here hw7).mono hB6.size)
          have HO7 := hid (HO6.out.idle (low_here hw7))
          clear o6 hB6 x0 x1 x2 x3 x4 x5 x6 x7 x8 x9 HO6 HP1
          obtain ⟨x0, x1, x2, x3, x4, x5, x6, x7, x8, x9⟩ := HFL.out _ HB7.out
          go_wp2_with fail
          refine (HP2.out _).mono ?_
          rintro e w8 ⟨od, cd, rfl, o8, hB8⟩
          have HO8 := hid o8
          clear hw7 hc1 x0 x1 x2 x3 x4 x5 x6 x7 x8 x9 HP2 o8
          obtain ⟨c2, hc2⟩ : ∃ g, w8.heap.size = g := ⟨_, rfl⟩
          obtain ⟨w9, hw9⟩ : ∃ x, w8.alloc (.cells #[.int .i64 i, .int .i64 q, .int .i64 u, .int .i64 st2, .string ⟨mc2.toArray⟩, .int .i64 us2, .int .i64 gr2, .slice od gs2.length cd] 35) = x := ⟨_, rfl⟩
          have hB79 : Below w7.heap.size w7 w9 := hB8.trans ((low_here hw9).mono hB8.size)
          have HC29 : Hid (Bk w9 c2 [.int .i64 i, .int .i64 q, .int .i64 u, .int .i64 st2, .string ⟨mc2.toArray⟩, .int .i64 us2, .int .i64 gr2, .slice od gs2.length cd] 35) := bk_here hw9 hc2
          have HC19 := hid (HC17.out.below hB79 HC17.out.lt)
          have HB9 : Hid (Below wr.heap.size wr w9) := HB7.out.trans (hB79.mono HB7.out.size)
          have HOA := hid (HO7.out.idle hB79)
          have HOB := hid (HO8.out.idle (low_here hw9))
          have HZ2 : Hid (wr.heap.size ≤ c2) := by rw [← hc2]; exact Nat.le_trans HB7.out.size hB8.size
          have HM1 : Hid (∃ x, One2.l x = .slice oc gs2.length cc ∧ One2.w x = .slice od gs2.length cd ∧ ∃ K, Ga w9 D (X ++ [x]) j j (.slice ol j cl) (.slice ow j cw) K) := by
            obtain ⟨K, hG⟩ := HGA.out
            have o2 : OwnI w9 w7.heap.size (.slice od gs2.length cd) gs2 := HOB.out
            obtain ⟨x, K', e1, e2, h3⟩ := hG.more HB9.out HOA.out o2 (Nat.le_refl _) HB7.out.size (fun g g2 h1 h2 => by have q1 := (HO7.out.lt g h1).2; have q2 := (o2.lt g2 h2).1; omega) HSM.out (by rw [HXL.out]; exact Nat.le_refl _) (by rw [HXL.out]; exact Nat.le_refl _)
            exact ⟨x, e1, e2, K', h3⟩
          obtain ⟨x, e1, e2, HG9⟩ := HM1.out
          have HE1 := hid (And.intro e1 e2)
          have HY := hid HG9
          have HMA := hid (marks_core i q u st2 us2 gr2 mc2 gs2 oc od cc cd w9 HOA.out.gsAt HOB.out.gsAt (by have := HSM.out; omega))
          have r0 := HC19.out.cell 0 rfl
          have r1 := HC19.out.cell 1 rfl
          have r2 := HC19.out.cell 2 rfl
          have r3 := HC19.out.cell 3 rfl
          have r4 := HC19.out.cell 4 rfl
          have r5 := HC19.out.cell 5 rfl
          have r6 := HC19.out.cell 6 rfl
          have r7 := HC19.out.cell 7 rfl
          have s0 := HC29.out.cell 0 rfl
          have s1 := HC29.out.cell 1 rfl
          have s2 := HC29.out.cell 2 rfl
          have s3 := HC29.out.cell 3 rfl
          have s4 := HC29.out.cell 4 rfl
          have s5 := HC29.out.cell 5 rfl
          have s6 := HC29.out.cell 6 rfl
          have s7 := HC29.out.cell 7 rfl
          clear hB8 hB79 HM1 e1 e2 HC17 HO7 HO8 HB7 HOA HOB HG9
          go_wp2_with fail
          refine HMA.out.mono ?_
          rintro e w15 ⟨rfl, hB15⟩
          have HB15 : Hid (Below wr.heap.size wr w15) := HB9.out.trans (hB15.mono HB9.out.size)
          have HC115 := hid (HC19.out.below hB15 HC19.out.lt)
          have HC215 := hid (HC29.out.below hB15 HC29.out.lt)
          have HG15 : Hid (∃ K, Ga w15 D (X ++ [x]) j j (.slice ol j cl) (.slice ow j cw) K) := by
            obtain ⟨K, hG⟩ := HY.out
            exact ⟨K, hG.idle hB15⟩
          clear hB15 r0 r1 r2 r3 r4 r5 r6 r7 s0 s1 s2 s3 s4 s5 s6 s7 HMA HC19 HC29 HY hw9 hc2
          have p1 := HC115.out.cell 7 rfl
          have ez1 : (bb != bb) = false := by cases bb <;> rfl
          have ez2 : (ev != ev) = false := by simp
          have HDR : Hid (D ≤ wr.heap.size) := by obtain ⟨K, hG⟩ := HGA.out; exact hG.hB
          have HOL : Hid (∀ g, (Value.slice ol j cl).ownBlock = some g → g < wr.heap.size) := by
            obtain ⟨K, hG⟩ := HGA.out
            exact fun g e => (hG.lown.lt g e).2
          go_wp2_with (at_builtin; refine Hid.out ?_)
          refine (show Hid _ from ?_)
          obtain ⟨K1, hG1⟩ := HG15.out
          have HU := hid (hG1.idle (below_alloc w15 (.cells #[.slice oc gs2.length cc] 28)))
          refine wpList_append_some rfl _ _ 27 rfl 1 D 28 inf2 (.slice none 0 0) 1 24 und_ll HI2.out rfl (by decide) (.slice ol j cl) j _ rfl HU.out.lown ⟨w15.heap.size, 0, none⟩ 1 [.slice oc gs2.length cc] (by omega) rfl rfl (World.news_of_block (cs := #[.slice oc gs2.length cc]) (t := 28) (fr := (0, 0)) (heap_alloc_new _ _)) (by simp [Value.oneCell']) (by unfold maxLen; omega) (by omega) HU.out.hB ?_
          intro g3 cap3 w16 hown hpart
          have hBa : Below D w5 (w15.alloc (.cells #[.slice oc gs2.length cc] 28)) := HBR.out.trans ((HB15.out.trans ((below_alloc w15 _).mono HB15.out.size)).mono HDR.out)
          have HP16 := hid (HU.out.putL (a' := j + 1) hBa (by rw [← one_more X x _ HXL.out One2.l, HE1.out.1]; exact hown) hpart)
          have HC216 : Hid (Bk w16 c2 [.int .i64 i, .int .i64 q, .int .i64 u, .int .i64 st2, .string ⟨mc2.toArray⟩, .int .i64 us2, .int .i64 gr2, .slice od gs2.length cd] 35) := (grown_kept hpart HOL.out HZ2.out (Nat.lt_of_lt_of_le HC215.out.lt (below_alloc w15 _).size)).trans (HC215.out.below (below_alloc w15 _) HC215.out.lt)
          clear hown hpart hBa HU hG1 p1 HC115 HC215
          have p2 := HC216.out.cell 7 rfl
          go_wp2_with (at_builtin; refine Hid.out ?_)
          refine (show Hid _ from ?_)
          obtain ⟨⟨K2, hG2⟩, hB16⟩ := HP16.out
          have HU := hid (hG2.idle (below_alloc w16 (.cells #[.slice od gs2.length cd] 28)))
          refine wpList_append_some rfl _ _ 27 rfl 1 D 28 inf2 (.slice none 0 0) 1 24 und_ll HI2.out rfl (by decide) (.slice ow j cw) j _ rfl HU.out.wown ⟨w16.heap.size, 0, none⟩ 1 [.slice od gs2.length cd] (by omega) rfl rfl (World.news_of_block (cs := #[.slice od gs2.length cd]) (t := 28) (fr := (0, 0)) (heap_alloc_new _ _)) (by simp [Value.oneCell']) (by unfold maxLen; omega) (by omega) HU.out.hB ?_
          intro g4 cap4 w17 hown hpart
          have hBa : Below D w5 (w16.alloc (.cells #[.slice od gs2.length cd] 28)) := hB16.trans ((below_alloc w16 _).mono hG2.hB)
          have HP17 := hid (HU.out.putW (b' := j + 1) hBa (by rw [← one_more X x _ HXL.out One2.w, HE1.out.2]; exact hown) hpart)
          have HX17 : Hid ((X ++ [x]).length = j + 1) := by
            show _ = _
            rw [List.length_append, HXL.out]
            rfl
          clear hown hpart hBa HU hG2 hB16 p2 HP16 HC216
          go_wp2
          go_roundw
          case rel => exact ⟨j + 1, cap3, cap4, some ⟨g3, 0, none⟩, some ⟨g4, 0, none⟩, X ++ [x], by go_num, rfl, rfl, HJ.out, HX17, HP17.out.1, HP17.out.2⟩
          case measure => have := HJ.out; simp [intOf]; omega
        · obtain rfl : j = 4 := by omega
          obtain ⟨K, hG⟩ := HGA.out
          obtain ⟨ql, c1, e1, _, _⟩ := hG.lown.form (by omega)
          obtain ⟨qw, c2, e2, _, _⟩ := hG.wown.form (by omega)
          cases e1
          cases e2
          have hx := HXL.out
          have HAP : Hid (Calls Tryz.prog 13 #[.slice (some ⟨ql, 0, none⟩) 4 cl, .slice (some ⟨qw, 0, none⟩) 4 cw] wr fun e w' => e = .returned (.bool true) ∧ Below D wr w') := by
            have h := Ga.out (w := wr) (B := D) (q := ql) (cl := cl) (qw := qw) (cw := cw) (X := X) (K := K) (by rw [hx]; exact hG) (by omega)
            rw [hx] at h
            exact h
          clear hG hx
          go_wp2_with fail
          refine HAP.out.mono ?_
          rintro e w' ⟨rfl, hB'⟩
          go_wp2
          go_ret
          exact ⟨rfl, HB5.out.trans ((HBR.out.trans hB').mono (by rw [← HD.out]; exact HB5.out.size))⟩
end Go.Proofs.YtihcdahmfdijoaaGreatDoor
