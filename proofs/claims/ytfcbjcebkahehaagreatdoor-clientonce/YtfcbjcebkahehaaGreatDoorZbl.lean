/- A mark judged. Judge. -/
import Derived.Test.YtfcbjcebkahehaaGreatDoorZbk
import Derived.StillTailTactics
namespace Go.Proofs.YtfcbjcebkahehaaGreatDoor
open Go.RowKit
set_option maxRecDepth 4000 in
set_option maxHeartbeats 8000000 in
theorem judge_mark_c (b : List UInt8) (xid : Int) (w : World) (hT : ErrT w) (hl : b.length ≤ 281474976710656) (e1 : ((pmP 1296126539 b).2 == 0) = true) (e2 : ((pmP 1296126539 b).1.seq == xid) = true) :
    Calls Tryz.prog 130 #[.agg #[.int .i64 1296126539, .string ⟨b.toArray⟩], .int .i64 xid] w (J3Post ((pmP 1296126539 b).1, true, bad (markOk (pmP 1296126539 b) xid)) w) := by
  obtain ⟨w2, hw2⟩ : ∃ x, x = (w.alloc (.cells #[.int .i64 1296126539, .string ⟨b.toArray⟩] 44)).alloc (.cells #[.int .i64 0, .int .i64 0, .int .i64 0, .int .i64 0, .string ⟨#[]⟩, .int .i64 0, .int .i64 0, .slice none 0 0] 131) := ⟨_, rfl⟩
  have HW2 : Hid ((w.alloc (.cells #[.int .i64 1296126539, .string ⟨b.toArray⟩] 44)).alloc (.cells #[.int .i64 0, .int .i64 0, .int .i64 0, .int .i64 0, .string ⟨#[]⟩, .int .i64 0, .int .i64 0, .slice none 0 0] 131) = w2) := hw2.symm
  have H2 := hid (two_start [.int .i64 1296126539, .string ⟨b.toArray⟩] [.int .i64 0, .int .i64 0, .int .i64 0, .int .i64 0, .string ⟨#[]⟩, .int .i64 0, .int .i64 0, .slice none 0 0] _ _ w w2 hw2)
  have HS := hid (parseMark_any 1296126539 b w2 (hT.below H2.out.2.1) hl)
  generalize pmP 1296126539 b = R at HS e1 e2 ⊢
  obtain ⟨⟨i, q, u, st, mc, us, gr, gs⟩, er⟩ := R
  obtain ⟨g, hg⟩ : ∃ g, markOk (⟨i, q, u, st, mc, us, gr, gs⟩, er) xid = g := ⟨_, rfl⟩
  rw [hg]
  have HBU := hid (fun w => badUnless_any g w)
  have HG : Hid (((er == 0) && ((q == xid) && decide (u ≤ q))) = g) := hg
  simp only
  generalize bad g = V at HBU ⊢
  clear hw2 hT hl hg
  go_enter Tryz.func130, Tryz.ntmps130
  go_wp2_with fail
  rw [HW2.out]
  refine HS.out.mono ?_
  rintro e w3 ⟨oa, cap, rfl, ho3, hB3⟩
  have HB3 := hid hB3
  have HO3 := hid ho3
  clear hB3 ho3
  simp only
  go_wp2_with fail
  obtain ⟨w4, hw4⟩ : ∃ x, x = w3.alloc (.cells #[.int .i64 i, .int .i64 q, .int .i64 u, .int .i64 st, .string ⟨mc.toArray⟩, .int .i64 us, .int .i64 gr, .slice oa gs.length cap] 131) := ⟨_, rfl⟩
  rw [← hw4]
  have hB4 : Below w3.heap.size w3 w4 := by rw [hw4]; exact below_new _ _
  have hL : Bk w4 w3.heap.size [.int .i64 i, .int .i64 q, .int .i64 u, .int .i64 st, .string ⟨mc.toArray⟩, .int .i64 us, .int .i64 gr, .slice oa gs.length cap] 131 := by rw [hw4]; exact Bk.new _ _ _
  have hz := H2.out.2.2
  have hz3 := HB3.out.size
  have hK : Bk w4 (w.heap.size + 1) [.int .i64 0, .int .i64 0, .int .i64 0, .int .i64 0, .string ⟨#[]⟩, .int .i64 0, .int .i64 0, .slice none 0 0] 131 := (H2.out.1.below HB3.out (by omega)).below hB4 (by omega)
  have HB : Hid (Below w.heap.size w w4) := (H2.out.2.1.trans (HB3.out.mono (by omega))).trans (hB4.mono (by omega))
  have HO : Hid (OwnI w4 (w.heap.size + 1 + 1) (.slice oa gs.length cap) gs) := (HO3.out.of_blocks (fun g hg => hB4.block g (HO3.out.lt g hg).2)).mono (by omega)
  have HNE : Hid (w3.heap.size ≠ w.heap.size + 1) := by show _ ≠ _; omega
  have HK := hid hK
  have HL := hid hL
  have c0 := hL.cell 0 rfl
  have c1 := hL.cell 1 rfl
  have c2 := hL.cell 2 rfl
  have c3 := hL.cell 3 rfl
  have c4 := hL.cell 4 rfl
  have c5 := hL.cell 5 rfl
  have c6 := hL.cell 6 rfl
  have c7 := hL.cell 7 rfl
  have k0 := hK.cell 0 rfl
  have f0 := hK.frozen 0
  have k1 := hK.cell 1 rfl
  have f1 := hK.frozen 1
  have k2 := hK.cell 2 rfl
  have f2 := hK.frozen 2
  have k3 := hK.cell 3 rfl
  have f3 := hK.frozen 3
  have k4 := hK.cell 4 rfl
  have f4 := hK.frozen 4
  have k5 := hK.cell 5 rfl
  have f5 := hK.frozen 5
  have k6 := hK.cell 6 rfl
  have f6 := hK.frozen 6
  have k7 := hK.cell 7 rfl
  have f7 := hK.frozen 7
  clear hw4 hB4 hL hK hz hz3
  rename_i K1 A1 K0 A0
  have HA1 := hid A1
  have HA0 := hid A0
  clear A1 A0 HS HW2 H2 HB3 HO3
  generalize hQ : Exit.then K0 _ = Q0
  have HQ := hid hQ
  clear hQ
  have e1 : (er == 0) = true := e1
  have e2 : (q == xid) = true := e2
  have HG2 : Hid (g = decide (u ≤ q)) := by have := HG.out; rw [e1, e2] at this; exact this.symm
  rw [HG2.out] at HBU
  obtain rfl : er = 0 := by simpa using e1
  obtain rfl : q = xid := by simpa using e2
  clear HG e1 e2
  go_still_tail 17, (by kernel_rfl)
  still_call (HBU.out _)
  refine wpStill_nil ?_
  obtain ⟨w5, hw5⟩ : ∃ x, x = w4.drew := ⟨_, rfl⟩
  have HK5 : Hid (Bk w5 (w.heap.size + 1) [.int .i64 0, .int .i64 0, .int .i64 0, .int .i64 0, .string ⟨#[]⟩, .int .i64 0, .int .i64 0, .slice none 0 0] 131) := by rw [hw5]; exact HK.out.drew
  have HB5 : Hid (Below w.heap.size w w5) := by rw [hw5]; exact HB.out.drew
  have HO5 : Hid (OwnI w5 (w.heap.size + 1 + 1) (.slice oa gs.length cap) gs) := by rw [hw5]; exact HO.out
  change wpList _ _ _ _ _ w4.drew
  rw [← hw5]
  clear hw5 k0 k1 k2 k3 k4 k5 k6 k7 f0 f1 f2 f3 f4 f5 f6 f7 c0 c1 c2 c3 c4 c5 c6 c7
  have k0 := HK5.out.cell 0 rfl
  have f0 := HK5.out.frozen 0
  have k1 := HK5.out.cell 1 rfl
  have f1 := HK5.out.frozen 1
  have k2 := HK5.out.cell 2 rfl
  have f2 := HK5.out.frozen 2
  have k3 := HK5.out.cell 3 rfl
  have f3 := HK5.out.frozen 3
  have k4 := HK5.out.cell 4 rfl
  have f4 := HK5.out.frozen 4
  have k5 := HK5.out.cell 5 rfl
  have f5 := HK5.out.frozen 5
  have k6 := HK5.out.cell 6 rfl
  have f6 := HK5.out.frozen 6
  have k7 := HK5.out.cell 7 rfl
  have f7 := HK5.out.frozen 7
  have HE := hid ((HO5.out.of_blocks (fun g hg => set8_ne w5 (w.heap.size + 1) g (.int .i64 i) (.int .i64 q) (.int .i64 u) (.int .i64 st) (.string ⟨mc.toArray⟩) (.int .i64 us) (.int .i64 gr) (.slice oa gs.length cap) (by have := (HO5.out.lt g hg).1; omega))).mono (show w.heap.size ≤ w.heap.size + 1 + 1 by omega))
  have HB8 := hid (below_set8 (b := w.heap.size + 1) HB5.out (by omega) (.int .i64 i) (.int .i64 q) (.int .i64 u) (.int .i64 st) (.string ⟨mc.toArray⟩) (.int .i64 us) (.int .i64 gr) (.slice oa gs.length cap))
  have HZ0 := hid (HK5.out.set8 (.int .i64 i) (.int .i64 q) (.int .i64 u) (.int .i64 st) (.string ⟨mc.toArray⟩) (.int .i64 us) (.int .i64 gr) (.slice oa gs.length cap))
  go_wp2_with fail
  rw [← HQ.out]
  have A0 := HA0.out
  have A1 := HA1.out
  go_wp2
  have HZ := HZ0.out
  have q0 := HZ.cell 0 rfl
  have q1 := HZ.cell 1 rfl
  have q2 := HZ.cell 2 rfl
  have q3 := HZ.cell 3 rfl
  have q4 := HZ.cell 4 rfl
  have q5 := HZ.cell 5 rfl
  have q6 := HZ.cell 6 rfl
  have q7 := HZ.cell 7 rfl
  exact bodyPost_ret (v := .tuple #[.agg #[.int .i64 i, .int .i64 q, .int .i64 u, .int .i64 st, .string ⟨mc.toArray⟩, .int .i64 us, .int .i64 gr, .slice oa gs.length cap], .bool true, .int .i64 V]) (by simp [results, Tryz.results130, go_sem, q0, q1, q2, q3, q4, q5, q6, q7]) rfl ⟨_, _, rfl, HE.out, HB8.out⟩
end Go.Proofs.YtfcbjcebkahehaaGreatDoor
namespace Go.Proofs.YtfcbjcebkahehaaGreatDoor
open Go.RowKit
theorem judgeCred_any (f : Int) (b : List UInt8) (xid : Int) (w : World) (hT : ErrT w) (hl : b.length ≤ 281474976710656) :
    Calls Tryz.prog 130 #[.agg #[.int .i64 f, .string ⟨b.toArray⟩], .int .i64 xid] w (J3Post (jcP f b xid) w) := by
  unfold jcP
  by_cases h0 : f = 0
  · subst h0; rw [if_pos rfl]; exact judge_none b xid w
  · rw [if_neg h0]
    by_cases h1 : f = 1
    · subst h1; rw [if_pos rfl]; exact judge_sys b xid w hT hl
    · rw [if_neg h1]
      by_cases h2 : f = 1296126539
      · subst h2
        rw [if_pos rfl]
        cases e1 : ((pmP 1296126539 b).2 == 0)
        · exact judge_mark_a b xid w hT hl e1
        · cases e2 : ((pmP 1296126539 b).1.seq == xid)
          · exact judge_mark_b b xid w hT hl e1 e2
          · exact judge_mark_c b xid w hT hl e1 e2
      · rw [if_neg h2]; exact judge_other f b xid w h0 h1 h2
/-- what Judge tells -/
def jP (xid cf : Int) (cb : List UInt8) (vf : Int) (vb : List UInt8) : MarkP × Bool × Int :=
  if (jcP cf cb xid).2.2 = 0 then (if nob vf ⟨vb.toArray⟩ = true then ((jcP cf cb xid).1, (jcP cf cb xid).2.1, 0) else (nulM, false, 3)) else (nulM, false, (jcP cf cb xid).2.2)
set_option maxRecDepth 4000 in
set_option maxHeartbeats 2000000 in
theorem judge_any (xid rpc prog vers proc cf vf : Int) (cb vb : List UInt8) (args : ByteArray) (w : World) (hT : ErrT w) (hl : cb.length ≤ 281474976710656) :
    Calls Tryz.prog 83 #[.agg #[.int .i64 xid, .int .i64 rpc, .int .i64 prog, .int .i64 vers, .int .i64 proc, .int .i64 cf, .string ⟨cb.toArray⟩, .int .i64 vf, .string ⟨vb.toArray⟩, .string args]] w (J3Post (jP xid cf cb vf vb) w) := by
  obtain ⟨w2, hw2⟩ : ∃ x, x = (w.alloc (.cells #[.int .i64 xid, .int .i64 rpc, .int .i64 prog, .int .i64 vers, .int .i64 proc, .int .i64 cf, .string ⟨cb.toArray⟩, .int .i64 vf, .string ⟨vb.toArray⟩, .string args] 108)).alloc (.cells #[.int .i64 0, .int .i64 0, .int .i64 0, .int .i64 0, .string ⟨#[]⟩, .int .i64 0, .int .i64 0, .slice none 0 0] 131) := ⟨_, rfl⟩
  have HW2 : Hid ((w.alloc (.cells #[.int .i64 xid, .int .i64 rpc, .int .i64 prog, .int .i64 vers, .int .i64 proc, .int .i64 cf, .string ⟨cb.toArray⟩, .int .i64 vf, .string ⟨vb.toArray⟩, .string args] 108)).alloc (.cells #[.int .i64 0, .int .i64 0, .int .i64 0, .int .i64 0, .string ⟨#[]⟩, .int .i64 0, .int .i64 0, .slice none 0 0] 131) = w2) := hw2.symm
  have H2 := hid (two_start [.int .i64 xid, .int .i64 rpc, .int .i64 prog, .int .i64 vers, .int .i64 proc, .int .i64 cf, .string ⟨cb.toArray⟩, .int .i64 vf, .string ⟨vb.toArray⟩, .string args] [.int .i64 0, .int .i64 0, .int .i64 0, .int .i64 0, .string ⟨#[]⟩, .int .i64 0, .int .i64 0, .slice none 0 0] _ _ w w2 hw2)
  have HC2 : Hid (Bk w2 w.heap.size [.int .i64 xid, .int .i64 rpc, .int .i64 prog, .int .i64 vers, .int .i64 proc, .int .i64 cf, .string ⟨cb.toArray⟩, .int .i64 vf, .string ⟨vb.toArray⟩, .string args] 108) := by
    show Bk _ _ _ _
    rw [hw2]
    exact (Bk.new w [.int .i64 xid, .int .i64 rpc, .int .i64 prog, .int .i64 vers, .int .i64 proc, .int .i64 cf, .string ⟨cb.toArray⟩, .int .i64 vf, .string ⟨vb.toArray⟩, .string args] 108).below (below_new _ _) (by simp)
  have HS := hid (judgeCred_any cf cb xid w2 (hT.below H2.out.2.1) hl)
  obtain ⟨R, hR⟩ : ∃ R, jP xid cf cb vf vb = R := ⟨_, rfl⟩
  obtain ⟨n, hn⟩ : ∃ n, nob vf ⟨vb.toArray⟩ = n := ⟨_, rfl⟩
  have HI := hid (fun w => isNobody_any vf ⟨vb.toArray⟩ w)
  have HR := hid hR.symm
  unfold jP at HR
  rw [hR]
  generalize jcP cf cb xid = J at HS HR
  rw [hn] at HI HR
  obtain ⟨⟨i, q, u, st, mc, us, gr, gs⟩, is, why⟩ := J
  simp only at HR
  clear hw2 hT hl hR hn
  go_enter Tryz.func83, Tryz.ntmps83
  go_wp2_with fail
  rw [HW2.out]
  refine HS.out.mono ?_
  rintro e w3 ⟨oa, cap, rfl, ho3, hB3⟩
  have HB3 := hid hB3
  have HO3 := hid ho3
  clear hB3 ho3
  simp only
  obtain ⟨w4, hw4⟩ : ∃ x, w3.alloc (.cells #[.int .i64 i, .int .i64 q, .int .i64 u, .int .i64 st, .string ⟨mc.toArray⟩, .int .i64 us, .int .i64 gr, .slice oa gs.length cap] 131) = x := ⟨_, rfl⟩
  have hB4 : Below w3.heap.size w3 w4 := by rw [← hw4]; exact below_new _ _
  have hL : Bk w4 w3.heap.size [.int .i64 i, .int .i64 q, .int .i64 u, .int .i64 st, .string ⟨mc.toArray⟩, .int .i64 us, .int .i64 gr, .slice oa gs.length cap] 131 := by rw [← hw4]; exact Bk.new _ _ _
  have hz := H2.out.2.2
  have hz3 := HB3.out.size
  have hz4 : w3.heap.size < w4.heap.size := hL.lt
  have HK : Hid (Bk w4 (w.heap.size + 1) [.int .i64 0, .int .i64 0, .int .i64 0, .int .i64 0, .string ⟨#[]⟩, .int .i64 0, .int .i64 0, .slice none 0 0] 131) := (H2.out.1.below HB3.out (by omega)).below hB4 (by omega)
  have hC : Bk w4 w.heap.size [.int .i64 xid, .int .i64 rpc, .int .i64 prog, .int .i64 vers, .int .i64 proc, .int .i64 cf, .string ⟨cb.toArray⟩, .int .i64 vf, .string ⟨vb.toArray⟩, .string args] 108 := (HC2.out.below HB3.out (by omega)).below hB4 (by omega)
  have HB : Hid (Below w.heap.size w w4) := (H2.out.2.1.trans (HB3.out.mono (by omega))).trans (hB4.mono (by omega))
  have HO : Hid (OwnI w4 (w.heap.size + 1 + 1) (.slice oa gs.length cap) gs) := (HO3.out.of_blocks (fun g hg => hB4.block g (HO3.out.lt g hg).2)).mono (by omega)
  have HL := hid hL
  have HZZ := hid (And.intro hz (And.intro hz3 hz4))
  have v7 := hC.cell 7 rfl
  have v8 := hC.cell 8 rfl
  clear hB4 hL hC hz hz3 hz4 HS HW2 HC2 HB3 HO3
  by_cases h0 : why = 0
  · subst h0
    rw [if_pos rfl] at HR
    cases n
    · have hR : R = (nulM, false, 3) := HR.out
      subst hR
      clear HR
      go_wp2_with fail
      refine (HI.out _).mono ?_
      rintro e w5 ⟨rfl, hB5⟩
      have HK5 : Hid (Bk w5 (w.heap.size + 1) [.int .i64 0, .int .i64 0, .int .i64 0, .int .i64 0, .string ⟨#[]⟩, .int .i64 0, .int .i64 0, .slice none 0 0] 131) := HK.out.below hB5 (by have := HZZ.out; omega)
      have HB5 : Hid (Below w.heap.size w w5) := HB.out.trans (hB5.mono (by have := HZZ.out; omega))
      clear hB5 v7 v8
      have k0 := HK5.out.cell 0 rfl
      have f0 := HK5.out.frozen 0
      have k1 := HK5.out.cell 1 rfl
      have f1 := HK5.out.frozen 1
      have k2 := HK5.out.cell 2 rfl
      have f2 := HK5.out.frozen 2
      have k3 := HK5.out.cell 3 rfl
      have f3 := HK5.out.frozen 3
      have k4 := HK5.out.cell 4 rfl
      have f4 := HK5.out.frozen 4
      have k5 := HK5.out.cell 5 rfl
      have f5 := HK5.out.frozen 5
      have k6 := HK5.out.cell 6 rfl
      have f6 := HK5.out.frozen 6
      have k7 := HK5.out.cell 7 rfl
      have f7 := HK5.out.frozen 7
      have HZ := HK5.out.set8 (.int .i64 0) (.int .i64 0) (.int .i64 0) (.int .i64 0) (.string ⟨#[]⟩) (.int .i64 0) (.int .i64 0) (.slice none 0 0)
      have q0 := HZ.cell 0 rfl
      have q1 := HZ.cell 1 rfl
      have q2 := HZ.cell 2 rfl
      have q3 := HZ.cell 3 rfl
      have q4 := HZ.cell 4 rfl
      have q5 := HZ.cell 5 rfl
      have q6 := HZ.cell 6 rfl
      have q7 := HZ.cell 7 rfl
      have HB7 := hid (below_set8 (b := w.heap.size + 1) HB5.out (by omega) (.int .i64 0) (.int .i64 0) (.int .i64 0) (.int .i64 0) (.string ⟨#[]⟩) (.int .i64 0) (.int .i64 0) (.slice none 0 0))
      clear HZ
      go_wp2
      exact bodyPost_ret (v := .tuple #[.agg #[.int .i64 0, .int .i64 0, .int .i64 0, .int .i64 0, .string ⟨#[]⟩, .int .i64 0, .int .i64 0, .slice none 0 0], .bool false, .int .i64 3]) (by simp [results, Tryz.results83, go_sem, q0, q1, q2, q3, q4, q5, q6, q7]) rfl ⟨none, 0, rfl, OwnI.nil _ _, HB7.out⟩
    · have hR : R = (⟨i, q, u, st, mc, us, gr, gs⟩, is, 0) := HR.out
      subst hR
      clear HR
      go_wp2_with fail
      refine (HI.out _).mono ?_
      rintro e w5 ⟨rfl, hB5⟩
      have hzz := HZZ.out
      have HK5 : Hid (Bk w5 (w.heap.size + 1) [.int .i64 0, .int .i64 0, .int .i64 0, .int .i64 0, .string ⟨#[]⟩, .int .i64 0, .int .i64 0, .slice none 0 0] 131) := HK.out.below hB5 (by omega)
      have HB5 : Hid (Below w.heap.size w w5) := HB.out.trans (hB5.mono (by omega))
      have HL5 : Hid (Bk w5 w3.heap.size [.int .i64 i, .int .i64 q, .int .i64 u, .int .i64 st, .string ⟨mc.toArray⟩, .int .i64 us, .int .i64 gr, .slice oa gs.length cap] 131) := HL.out.below hB5 (by omega)
      have HO5 : Hid (OwnI w5 (w.heap.size + 1 + 1) (.slice oa gs.length cap) gs) := HO.out.of_blocks (fun g hg => hB5.block g (HO.out.lt g hg).2)
      clear hB5 v7 v8 hzz
      have k0 := HK5.out.cell 0 rfl
      have f0 := HK5.out.frozen 0
      have k1 := HK5.out.cell 1 rfl
      have f1 := HK5.out.frozen 1
      have k2 := HK5.out.cell 2 rfl
      have f2 := HK5.out.frozen 2
      have k3 := HK5.out.cell 3 rfl
      have f3 := HK5.out.frozen 3
      have k4 := HK5.out.cell 4 rfl
      have f4 := HK5.out.frozen 4
      have k5 := HK5.out.cell 5 rfl
      have f5 := HK5.out.frozen 5
      have k6 := HK5.out.cell 6 rfl
      have f6 := HK5.out.frozen 6
      have k7 := HK5.out.cell 7 rfl
      have f7 := HK5.out.frozen 7
      have c0 := HL5.out.cell 0 rfl
      have c1 := HL5.out.cell 1 rfl
      have c2 := HL5.out.cell 2 rfl
      have c3 := HL5.out.cell 3 rfl
      have c4 := HL5.out.cell 4 rfl
      have c5 := HL5.out.cell 5 rfl
      have c6 := HL5.out.cell 6 rfl
      have c7 := HL5.out.cell 7 rfl
      have HE := hid ((HO5.out.of_blocks (fun g hg => set8_ne w5 (w.heap.size + 1) g (.int .i64 i) (.int .i64 q) (.int .i64 u) (.int .i64 st) (.string ⟨mc.toArray⟩) (.int .i64 us) (.int .i64 gr) (.slice oa gs.length cap) (by have := (HO5.out.lt g hg).1; omega))).mono (show w.heap.size ≤ w.heap.size + 1 + 1 by omega))
      have HB8 := hid (below_set8 (b := w.heap.size + 1) HB5.out (by omega) (.int .i64 i) (.int .i64 q) (.int .i64 u) (.int .i64 st) (.string ⟨mc.toArray⟩) (.int .i64 us) (.int .i64 gr) (.slice oa gs.length cap))
      have HZ0 := hid (HK5.out.set8 (.int .i64 i) (.int .i64 q) (.int .i64 u) (.int .i64 st) (.string ⟨mc.toArray⟩) (.int .i64 us) (.int .i64 gr) (.slice oa gs.length cap))
      go_wp2
      have HZ := HZ0.out
      have q0 := HZ.cell 0 rfl
      have q1 := HZ.cell 1 rfl
      have q2 := HZ.cell 2 rfl
      have q3 := HZ.cell 3 rfl
      have q4 := HZ.cell 4 rfl
      have q5 := HZ.cell 5 rfl
      have q6 := HZ.cell 6 rfl
      have q7 := HZ.cell 7 rfl
      exact bodyPost_ret (v := .tuple #[.agg #[.int .i64 i, .int .i64 q, .int .i64 u, .int .i64 st, .string ⟨mc.toArray⟩, .int .i64 us, .int .i64 gr, .slice oa gs.length cap], .bool is, .int .i64 0]) (by simp [results, Tryz.results83, go_sem, q0, q1, q2, q3, q4, q5, q6, q7]) rfl ⟨_, _, rfl, HE.out, HB8.out⟩
  · have hR := HR.out
    rw [if_neg h0] at hR
    subst hR
    clear HR v7 v8
    have h1 : (why == 0) = false := by simpa using h0
    have h2 : (why != 0) = true := bne_iff_ne.2 h0
    have k0 := HK.out.cell 0 rfl
    have f0 := HK.out.frozen 0
    have k1 := HK.out.cell 1 rfl
    have f1 := HK.out.frozen 1
    have k2 := HK.out.cell 2 rfl
    have f2 := HK.out.frozen 2
    have k3 := HK.out.cell 3 rfl
    have f3 := HK.out.frozen 3
    have k4 := HK.out.cell 4 rfl
    have f4 := HK.out.frozen 4
    have k5 := HK.out.cell 5 rfl
    have f5 := HK.out.frozen 5
    have k6 := HK.out.cell 6 rfl
    have f6 := HK.out.frozen 6
    have k7 := HK.out.cell 7 rfl
    have f7 := HK.out.frozen 7
    have HZ := HK.out.set8 (.int .i64 0) (.int .i64 0) (.int .i64 0) (.int .i64 0) (.string ⟨#[]⟩) (.int .i64 0) (.int .i64 0) (.slice none 0 0)
    have q0 := HZ.cell 0 rfl
    have q1 := HZ.cell 1 rfl
    have q2 := HZ.cell 2 rfl
    have q3 := HZ.cell 3 rfl
    have q4 := HZ.cell 4 rfl
    have q5 := HZ.cell 5 rfl
    have q6 := HZ.cell 6 rfl
    have q7 := HZ.cell 7 rfl
    have HB7 := hid (below_set8 (b := w.heap.size + 1) HB.out (by omega) (.int .i64 0) (.int .i64 0) (.int .i64 0) (.int .i64 0) (.string ⟨#[]⟩) (.int .i64 0) (.int .i64 0) (.slice none 0 0))
    clear HZ
    go_wp2
    exact bodyPost_ret (v := .tuple #[.agg #[.int .i64 0, .int .i64 0, .int .i64 0, .int .i64 0, .string ⟨#[]⟩, .int .i64 0, .int .i64 0, .slice none 0 0], .bool false, .int .i64 why]) (by simp [results, Tryz.results83, go_sem, q0, q1, q2, q3, q4, q5, q6, q7]) rfl ⟨none, 0, rfl, OwnI.nil _ _, HB7.out⟩
end Go.Proofs.YtfcbjcebkahehaaGreatDoor
