/- M1: any call, any reply: what the program prints is what the document prints. -/
import Derived.Test.YtfkggcinpklgmaaGreatDoorGp
namespace Go.Proofs.YtfkggcinpklgmaaGreatDoor
open Go.RowKit
set_option maxRecDepth 8000 in
set_option maxHeartbeats 8000000 in
theorem messagePrints_any (c : CallP) (r : ReplyP) (w : World) (hT : ErrT w) (hc : c.args.length ≤ 140737488355328) (hr : r.results.length ≤ 140737488355328) :
    Calls Tryz.prog 3 #[.agg (callV c).toArray, .agg (replyV r).toArray] w fun e w' => e = .returned (.bool true) ∧ Below w.heap.size w w' := by
  have HKN := hid (fun w h => knownM_any w h)
  have H1 := hid (fun w h => printCall_any c w h hc)
  have H2 := hid (fun w => dprintCall_any c w hc)
  have H3 := hid (fun w h => printReply_any r w h hr)
  have H4 := hid (fun w => dprintReply_any r w hr)
  simp only [callV, replyV] at H1 H2 H3 H4 ⊢
  generalize (⟨(pcP c).1.toArray⟩ : ByteArray) = S1 at *
  generalize (pcP c).2 = E1 at *
  generalize (⟨(prP r).1.toArray⟩ : ByteArray) = S2 at *
  generalize (prP r).2 = E2 at *
  obtain ⟨wa, hwa⟩ : ∃ x, w.alloc (.cells #[.int .i64 c.xid, .int .i64 c.rpc, .int .i64 c.prog, .int .i64 c.vers, .int .i64 c.proc, .int .i64 c.cred.flavor, .string ⟨c.cred.body.toArray⟩, .int .i64 c.verf.flavor, .string ⟨c.verf.body.toArray⟩, .string ⟨c.args.toArray⟩] 25) = x := ⟨_, rfl⟩
  obtain ⟨hk, hB, hz⟩ := boxed w wa _ _ hwa
  obtain ⟨wb, hwb⟩ : ∃ x, wa.alloc (.cells #[.int .i64 r.xid, .bool r.denied, .int .i64 r.verf.flavor, .string ⟨r.verf.body.toArray⟩, .int .i64 r.accept, .int .i64 r.reject, .int .i64 r.why, .int .i64 r.low, .int .i64 r.high, .string ⟨r.results.toArray⟩] 27) = x := ⟨_, rfl⟩
  obtain ⟨hk2, hB2, hz2⟩ := boxed wa wb _ _ hwb
  have HKC_wb : Hid (Bk wb w.heap.size [.int .i64 c.xid, .int .i64 c.rpc, .int .i64 c.prog, .int .i64 c.vers, .int .i64 c.proc, .int .i64 c.cred.flavor, .string ⟨c.cred.body.toArray⟩, .int .i64 c.verf.flavor, .string ⟨c.verf.body.toArray⟩, .string ⟨c.args.toArray⟩] 25) := hk.below hB2 (by omega)
  have HKR_wb : Hid (Bk wb (w.heap.size + 1) [.int .i64 r.xid, .bool r.denied, .int .i64 r.verf.flavor, .string ⟨r.verf.body.toArray⟩, .int .i64 r.accept, .int .i64 r.reject, .int .i64 r.why, .int .i64 r.low, .int .i64 r.high, .string ⟨r.results.toArray⟩] 27) := by rw [hz] at hk2; exact hk2
  have HB_wb : Hid (Below w.heap.size w wb) := hB.trans (hB2.mono (by omega))
  have HT0 := hid hT
  have HE_wb := hid (hT.below HB_wb.out)
  clear hk hk2 hB hB2 hz2 hT hc hr
  have hza := hz
  clear hz
  go_enter Tryz.func3, Tryz.ntmps3
  go_wp2_with fail
  refine (HKN.out _ HE_wb.out).mono ?_
  rintro e wz1 ⟨rfl, hB⟩
  have HKC_wz1 : Hid (Bk wz1 w.heap.size [.int .i64 c.xid, .int .i64 c.rpc, .int .i64 c.prog, .int .i64 c.vers, .int .i64 c.proc, .int .i64 c.cred.flavor, .string ⟨c.cred.body.toArray⟩, .int .i64 c.verf.flavor, .string ⟨c.verf.body.toArray⟩, .string ⟨c.args.toArray⟩] 25) := HKC_wb.out.below hB HKC_wb.out.lt
  clear HKC_wb
  have HKR_wz1 : Hid (Bk wz1 (w.heap.size + 1) [.int .i64 r.xid, .bool r.denied, .int .i64 r.verf.flavor, .string ⟨r.verf.body.toArray⟩, .int .i64 r.accept, .int .i64 r.reject, .int .i64 r.why, .int .i64 r.low, .int .i64 r.high, .string ⟨r.results.toArray⟩] 27) := HKR_wb.out.below hB HKR_wb.out.lt
  clear HKR_wb
  have HB_wz1 : Hid (Below w.heap.size w wz1) := HB_wb.out.trans (hB.mono HB_wb.out.size)
  have HE_wz1 := hid (HT0.out.below HB_wz1.out)
  clear hB
  have c0 := HKC_wz1.out.cell 0 rfl
  have c1 := HKC_wz1.out.cell 1 rfl
  have c2 := HKC_wz1.out.cell 2 rfl
  have c3 := HKC_wz1.out.cell 3 rfl
  have c4 := HKC_wz1.out.cell 4 rfl
  have c5 := HKC_wz1.out.cell 5 rfl
  have c6 := HKC_wz1.out.cell 6 rfl
  have c7 := HKC_wz1.out.cell 7 rfl
  have c8 := HKC_wz1.out.cell 8 rfl
  have c9 := HKC_wz1.out.cell 9 rfl
  go_wp2_with fail
  refine (H1.out _ HE_wz1.out).mono ?_
  rintro e wz2 ⟨rfl, hB⟩
  have HKC_wz2 : Hid (Bk wz2 w.heap.size [.int .i64 c.xid, .int .i64 c.rpc, .int .i64 c.prog, .int .i64 c.vers, .int .i64 c.proc, .int .i64 c.cred.flavor, .string ⟨c.cred.body.toArray⟩, .int .i64 c.verf.flavor, .string ⟨c.verf.body.toArray⟩, .string ⟨c.args.toArray⟩] 25) := HKC_wz1.out.below hB HKC_wz1.out.lt
  clear HKC_wz1
  have HKR_wz2 : Hid (Bk wz2 (w.heap.size + 1) [.int .i64 r.xid, .bool r.denied, .int .i64 r.verf.flavor, .string ⟨r.verf.body.toArray⟩, .int .i64 r.accept, .int .i64 r.reject, .int .i64 r.why, .int .i64 r.low, .int .i64 r.high, .string ⟨r.results.toArray⟩] 27) := HKR_wz1.out.below hB HKR_wz1.out.lt
  clear HKR_wz1
  have HB_wz2 : Hid (Below w.heap.size w wz2) := HB_wz1.out.trans (hB.mono HB_wz1.out.size)
  have HE_wz2 := hid (HT0.out.below HB_wz2.out)
  clear hB
  clear c0 c1 c2 c3 c4 c5 c6 c7 c8 c9
  have c0 := HKC_wz2.out.cell 0 rfl
  have c1 := HKC_wz2.out.cell 1 rfl
  have c2 := HKC_wz2.out.cell 2 rfl
  have c3 := HKC_wz2.out.cell 3 rfl
  have c4 := HKC_wz2.out.cell 4 rfl
  have c5 := HKC_wz2.out.cell 5 rfl
  have c6 := HKC_wz2.out.cell 6 rfl
  have c7 := HKC_wz2.out.cell 7 rfl
  have c8 := HKC_wz2.out.cell 8 rfl
  have c9 := HKC_wz2.out.cell 9 rfl
  go_wp2_with fail
  refine (H2.out _).mono ?_
  rintro e wz3 ⟨rfl, hB⟩
  have HKC_wz3 : Hid (Bk wz3 w.heap.size [.int .i64 c.xid, .int .i64 c.rpc, .int .i64 c.prog, .int .i64 c.vers, .int .i64 c.proc, .int .i64 c.cred.flavor, .string ⟨c.cred.body.toArray⟩, .int .i64 c.verf.flavor, .string ⟨c.verf.body.toArray⟩, .string ⟨c.args.toArray⟩] 25) := HKC_wz2.out.below hB HKC_wz2.out.lt
  clear HKC_wz2
  have HKR_wz3 : Hid (Bk wz3 (w.heap.size + 1) [.int .i64 r.xid, .bool r.denied, .int .i64 r.verf.flavor, .string ⟨r.verf.body.toArray⟩, .int .i64 r.accept, .int .i64 r.reject, .int .i64 r.why, .int .i64 r.low, .int .i64 r.high, .string ⟨r.results.toArray⟩] 27) := HKR_wz2.out.below hB HKR_wz2.out.lt
  clear HKR_wz2
  have HB_wz3 : Hid (Below w.heap.size w wz3) := HB_wz2.out.trans (hB.mono HB_wz2.out.size)
  have HE_wz3 := hid (HT0.out.below HB_wz3.out)
  clear hB
  clear c0 c1 c2 c3 c4 c5 c6 c7 c8 c9
  clear HKC_wz3
  have r0 := HKR_wz3.out.cell 0 rfl
  have r1 := HKR_wz3.out.cell 1 rfl
  have r2 := HKR_wz3.out.cell 2 rfl
  have r3 := HKR_wz3.out.cell 3 rfl
  have r4 := HKR_wz3.out.cell 4 rfl
  have r5 := HKR_wz3.out.cell 5 rfl
  have r6 := HKR_wz3.out.cell 6 rfl
  have r7 := HKR_wz3.out.cell 7 rfl
  have r8 := HKR_wz3.out.cell 8 rfl
  have r9 := HKR_wz3.out.cell 9 rfl
  go_wp2_with fail
  refine (H3.out _ HE_wz3.out).mono ?_
  rintro e wz4 ⟨rfl, hB⟩
  have HKR_wz4 : Hid (Bk wz4 (w.heap.size + 1) [.int .i64 r.xid, .bool r.denied, .int .i64 r.verf.flavor, .string ⟨r.verf.body.toArray⟩, .int .i64 r.accept, .int .i64 r.reject, .int .i64 r.why, .int .i64 r.low, .int .i64 r.high, .string ⟨r.results.toArray⟩] 27) := HKR_wz3.out.below hB HKR_wz3.out.lt
  clear HKR_wz3
  have HB_wz4 : Hid (Below w.heap.size w wz4) := HB_wz3.out.trans (hB.mono HB_wz3.out.size)
  have HE_wz4 := hid (HT0.out.below HB_wz4.out)
  clear hB
  clear r0 r1 r2 r3 r4 r5 r6 r7 r8 r9
  have r0 := HKR_wz4.out.cell 0 rfl
  have r1 := HKR_wz4.out.cell 1 rfl
  have r2 := HKR_wz4.out.cell 2 rfl
  have r3 := HKR_wz4.out.cell 3 rfl
  have r4 := HKR_wz4.out.cell 4 rfl
  have r5 := HKR_wz4.out.cell 5 rfl
  have r6 := HKR_wz4.out.cell 6 rfl
  have r7 := HKR_wz4.out.cell 7 rfl
  have r8 := HKR_wz4.out.cell 8 rfl
  have r9 := HKR_wz4.out.cell 9 rfl
  go_wp2_with fail
  refine (H4.out _).mono ?_
  rintro e wz5 ⟨rfl, hB⟩
  have HKR_wz5 : Hid (Bk wz5 (w.heap.size + 1) [.int .i64 r.xid, .bool r.denied, .int .i64 r.verf.flavor, .string ⟨r.verf.body.toArray⟩, .int .i64 r.accept, .int .i64 r.reject, .int .i64 r.why, .int .i64 r.low, .int .i64 r.high, .string ⟨r.results.toArray⟩] 27) := HKR_wz4.out.below hB HKR_wz4.out.lt
  clear HKR_wz4
  have HB_wz5 : Hid (Below w.heap.size w wz5) := HB_wz4.out.trans (hB.mono HB_wz4.out.size)
  have HE_wz5 := hid (HT0.out.below HB_wz5.out)
  clear hB
  clear r0 r1 r2 r3 r4 r5 r6 r7 r8 r9
  clear HKR_wz5
  go_wp2
  all_goals first
    | (go_ret; exact ⟨by first | rfl | simp, HB_wz5.out⟩)
    | (exfalso; simp_all)
end Go.Proofs.YtfkggcinpklgmaaGreatDoor
