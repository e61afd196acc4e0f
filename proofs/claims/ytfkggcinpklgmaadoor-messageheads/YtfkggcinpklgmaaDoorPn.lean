/- M4: what was printed is read as it was, and as nothing else; what is read is printed as it was; no text is a call and a reply. -/
import Derived.Test.YtfkggcinpklgmaaDoorPa
import Derived.Test.YtfkggcinpklgmaaDoorPl
import Derived.Test.YtfkggcinpklgmaaDoorPm
import Derived.Deep.CutBlock
import Derived.Deep.DeepCutAuto
namespace Go.Proofs.YtfkggcinpklgmaaDoor
open Go.RowKit
theorem pc_may {c : CallP} (h : c.may) : pcP c = (c.lay, 0) := by unfold pcP prM; rw [if_pos h]
theorem pr_may {r : ReplyP} (h : r.may) : prP r = (r.lay, 0) := by unfold prP prM; rw [if_pos h]
theorem not_reply {c : CallP} (h : c.may) : parseR c.lay = (nulR, 121) := by
  rcases parseR_form c.lay with ⟨_, h1, _⟩ | h1
  · rcases parseC_form c.lay with ⟨_, h2, _⟩ | h2
    · rw [h1] at h2; exact absurd h2 (by decide)
    · rw [parseC_there c h] at h2; exact absurd (congrArg Prod.snd h2) (by show ¬ (0 : Int) = 121; decide)
  · exact h1
theorem not_call {r : ReplyP} (h : r.may) : parseC r.lay = (nulC, 121) := by
  rcases parseC_form r.lay with ⟨_, h1, _⟩ | h1
  · rcases parseR_form r.lay with ⟨_, h2, _⟩ | h2
    · rw [h1] at h2; exact absurd h2 (by decide)
    · rw [parseR_there r h] at h2; exact absurd (congrArg Prod.snd h2) (by show ¬ (0 : Int) = 121; decide)
  · exact h1
/-- what any text is -/
inductive Is (s : List UInt8) (A : CallP) (l : Int) (B : ReplyP) (m : Int) : Prop
  | call : l = 0 → m = 121 → B = nulR → A.rpc = 2 → A.may → A.lay = s → Is s A l B m
  | other : l = 0 → m = 121 → B = nulR → A.rpc ≠ 2 → Is s A l B m
  | reply : l = 121 → A = nulC → m = 0 → B.may → B.lay = s → Is s A l B m
  | none : l = 121 → A = nulC → m = 121 → B = nulR → Is s A l B m
theorem what_is (s : List UInt8) : Is s (parseC s).1 (parseC s).2 (parseR s).1 (parseR s).2 := by
  rcases parseC_form s with ⟨h1, h2, h3⟩ | h1
  · rcases parseR_form s with ⟨_, k2, _⟩ | k1
    · rw [h2] at k2; exact absurd k2 (by decide)
    · rw [k1]
      by_cases h4 : (parseC s).1.rpc = 2
      · exact .call h1 rfl rfl h4 (h3 h4).1 (h3 h4).2.symm
      · exact .other h1 rfl rfl h4
  · rw [h1]
    rcases parseR_form s with ⟨k1, _, k3, k4⟩ | k1
    · exact .reply rfl rfl k1 k3 k4.symm
    · rw [k1]
      exact .none rfl rfl rfl rfl
theorem reply_len {r : ReplyP} (h : r.may) : r.results.length ≤ 140737488355328 := by
  obtain ⟨rx, rd, rv, ra, rl, rh, rr, rj, rw_⟩ := r
  obtain ⟨_, h2⟩ := h
  cases rd
  · simp only [Bool.false_eq_true, if_false] at h2
    obtain ⟨_, _, _, _, _, h7⟩ := h2
    rcases h7 with ⟨_, a1, _⟩ | ⟨_, _, _, rfl⟩ | ⟨_, _, _, _, rfl⟩
    · exact Nat.le_trans a1.1 (by decide)
    · exact Nat.zero_le _
    · exact Nat.zero_le _
  · simp only [if_true] at h2
    obtain ⟨_, _, rfl, _⟩ := h2
    exact Nat.zero_le _
set_option maxRecDepth 8000 in
set_option maxHeartbeats 8000000 in
theorem messageBack_any (c : CallP) (r : ReplyP) (s : List UInt8) (w : World) (hT : ErrT w) (hc : Call64 c) (hr : Reply64 r) (hl : s.length ≤ 140737488355328) :
    Calls Tryd.prog 3 #[.agg (callV c).toArray, .agg (replyV r).toArray, .string ⟨s.toArray⟩] w fun e w' => e = .returned (.bool true) ∧ Below w.heap.size w w' := by
  simp only [callV, replyV]
  obtain ⟨wa, hwa⟩ : ∃ x, w.alloc (.cells #[.int .i64 c.xid, .int .i64 c.rpc, .int .i64 c.prog, .int .i64 c.vers, .int .i64 c.proc, .int .i64 c.cred.flavor, .string ⟨c.cred.body.toArray⟩, .int .i64 c.verf.flavor, .string ⟨c.verf.body.toArray⟩, .string ⟨c.args.toArray⟩] 25) = x := ⟨_, rfl⟩
  obtain ⟨hk, hB, hz⟩ := boxed w wa _ _ hwa
  obtain ⟨wb, hwb⟩ : ∃ x, wa.alloc (.cells #[.int .i64 r.xid, .bool r.denied, .int .i64 r.verf.flavor, .string ⟨r.verf.body.toArray⟩, .int .i64 r.accept, .int .i64 r.reject, .int .i64 r.why, .int .i64 r.low, .int .i64 r.high, .string ⟨r.results.toArray⟩] 27) = x := ⟨_, rfl⟩
  obtain ⟨hk2, hB2, hz2⟩ := boxed wa wb _ _ hwb
  have HKC_wb : Hid (Bk wb w.heap.size [.int .i64 c.xid, .int .i64 c.rpc, .int .i64 c.prog, .int .i64 c.vers, .int .i64 c.proc, .int .i64 c.cred.flavor, .string ⟨c.cred.body.toArray⟩, .int .i64 c.verf.flavor, .string ⟨c.verf.body.toArray⟩, .string ⟨c.args.toArray⟩] 25) := hk.below hB2 (by omega)
  have HKR_wb : Hid (Bk wb (w.heap.size + 1) [.int .i64 r.xid, .bool r.denied, .int .i64 r.verf.flavor, .string ⟨r.verf.body.toArray⟩, .int .i64 r.accept, .int .i64 r.reject, .int .i64 r.why, .int .i64 r.low, .int .i64 r.high, .string ⟨r.results.toArray⟩] 27) := by rw [hz] at hk2; exact hk2
  have HB_wb : Hid (Below w.heap.size w wb) := hB.trans (hB2.mono (by omega))
  have HE_wb := hid (hT.below HB_wb.out)
  have HKN := hid (fun w h => knownM_any w h)
  have HFI := hid (fun w => fitted_any c w hc)
  have HTO := hid (fun w => told_any r w hr)
  have mx := fit_may c
  have my := tol_may r
  generalize hX : fitP c = X at mx HFI
  generalize hY : tolP r = Y at my HTO
  clear hX hY
  have HPC : Hid (∀ w, ErrT w → Calls Tryd.prog 8 #[.agg #[.int .i64 X.xid, .int .i64 X.rpc, .int .i64 X.prog, .int .i64 X.vers, .int .i64 X.proc, .int .i64 X.cred.flavor, .string ⟨X.cred.body.toArray⟩, .int .i64 X.verf.flavor, .string ⟨X.verf.body.toArray⟩, .string ⟨X.args.toArray⟩]] w fun e w' => e = .returned (.tuple #[.string ⟨X.lay.toArray⟩, .int .i64 0]) ∧ Below w.heap.size w w') := fun w h => by
    have := printCall_any X w h (Nat.le_trans mx.2.2.2.2.2.2.2.1 (by decide))
    rw [pc_may mx] at this
    exact this
  have HPR : Hid (∀ w, ErrT w → Calls Tryd.prog 9 #[.agg #[.int .i64 Y.xid, .bool Y.denied, .int .i64 Y.verf.flavor, .string ⟨Y.verf.body.toArray⟩, .int .i64 Y.accept, .int .i64 Y.reject, .int .i64 Y.why, .int .i64 Y.low, .int .i64 Y.high, .string ⟨Y.results.toArray⟩]] w fun e w' => e = .returned (.tuple #[.string ⟨Y.lay.toArray⟩, .int .i64 0]) ∧ Below w.heap.size w w') := fun w h => by
    have := printReply_any Y w h (reply_len my)
    rw [pr_may my] at this
    exact this
  have lx := lay_four X mx
  have ly := rlay_four Y my
  have HAC : Hid (∀ w, ErrT w → Calls Tryd.prog 10 #[.string ⟨X.lay.toArray⟩] w fun e w' => e = .returned (.tuple #[.agg #[.int .i64 X.xid, .int .i64 X.rpc, .int .i64 X.prog, .int .i64 X.vers, .int .i64 X.proc, .int .i64 X.cred.flavor, .string ⟨X.cred.body.toArray⟩, .int .i64 X.verf.flavor, .string ⟨X.verf.body.toArray⟩, .string ⟨X.args.toArray⟩], .int .i64 0]) ∧ Below w.heap.size w w') := fun w h => by
    have := parseCall_any X.lay w h (by omega)
    rw [parseC_there X mx] at this
    exact this
  have HAR : Hid (∀ w, ErrT w → Calls Tryd.prog 11 #[.string ⟨Y.lay.toArray⟩] w fun e w' => e = .returned (.tuple #[.agg #[.int .i64 Y.xid, .bool Y.denied, .int .i64 Y.verf.flavor, .string ⟨Y.verf.body.toArray⟩, .int .i64 Y.accept, .int .i64 Y.reject, .int .i64 Y.why, .int .i64 Y.low, .int .i64 Y.high, .string ⟨Y.results.toArray⟩], .int .i64 0]) ∧ Below w.heap.size w w') := fun w h => by
    have := parseReply_any Y.lay w h (by omega)
    rw [parseR_there Y my] at this
    exact this
  obtain ⟨NC, hNC⟩ : ∃ n, n = nulC := ⟨_, rfl⟩
  obtain ⟨NR, hNR⟩ : ∃ n, n = nulR := ⟨_, rfl⟩
  have HBR : Hid (∀ w, ErrT w → Calls Tryd.prog 11 #[.string ⟨X.lay.toArray⟩] w fun e w' => e = .returned (.tuple #[.agg #[.int .i64 NR.xid, .bool NR.denied, .int .i64 NR.verf.flavor, .string ⟨NR.verf.body.toArray⟩, .int .i64 NR.accept, .int .i64 NR.reject, .int .i64 NR.why, .int .i64 NR.low, .int .i64 NR.high, .string ⟨NR.results.toArray⟩], .int .i64 121]) ∧ Below w.heap.size w w') := fun w h => by
    have := parseReply_any X.lay w h (by omega)
    rw [not_reply mx, ← hNR] at this
    exact this
  have HBC : Hid (∀ w, ErrT w → Calls Tryd.prog 10 #[.string ⟨Y.lay.toArray⟩] w fun e w' => e = .returned (.tuple #[.agg #[.int .i64 NC.xid, .int .i64 NC.rpc, .int .i64 NC.prog, .int .i64 NC.vers, .int .i64 NC.proc, .int .i64 NC.cred.flavor, .string ⟨NC.cred.body.toArray⟩, .int .i64 NC.verf.flavor, .string ⟨NC.verf.body.toArray⟩, .string ⟨NC.args.toArray⟩], .int .i64 121]) ∧ Below w.heap.size w w') := fun w h => by
    have := parseCall_any Y.lay w h (by omega)
    rw [not_call my, ← hNC] at this
    exact this
  have what := what_is s
  have HCC := hid (fun w h => parseCall_any s w h (by omega))
  have HCR := hid (fun w h => parseReply_any s w h (by omega))
  obtain ⟨A, hA⟩ : ∃ a, (parseC s).1 = a := ⟨_, rfl⟩
  obtain ⟨l, hL⟩ : ∃ a, (parseC s).2 = a := ⟨_, rfl⟩
  obtain ⟨B, hBv⟩ : ∃ a, (parseR s).1 = a := ⟨_, rfl⟩
  obtain ⟨m, hM⟩ : ∃ a, (parseR s).2 = a := ⟨_, rfl⟩
  rw [hA, hL, hBv, hM] at what
  simp only [hA, hL] at HCC
  simp only [hBv, hM] at HCR
  simp only [callV] at HCC
  simp only [replyV] at HCR
  simp only [callV, replyV] at HFI HTO
  have nqX : ∀ w : World, (binOp .neq 25 (.agg #[.int .i64 X.xid, .int .i64 X.rpc, .int .i64 X.prog, .int .i64 X.vers, .int .i64 X.proc, .int .i64 X.cred.flavor, .string ⟨X.cred.body.toArray⟩, .int .i64 X.verf.flavor, .string ⟨X.verf.body.toArray⟩, .string ⟨X.args.toArray⟩]) (.agg #[.int .i64 X.xid, .int .i64 X.rpc, .int .i64 X.prog, .int .i64 X.vers, .int .i64 X.proc, .int .i64 X.cred.flavor, .string ⟨X.cred.body.toArray⟩, .int .i64 X.verf.flavor, .string ⟨X.verf.body.toArray⟩, .string ⟨X.args.toArray⟩])).run Tryd.prog w = .ok (.bool false) w := fun w => neqC w X
  have nqY : ∀ w : World, (binOp .neq 27 (.agg #[.int .i64 Y.xid, .bool Y.denied, .int .i64 Y.verf.flavor, .string ⟨Y.verf.body.toArray⟩, .int .i64 Y.accept, .int .i64 Y.reject, .int .i64 Y.why, .int .i64 Y.low, .int .i64 Y.high, .string ⟨Y.results.toArray⟩]) (.agg #[.int .i64 Y.xid, .bool Y.denied, .int .i64 Y.verf.flavor, .string ⟨Y.verf.body.toArray⟩, .int .i64 Y.accept, .int .i64 Y.reject, .int .i64 Y.why, .int .i64 Y.low, .int .i64 Y.high, .string ⟨Y.results.toArray⟩])).run Tryd.prog w = .ok (.bool false) w := fun w => neqR w Y
  have gC := guardCn
  have gR := guardRn
  have sx : ((⟨X.lay.toArray⟩ : ByteArray).size : Int) % 4 = 0 := by rw [ba_size]; omega
  have sy : ((⟨Y.lay.toArray⟩ : ByteArray).size : Int) % 4 = 0 := by rw [ba_size]; omega
  have HWH := hid what
  have HS := hid hl
  generalize hSX : (⟨X.lay.toArray⟩ : ByteArray) = SX at *
  generalize hSY : (⟨Y.lay.toArray⟩ : ByteArray) = SY at *
  clear hk hk2 hB hB2 hz2 hT hc hr hl mx my lx ly what hSX hSY hA hL hBv hM hNC hNR
  have hza := hz
  clear hz
  go_enter Tryd.func3, Tryd.ntmps3
  go_wp2_with fail
  refine (HKN.out _ HE_wb.out).mono ?_
  rintro e wz1 ⟨rfl, hB⟩
  have HKC_wz1 : Hid (Bk wz1 w.heap.size [.int .i64 c.xid, .int .i64 c.rpc, .int .i64 c.prog, .int .i64 c.vers, .int .i64 c.proc, .int .i64 c.cred.flavor, .string ⟨c.cred.body.toArray⟩, .int .i64 c.verf.flavor, .string ⟨c.verf.body.toArray⟩, .string ⟨c.args.toArray⟩] 25) := HKC_wb.out.below hB HKC_wb.out.lt
  clear HKC_wb
  have HKR_wz1 : Hid (Bk wz1 (w.heap.size + 1) [.int .i64 r.xid, .bool r.denied, .int .i64 r.verf.flavor, .string ⟨r.verf.body.toArray⟩, .int .i64 r.accept, .int .i64 r.reject, .int .i64 r.why, .int .i64 r.low, .int .i64 r.high, .string ⟨r.results.toArray⟩] 27) := HKR_wb.out.below hB HKR_wb.out.lt
  clear HKR_wb
  have HE_wz1 := hid (HE_wb.out.below hB)
  have HB_wz1 : Hid (Below w.heap.size w wz1) := HB_wb.out.trans (hB.mono HB_wb.out.size)
  clear hB
  have c0 := HKC_wz1.out.cell 0 rfl
  have c1 := HKC_wz1.out.cell 1 rfl
  have c2 := HKC_wz1.out.cell 2 rfl
  have c3 := HKC_wz1.out.cell 3 rfl
  have c4 := HKC_wz1.out.cell 4 rfl
  have c5 := HKC_wz1.out.cell 5 rfl
  have c6 := HKC_wz1.out.cell 6 rfl
  have c7 := HKC_wz1.out.cell 7 rfl
  have c8 := HKC_wz1.out.cell 8 rfl
  have c9 := HKC_wz1.out.cell 9 rfl
  go_wp2_with fail
  refine (HFI.out _).mono ?_
  rintro e wz2 ⟨rfl, hB⟩
  have HKC_wz2 : Hid (Bk wz2 w.heap.size [.int .i64 c.xid, .int .i64 c.rpc, .int .i64 c.prog, .int .i64 c.vers, .int .i64 c.proc, .int .i64 c.cred.flavor, .string ⟨c.cred.body.toArray⟩, .int .i64 c.verf.flavor, .string ⟨c.verf.body.toArray⟩, .string ⟨c.args.toArray⟩] 25) := HKC_wz1.out.below hB HKC_wz1.out.lt
  clear HKC_wz1
  have HKR_wz2 : Hid (Bk wz2 (w.heap.size + 1) [.int .i64 r.xid, .bool r.denied, .int .i64 r.verf.flavor, .string ⟨r.verf.body.toArray⟩, .int .i64 r.accept, .int .i64 r.reject, .int .i64 r.why, .int .i64 r.low, .int .i64 r.high, .string ⟨r.results.toArray⟩] 27) := HKR_wz1.out.below hB HKR_wz1.out.lt
  clear HKR_wz1
  have HE_wz2 := hid (HE_wz1.out.below hB)
  have HB_wz2 : Hid (Below w.heap.size w wz2) := HB_wz1.out.trans (hB.mono HB_wz1.out.size)
  clear hB
  clear c0 c1 c2 c3 c4 c5 c6 c7 c8 c9
  clear HKC_wz2
  obtain ⟨wz3, hwz3⟩ : ∃ x, wz2.alloc (.cells #[.int .i64 X.xid, .int .i64 X.rpc, .int .i64 X.prog, .int .i64 X.vers, .int .i64 X.proc, .int .i64 X.cred.flavor, .string ⟨X.cred.body.toArray⟩, .int .i64 X.verf.flavor, .string ⟨X.verf.body.toArray⟩, .string ⟨X.args.toArray⟩] 25) = x := ⟨_, rfl⟩
  obtain ⟨hk, hB, hz⟩ := boxed wz2 wz3 _ _ hwz3
  have HKR_wz3 : Hid (Bk wz3 (w.heap.size + 1) [.int .i64 r.xid, .bool r.denied, .int .i64 r.verf.flavor, .string ⟨r.verf.body.toArray⟩, .int .i64 r.accept, .int .i64 r.reject, .int .i64 r.why, .int .i64 r.low, .int .i64 r.high, .string ⟨r.results.toArray⟩] 27) := HKR_wz2.out.below hB HKR_wz2.out.lt
  clear HKR_wz2
  have HE_wz3 := hid (HE_wz2.out.below hB)
  have HB_wz3 : Hid (Below w.heap.size w wz3) := HB_wz2.out.trans (hB.mono HB_wz2.out.size)
  have HKX_wz3 : Hid (Bk wz3 wz2.heap.size [.int .i64 X.xid, .int .i64 X.rpc, .int .i64 X.prog, .int .i64 X.vers, .int .i64 X.proc, .int .i64 X.cred.flavor, .string ⟨X.cred.body.toArray⟩, .int .i64 X.verf.flavor, .string ⟨X.verf.body.toArray⟩, .string ⟨X.args.toArray⟩] 25) := hk
  clear hk hB hz
  have r0 := HKR_wz3.out.cell 0 rfl
  have r1 := HKR_wz3.out.cell 1 rfl
  have r2 := HKR_wz3.out.cell 2 rfl
  have r3 := HKR_wz3.out.cell 3 rfl
  have r4 := HKR_wz3.out.cell 4 rfl
  have r5 := HKR_wz3.out.cell 5 rfl
  have r6 := HKR_wz3.out.cell 6 rfl
  have r7 := HKR_wz3.out.cell 7 rfl
  have r8 := HKR_wz3.out.cell 8 rfl
  have r9 := HKR_wz3.out.cell 9 rfl
  go_wp2_with fail
  refine (HTO.out _).mono ?_
  rintro e wz4 ⟨rfl, hB⟩
  have HKR_wz4 : Hid (Bk wz4 (w.heap.size + 1) [.int .i64 r.xid, .bool r.denied, .int .i64 r.verf.flavor, .string ⟨r.verf.body.toArray⟩, .int .i64 r.accept, .int .i64 r.reject, .int .i64 r.why, .int .i64 r.low, .int .i64 r.high, .string ⟨r.results.toArray⟩] 27) := HKR_wz3.out.below hB HKR_wz3.out.lt
  clear HKR_wz3
  have HKX_wz4 : Hid (Bk wz4 wz2.heap.size [.int .i64 X.xid, .int .i64 X.rpc, .int .i64 X.prog, .int .i64 X.vers, .int .i64 X.proc, .int .i64 X.cred.flavor, .string ⟨X.cred.body.toArray⟩, .int .i64 X.verf.flavor, .string ⟨X.verf.body.toArray⟩, .string ⟨X.args.toArray⟩] 25) := HKX_wz3.out.below hB HKX_wz3.out.lt
  clear HKX_wz3
  have HE_wz4 := hid (HE_wz3.out.below hB)
  have HB_wz4 : Hid (Below w.heap.size w wz4) := HB_wz3.out.trans (hB.mono HB_wz3.out.size)
  clear hB
  clear r0 r1 r2 r3 r4 r5 r6 r7 r8 r9
  clear HKR_wz4
  obtain ⟨wz5, hwz5⟩ : ∃ x, wz4.alloc (.cells #[.int .i64 Y.xid, .bool Y.denied, .int .i64 Y.verf.flavor, .string ⟨Y.verf.body.toArray⟩, .int .i64 Y.accept, .int .i64 Y.reject, .int .i64 Y.why, .int .i64 Y.low, .int .i64 Y.high, .string ⟨Y.results.toArray⟩] 27) = x := ⟨_, rfl⟩
  obtain ⟨hk, hB, hz⟩ := boxed wz4 wz5 _ _ hwz5
  have HKX_wz5 : Hid (Bk wz5 wz2.heap.size [.int .i64 X.xid, .int .i64 X.rpc, .int .i64 X.prog, .int .i64 X.vers, .int .i64 X.proc, .int .i64 X.cred.flavor, .string ⟨X.cred.body.toArray⟩, .int .i64 X.verf.flavor, .string ⟨X.verf.body.toArray⟩, .string ⟨X.args.toArray⟩] 25) := HKX_wz4.out.below hB HKX_wz4.out.lt
  clear HKX_wz4
  have HE_wz5 := hid (HE_wz4.out.below hB)
  have HB_wz5 : Hid (Below w.heap.size w wz5) := HB_wz4.out.trans (hB.mono HB_wz4.out.size)
  have HKY_wz5 : Hid (Bk wz5 wz4.heap.size [.int .i64 Y.xid, .bool Y.denied, .int .i64 Y.verf.flavor, .string ⟨Y.verf.body.toArray⟩, .int .i64 Y.accept, .int .i64 Y.reject, .int .i64 Y.why, .int .i64 Y.low, .int .i64 Y.high, .string ⟨Y.results.toArray⟩] 27) := hk
  clear hk hB hz
  have x0 := HKX_wz5.out.cell 0 rfl
  have x1 := HKX_wz5.out.cell 1 rfl
  have x2 := HKX_wz5.out.cell 2 rfl
  have x3 := HKX_wz5.out.cell 3 rfl
  have x4 := HKX_wz5.out.cell 4 rfl
  have x5 := HKX_wz5.out.cell 5 rfl
  have x6 := HKX_wz5.out.cell 6 rfl
  have x7 := HKX_wz5.out.cell 7 rfl
  have x8 := HKX_wz5.out.cell 8 rfl
  have x9 := HKX_wz5.out.cell 9 rfl
  go_wp2_with fail
  refine (HPC.out _ HE_wz5.out).mono ?_
  rintro e wz6 ⟨rfl, hB⟩
  have HKX_wz6 : Hid (Bk wz6 wz2.heap.size [.int .i64 X.xid, .int .i64 X.rpc, .int .i64 X.prog, .int .i64 X.vers, .int .i64 X.proc, .int .i64 X.cred.flavor, .string ⟨X.cred.body.toArray⟩, .int .i64 X.verf.flavor, .string ⟨X.verf.body.toArray⟩, .string ⟨X.args.toArray⟩] 25) := HKX_wz5.out.below hB HKX_wz5.out.lt
  clear HKX_wz5
  have HKY_wz6 : Hid (Bk wz6 wz4.heap.size [.int .i64 Y.xid, .bool Y.denied, .int .i64 Y.verf.flavor, .string ⟨Y.verf.body.toArray⟩, .int .i64 Y.accept, .int .i64 Y.reject, .int .i64 Y.why, .int .i64 Y.low, .int .i64 Y.high, .string ⟨Y.results.toArray⟩] 27) := HKY_wz5.out.below hB HKY_wz5.out.lt
  clear HKY_wz5
  have HE_wz6 := hid (HE_wz5.out.below hB)
  have HB_wz6 : Hid (Below w.heap.size w wz6) := HB_wz5.out.trans (hB.mono HB_wz5.out.size)
  clear hB
  clear x0 x1 x2 x3 x4 x5 x6 x7 x8 x9
  have y0 := HKY_wz6.out.cell 0 rfl
  have y1 := HKY_wz6.out.cell 1 rfl
  have y2 := HKY_wz6.out.cell 2 rfl
  have y3 := HKY_wz6.out.cell 3 rfl
  have y4 := HKY_wz6.out.cell 4 rfl
  have y5 := HKY_wz6.out.cell 5 rfl
  have y6 := HKY_wz6.out.cell 6 rfl
  have y7 := HKY_wz6.out.cell 7 rfl
  have y8 := HKY_wz6.out.cell 8 rfl
  have y9 := HKY_wz6.out.cell 9 rfl
  go_wp2_with fail
  refine (HPR.out _ HE_wz6.out).mono ?_
  rintro e wz7 ⟨rfl, hB⟩
  have HKX_wz7 : Hid (Bk wz7 wz2.heap.size [.int .i64 X.xid, .int .i64 X.rpc, .int .i64 X.prog, .int .i64 X.vers, .int .i64 X.proc, .int .i64 X.cred.flavor, .string ⟨X.cred.body.toArray⟩, .int .i64 X.verf.flavor, .string ⟨X.verf.body.toArray⟩, .string ⟨X.args.toArray⟩] 25) := HKX_wz6.out.below hB HKX_wz6.out.lt
  clear HKX_wz6
  have HKY_wz7 : Hid (Bk wz7 wz4.heap.size [.int .i64 Y.xid, .bool Y.denied, .int .i64 Y.verf.flavor, .string ⟨Y.verf.body.toArray⟩, .int .i64 Y.accept, .int .i64 Y.reject, .int .i64 Y.why, .int .i64 Y.low, .int .i64 Y.high, .string ⟨Y.results.toArray⟩] 27) := HKY_wz6.out.below hB HKY_wz6.out.lt
  clear HKY_wz6
  have HE_wz7 := hid (HE_wz6.out.below hB)
  have HB_wz7 : Hid (Below w.heap.size w wz7) := HB_wz6.out.trans (hB.mono HB_wz6.out.size)
  clear hB
  clear y0 y1 y2 y3 y4 y5 y6 y7 y8 y9
  go_wp2_with fail
  refine (HAC.out _ HE_wz7.out).mono ?_
  rintro e wz8 ⟨rfl, hB⟩
  have HKX_wz8 : Hid (Bk wz8 wz2.heap.size [.int .i64 X.xid, .int .i64 X.rpc, .int .i64 X.prog, .int .i64 X.vers, .int .i64 X.proc, .int .i64 X.cred.flavor, .string ⟨X.cred.body.toArray⟩, .int .i64 X.verf.flavor, .string ⟨X.verf.body.toArray⟩, .string ⟨X.args.toArray⟩] 25) := HKX_wz7.out.below hB HKX_wz7.out.lt
  clear HKX_wz7
  have HKY_wz8 : Hid (Bk wz8 wz4.heap.size [.int .i64 Y.xid, .bool Y.denied, .int .i64 Y.verf.flavor, .string ⟨Y.verf.body.toArray⟩, .int .i64 Y.accept, .int .i64 Y.reject, .int .i64 Y.why, .int .i64 Y.low, .int .i64 Y.high, .string ⟨Y.results.toArray⟩] 27) := HKY_wz7.out.below hB HKY_wz7.out.lt
  clear HKY_wz7
  have HE_wz8 := hid (HE_wz7.out.below hB)
  have HB_wz8 : Hid (Below w.heap.size w wz8) := HB_wz7.out.trans (hB.mono HB_wz7.out.size)
  clear hB
  obtain ⟨wz9, hwz9⟩ : ∃ x, wz8.alloc (.cells #[.int .i64 X.xid, .int .i64 X.rpc, .int .i64 X.prog, .int .i64 X.vers, .int .i64 X.proc, .int .i64 X.cred.flavor, .string ⟨X.cred.body.toArray⟩, .int .i64 X.verf.flavor, .string ⟨X.verf.body.toArray⟩, .string ⟨X.args.toArray⟩] 25) = x := ⟨_, rfl⟩
  obtain ⟨hk, hB, hz⟩ := boxed wz8 wz9 _ _ hwz9
  have HKX_wz9 : Hid (Bk wz9 wz2.heap.size [.int .i64 X.xid, .int .i64 X.rpc, .int .i64 X.prog, .int .i64 X.vers, .int .i64 X.proc, .int .i64 X.cred.flavor, .string ⟨X.cred.body.toArray⟩, .int .i64 X.verf.flavor, .string ⟨X.verf.body.toArray⟩, .string ⟨X.args.toArray⟩] 25) := HKX_wz8.out.below hB HKX_wz8.out.lt
  clear HKX_wz8
  have HKY_wz9 : Hid (Bk wz9 wz4.heap.size [.int .i64 Y.xid, .bool Y.denied, .int .i64 Y.verf.flavor, .string ⟨Y.verf.body.toArray⟩, .int .i64 Y.accept, .int .i64 Y.reject, .int .i64 Y.why, .int .i64 Y.low, .int .i64 Y.high, .string ⟨Y.results.toArray⟩] 27) := HKY_wz8.out.below hB HKY_wz8.out.lt
  clear HKY_wz8
  have HE_wz9 := hid (HE_wz8.out.below hB)
  have HB_wz9 : Hid (Below w.heap.size w wz9) := HB_wz8.out.trans (hB.mono HB_wz8.out.size)
  have HKD_wz9 : Hid (Bk wz9 wz8.heap.size [.int .i64 X.xid, .int .i64 X.rpc, .int .i64 X.prog, .int .i64 X.vers, .int .i64 X.proc, .int .i64 X.cred.flavor, .string ⟨X.cred.body.toArray⟩, .int .i64 X.verf.flavor, .string ⟨X.verf.body.toArray⟩, .string ⟨X.args.toArray⟩] 25) := hk
  clear hk hB hz
  go_wp2_with fail
  refine (HAR.out _ HE_wz9.out).mono ?_
  rintro e wz10 ⟨rfl, hB⟩
  have HKX_wz10 : Hid (Bk wz10 wz2.heap.size [.int .i64 X.xid, .int .i64 X.rpc, .int .i64 X.prog, .int .i64 X.vers, .int .i64 X.proc, .int .i64 X.cred.flavor, .string ⟨X.cred.body.toArray⟩, .int .i64 X.verf.flavor, .string ⟨X.verf.body.toArray⟩, .string ⟨X.args.toArray⟩] 25) := HKX_wz9.out.below hB HKX_wz9.out.lt
  clear HKX_wz9
  have HKY_wz10 : Hid (Bk wz10 wz4.heap.size [.int .i64 Y.xid, .bool Y.denied, .int .i64 Y.verf.flavor, .string ⟨Y.verf.body.toArray⟩, .int .i64 Y.accept, .int .i64 Y.reject, .int .i64 Y.why, .int .i64 Y.low, .int .i64 Y.high, .string ⟨Y.results.toArray⟩] 27) := HKY_wz9.out.below hB HKY_wz9.out.lt
  clear HKY_wz9
  have HKD_wz10 : Hid (Bk wz10 wz8.heap.size [.int .i64 X.xid, .int .i64 X.rpc, .int .i64 X.prog, .int .i64 X.vers, .int .i64 X.proc, .int .i64 X.cred.flavor, .string ⟨X.cred.body.toArray⟩, .int .i64 X.verf.flavor, .string ⟨X.verf.body.toArray⟩, .string ⟨X.args.toArray⟩] 25) := HKD_wz9.out.below hB HKD_wz9.out.lt
  clear HKD_wz9
  have HE_wz10 := hid (HE_wz9.out.below hB)
  have HB_wz10 : Hid (Below w.heap.size w wz10) := HB_wz9.out.trans (hB.mono HB_wz9.out.size)
  clear hB
  obtain ⟨wz11, hwz11⟩ : ∃ x, wz10.alloc (.cells #[.int .i64 Y.xid, .bool Y.denied, .int .i64 Y.verf.flavor, .string ⟨Y.verf.body.toArray⟩, .int .i64 Y.accept, .int .i64 Y.reject, .int .i64 Y.why, .int .i64 Y.low, .int .i64 Y.high, .string ⟨Y.results.toArray⟩] 27) = x := ⟨_, rfl⟩
  obtain ⟨hk, hB, hz⟩ := boxed wz10 wz11 _ _ hwz11
  have HKX_wz11 : Hid (Bk wz11 wz2.heap.size [.int .i64 X.xid, .int .i64 X.rpc, .int .i64 X.prog, .int .i64 X.vers, .int .i64 X.proc, .int .i64 X.cred.flavor, .string ⟨X.cred.body.toArray⟩, .int .i64 X.verf.flavor, .string ⟨X.verf.body.toArray⟩, .string ⟨X.args.toArray⟩] 25) := HKX_wz10.out.below hB HKX_wz10.out.lt
  clear HKX_wz10
  have HKY_wz11 : Hid (Bk wz11 wz4.heap.size [.int .i64 Y.xid, .bool Y.denied, .int .i64 Y.verf.flavor, .string ⟨Y.verf.body.toArray⟩, .int .i64 Y.accept, .int .i64 Y.reject, .int .i64 Y.why, .int .i64 Y.low, .int .i64 Y.high, .string ⟨Y.results.toArray⟩] 27) := HKY_wz10.out.below hB HKY_wz10.out.lt
  clear HKY_wz10
  have HKD_wz11 : Hid (Bk wz11 wz8.heap.size [.int .i64 X.xid, .int .i64 X.rpc, .int .i64 X.prog, .int .i64 X.vers, .int .i64 X.proc, .int .i64 X.cred.flavor, .string ⟨X.cred.body.toArray⟩, .int .i64 X.verf.flavor, .string ⟨X.verf.body.toArray⟩, .string ⟨X.args.toArray⟩] 25) := HKD_wz10.out.below hB HKD_wz10.out.lt
  clear HKD_wz10
  have HE_wz11 := hid (HE_wz10.out.below hB)
  have HB_wz11 : Hid (Below w.heap.size w wz11) := HB_wz10.out.trans (hB.mono HB_wz10.out.size)
  have HKQ_wz11 : Hid (Bk wz11 wz10.heap.size [.int .i64 Y.xid, .bool Y.denied, .int .i64 Y.verf.flavor, .string ⟨Y.verf.body.toArray⟩, .int .i64 Y.accept, .int .i64 Y.reject, .int .i64 Y.why, .int .i64 Y.low, .int .i64 Y.high, .string ⟨Y.results.toArray⟩] 27) := hk
  clear hk hB hz
  go_wp2_with fail
  refine (HBR.out _ HE_wz11.out).mono ?_
  rintro e wz12 ⟨rfl, hB⟩
  have HKX_wz12 : Hid (Bk wz12 wz2.heap.size [.int .i64 X.xid, .int .i64 X.rpc, .int .i64 X.prog, .int .i64 X.vers, .int .i64 X.proc, .int .i64 X.cred.flavor, .string ⟨X.cred.body.toArray⟩, .int .i64 X.verf.flavor, .string ⟨X.verf.body.toArray⟩, .string ⟨X.args.toArray⟩] 25) := HKX_wz11.out.below hB HKX_wz11.out.lt
  clear HKX_wz11
  have HKY_wz12 : Hid (Bk wz12 wz4.heap.size [.int .i64 Y.xid, .bool Y.denied, .int .i64 Y.verf.flavor, .string ⟨Y.verf.body.toArray⟩, .int .i64 Y.accept, .int .i64 Y.reject, .int .i64 Y.why, .int .i64 Y.low, .int .i64 Y.high, .string ⟨Y.results.toArray⟩] 27) := HKY_wz11.out.below hB HKY_wz11.out.lt
  clear HKY_wz11
  have HKD_wz12 : Hid (Bk wz12 wz8.heap.size [.int .i64 X.xid, .int .i64 X.rpc, .int .i64 X.prog, .int .i64 X.vers, .int .i64 X.proc, .int .i64 X.cred.flavor, .string ⟨X.cred.body.toArray⟩, .int .i64 X.verf.flavor, .string ⟨X.verf.body.toArray⟩, .string ⟨X.args.toArray⟩] 25) := HKD_wz11.out.below hB HKD_wz11.out.lt
  clear HKD_wz11
  have HKQ_wz12 : Hid (Bk wz12 wz10.heap.size [.int .i64 Y.xid, .bool Y.denied, .int .i64 Y.verf.flavor, .string ⟨Y.verf.body.toArray⟩, .int .i64 Y.accept, .int .i64 Y.reject, .int .i64 Y.why, .int .i64 Y.low, .int .i64 Y.high, .string ⟨Y.results.toArray⟩] 27) := HKQ_wz11.out.below hB HKQ_wz11.out.lt
  clear HKQ_wz11
  have HE_wz12 := hid (HE_wz11.out.below hB)
  have HB_wz12 : Hid (Below w.heap.size w wz12) := HB_wz11.out.trans (hB.mono HB_wz11.out.size)
  clear hB
  obtain ⟨wz13, hwz13⟩ : ∃ x, wz12.alloc (.cells #[.int .i64 NR.xid, .bool NR.denied, .int .i64 NR.verf.flavor, .string ⟨NR.verf.body.toArray⟩, .int .i64 NR.accept, .int .i64 NR.reject, .int .i64 NR.why, .int .i64 NR.low, .int .i64 NR.high, .string ⟨NR.results.toArray⟩] 27) = x := ⟨_, rfl⟩
  obtain ⟨hk, hB, hz⟩ := boxed wz12 wz13 _ _ hwz13
  have HKX_wz13 : Hid (Bk wz13 wz2.heap.size [.int .i64 X.xid, .int .i64 X.rpc, .int .i64 X.prog, .int .i64 X.vers, .int .i64 X.proc, .int .i64 X.cred.flavor, .string ⟨X.cred.body.toArray⟩, .int .i64 X.verf.flavor, .string ⟨X.verf.body.toArray⟩, .string ⟨X.args.toArray⟩] 25) := HKX_wz12.out.below hB HKX_wz12.out.lt
  clear HKX_wz12
  have HKY_wz13 : Hid (Bk wz13 wz4.heap.size [.int .i64 Y.xid, .bool Y.denied, .int .i64 Y.verf.flavor, .string ⟨Y.verf.body.toArray⟩, .int .i64 Y.accept, .int .i64 Y.reject, .int .i64 Y.why, .int .i64 Y.low, .int .i64 Y.high, .string ⟨Y.results.toArray⟩] 27) := HKY_wz12.out.below hB HKY_wz12.out.lt
  clear HKY_wz12
  have HKD_wz13 : Hid (Bk wz13 wz8.heap.size [.int .i64 X.xid, .int .i64 X.rpc, .int .i64 X.prog, .int .i64 X.vers, .int .i64 X.proc, .int .i64 X.cred.flavor, .string ⟨X.cred.body.toArray⟩, .int .i64 X.verf.flavor, .string ⟨X.verf.body.toArray⟩, .string ⟨X.args.toArray⟩] 25) := HKD_wz12.out.below hB HKD_wz12.out.lt
  clear HKD_wz12
  have HKQ_wz13 : Hid (Bk wz13 wz10.heap.size [.int .i64 Y.xid, .bool Y.denied, .int .i64 Y.verf.flavor, .string ⟨Y.verf.body.toArray⟩, .int .i64 Y.accept, .int .i64 Y.reject, .int .i64 Y.why, .int .i64 Y.low, .int .i64 Y.high, .string ⟨Y.results.toArray⟩] 27) := HKQ_wz12.out.below hB HKQ_wz12.out.lt
  clear HKQ_wz12
  have HE_wz13 := hid (HE_wz12.out.below hB)
  have HB_wz13 : Hid (Below w.heap.size w wz13) := HB_wz12.out.trans (hB.mono HB_wz12.out.size)
  have HKE_wz13 : Hid (Bk wz13 wz12.heap.size [.int .i64 NR.xid, .bool NR.denied, .int .i64 NR.verf.flavor, .string ⟨NR.verf.body.toArray⟩, .int .i64 NR.accept, .int .i64 NR.reject, .int .i64 NR.why, .int .i64 NR.low, .int .i64 NR.high, .string ⟨NR.results.toArray⟩] 27) := hk
  clear hk hB hz
  clear HKE_wz13
  go_wp2_with fail
  refine (HBC.out _ HE_wz13.out).mono ?_
  rintro e wz14 ⟨rfl, hB⟩
  have HKX_wz14 : Hid (Bk wz14 wz2.heap.size [.int .i64 X.xid, .int .i64 X.rpc, .int .i64 X.prog, .int .i64 X.vers, .int .i64 X.proc, .int .i64 X.cred.flavor, .string ⟨X.cred.body.toArray⟩, .int .i64 X.verf.flavor, .string ⟨X.verf.body.toArray⟩, .string ⟨X.args.toArray⟩] 25) := HKX_wz13.out.below hB HKX_wz13.out.lt
  clear HKX_wz13
  have HKY_wz14 : Hid (Bk wz14 wz4.heap.size [.int .i64 Y.xid, .bool Y.denied, .int .i64 Y.verf.flavor, .string ⟨Y.verf.body.toArray⟩, .int .i64 Y.accept, .int .i64 Y.reject, .int .i64 Y.why, .int .i64 Y.low, .int .i64 Y.high, .string ⟨Y.results.toArray⟩] 27) := HKY_wz13.out.below hB HKY_wz13.out.lt
  clear HKY_wz13
  have HKD_wz14 : Hid (Bk wz14 wz8.heap.size [.int .i64 X.xid, .int .i64 X.rpc, .int .i64 X.prog, .int .i64 X.vers, .int .i64 X.proc, .int .i64 X.cred.flavor, .string ⟨X.cred.body.toArray⟩, .int .i64 X.verf.flavor, .string ⟨X.verf.body.toArray⟩, .string ⟨X.args.toArray⟩] 25) := HKD_wz13.out.below hB HKD_wz13.out.lt
  clear HKD_wz13
  have HKQ_wz14 : Hid (Bk wz14 wz10.heap.size [.int .i64 Y.xid, .bool Y.denied, .int .i64 Y.verf.flavor, .string ⟨Y.verf.body.toArray⟩, .int .i64 Y.accept, .int .i64 Y.reject, .int .i64 Y.why, .int .i64 Y.low, .int .i64 Y.high, .string ⟨Y.results.toArray⟩] 27) := HKQ_wz13.out.below hB HKQ_wz13.out.lt
  clear HKQ_wz13
  have HE_wz14 := hid (HE_wz13.out.below hB)
  have HB_wz14 : Hid (Below w.heap.size w wz14) := HB_wz13.out.trans (hB.mono HB_wz13.out.size)
  clear hB
  obtain ⟨wz15, hwz15⟩ : ∃ x, wz14.alloc (.cells #[.int .i64 NC.xid, .int .i64 NC.rpc, .int .i64 NC.prog, .int .i64 NC.vers, .int .i64 NC.proc, .int .i64 NC.cred.flavor, .string ⟨NC.cred.body.toArray⟩, .int .i64 NC.verf.flavor, .string ⟨NC.verf.body.toArray⟩, .string ⟨NC.args.toArray⟩] 25) = x := ⟨_, rfl⟩
  obtain ⟨hk, hB, hz⟩ := boxed wz14 wz15 _ _ hwz15
  have HKX_wz15 : Hid (Bk wz15 wz2.heap.size [.int .i64 X.xid, .int .i64 X.rpc, .int .i64 X.prog, .int .i64 X.vers, .int .i64 X.proc, .int .i64 X.cred.flavor, .string ⟨X.cred.body.toArray⟩, .int .i64 X.verf.flavor, .string ⟨X.verf.body.toArray⟩, .string ⟨X.args.toArray⟩] 25) := HKX_wz14.out.below hB HKX_wz14.out.lt
  clear HKX_wz14
  have HKY_wz15 : Hid (Bk wz15 wz4.heap.size [.int .i64 Y.xid, .bool Y.denied, .int .i64 Y.verf.flavor, .string ⟨Y.verf.body.toArray⟩, .int .i64 Y.accept, .int .i64 Y.reject, .int .i64 Y.why, .int .i64 Y.low, .int .i64 Y.high, .string ⟨Y.results.toArray⟩] 27) := HKY_wz14.out.below hB HKY_wz14.out.lt
  clear HKY_wz14
  have HKD_wz15 : Hid (Bk wz15 wz8.heap.size [.int .i64 X.xid, .int .i64 X.rpc, .int .i64 X.prog, .int .i64 X.vers, .int .i64 X.proc, .int .i64 X.cred.flavor, .string ⟨X.cred.body.toArray⟩, .int .i64 X.verf.flavor, .string ⟨X.verf.body.toArray⟩, .string ⟨X.args.toArray⟩] 25) := HKD_wz14.out.below hB HKD_wz14.out.lt
  clear HKD_wz14
  have HKQ_wz15 : Hid (Bk wz15 wz10.heap.size [.int .i64 Y.xid, .bool Y.denied, .int .i64 Y.verf.flavor, .string ⟨Y.verf.body.toArray⟩, .int .i64 Y.accept, .int .i64 Y.reject, .int .i64 Y.why, .int .i64 Y.low, .int .i64 Y.high, .string ⟨Y.results.toArray⟩] 27) := HKQ_wz14.out.below hB HKQ_wz14.out.lt
  clear HKQ_wz14
  have HE_wz15 := hid (HE_wz14.out.below hB)
  have HB_wz15 : Hid (Below w.heap.size w wz15) := HB_wz14.out.trans (hB.mono HB_wz14.out.size)
  have HKF_wz15 : Hid (Bk wz15 wz14.heap.size [.int .i64 NC.xid, .int .i64 NC.rpc, .int .i64 NC.prog, .int .i64 NC.vers, .int .i64 NC.proc, .int .i64 NC.cred.flavor, .string ⟨NC.cred.body.toArray⟩, .int .i64 NC.verf.flavor, .string ⟨NC.verf.body.toArray⟩, .string ⟨NC.args.toArray⟩] 25) := hk
  clear hk hB hz
  clear HKF_wz15
  have d0 := HKD_wz15.out.cell 0 rfl
  have d1 := HKD_wz15.out.cell 1 rfl
  have d2 := HKD_wz15.out.cell 2 rfl
  have d3 := HKD_wz15.out.cell 3 rfl
  have d4 := HKD_wz15.out.cell 4 rfl
  have d5 := HKD_wz15.out.cell 5 rfl
  have d6 := HKD_wz15.out.cell 6 rfl
  have d7 := HKD_wz15.out.cell 7 rfl
  have d8 := HKD_wz15.out.cell 8 rfl
  have d9 := HKD_wz15.out.cell 9 rfl
  have x0 := HKX_wz15.out.cell 0 rfl
  have x1 := HKX_wz15.out.cell 1 rfl
  have x2 := HKX_wz15.out.cell 2 rfl
  have x3 := HKX_wz15.out.cell 3 rfl
  have x4 := HKX_wz15.out.cell 4 rfl
  have x5 := HKX_wz15.out.cell 5 rfl
  have x6 := HKX_wz15.out.cell 6 rfl
  have x7 := HKX_wz15.out.cell 7 rfl
  have x8 := HKX_wz15.out.cell 8 rfl
  have x9 := HKX_wz15.out.cell 9 rfl
  have q0 := HKQ_wz15.out.cell 0 rfl
  have q1 := HKQ_wz15.out.cell 1 rfl
  have q2 := HKQ_wz15.out.cell 2 rfl
  have q3 := HKQ_wz15.out.cell 3 rfl
  have q4 := HKQ_wz15.out.cell 4 rfl
  have q5 := HKQ_wz15.out.cell 5 rfl
  have q6 := HKQ_wz15.out.cell 6 rfl
  have q7 := HKQ_wz15.out.cell 7 rfl
  have q8 := HKQ_wz15.out.cell 8 rfl
  have q9 := HKQ_wz15.out.cell 9 rfl
  have y0 := HKY_wz15.out.cell 0 rfl
  have y1 := HKY_wz15.out.cell 1 rfl
  have y2 := HKY_wz15.out.cell 2 rfl
  have y3 := HKY_wz15.out.cell 3 rfl
  have y4 := HKY_wz15.out.cell 4 rfl
  have y5 := HKY_wz15.out.cell 5 rfl
  have y6 := HKY_wz15.out.cell 6 rfl
  have y7 := HKY_wz15.out.cell 7 rfl
  have y8 := HKY_wz15.out.cell 8 rfl
  have y9 := HKY_wz15.out.cell 9 rfl
  go_wp2_with fail
  refine (HCC.out _ HE_wz15.out).mono ?_
  rintro e wz16 ⟨rfl, hB⟩
  have HKX_wz16 : Hid (Bk wz16 wz2.heap.size [.int .i64 X.xid, .int .i64 X.rpc, .int .i64 X.prog, .int .i64 X.vers, .int .i64 X.proc, .int .i64 X.cred.flavor, .string ⟨X.cred.body.toArray⟩, .int .i64 X.verf.flavor, .string ⟨X.verf.body.toArray⟩, .string ⟨X.args.toArray⟩] 25) := HKX_wz15.out.below hB HKX_wz15.out.lt
  clear HKX_wz15
  have HKY_wz16 : Hid (Bk wz16 wz4.heap.size [.int .i64 Y.xid, .bool Y.denied, .int .i64 Y.verf.flavor, .string ⟨Y.verf.body.toArray⟩, .int .i64 Y.accept, .int .i64 Y.reject, .int .i64 Y.why, .int .i64 Y.low, .int .i64 Y.high, .string ⟨Y.results.toArray⟩] 27) := HKY_wz15.out.below hB HKY_wz15.out.lt
  clear HKY_wz15
  have HKD_wz16 : Hid (Bk wz16 wz8.heap.size [.int .i64 X.xid, .int .i64 X.rpc, .int .i64 X.prog, .int .i64 X.vers, .int .i64 X.proc, .int .i64 X.cred.flavor, .string ⟨X.cred.body.toArray⟩, .int .i64 X.verf.flavor, .string ⟨X.verf.body.toArray⟩, .string ⟨X.args.toArray⟩] 25) := HKD_wz15.out.below hB HKD_wz15.out.lt
  clear HKD_wz15
  have HKQ_wz16 : Hid (Bk wz16 wz10.heap.size [.int .i64 Y.xid, .bool Y.denied, .int .i64 Y.verf.flavor, .string ⟨Y.verf.body.toArray⟩, .int .i64 Y.accept, .int .i64 Y.reject, .int .i64 Y.why, .int .i64 Y.low, .int .i64 Y.high, .string ⟨Y.results.toArray⟩] 27) := HKQ_wz15.out.below hB HKQ_wz15.out.lt
  clear HKQ_wz15
  have HE_wz16 := hid (HE_wz15.out.below hB)
  have HB_wz16 : Hid (Below w.heap.size w wz16) := HB_wz15.out.trans (hB.mono HB_wz15.out.size)
  clear hB
  clear d0 d1 d2 d3 d4 d5 d6 d7 d8 d9
  clear x0 x1 x2 x3 x4 x5 x6 x7 x8 x9
  clear q0 q1 q2 q3 q4 q5 q6 q7 q8 q9
  clear y0 y1 y2 y3 y4 y5 y6 y7 y8 y9
  clear HKD_wz16
  clear HKX_wz16
  clear HKQ_wz16
  clear HKY_wz16
  obtain ⟨wz17, hwz17⟩ : ∃ x, wz16.alloc (.cells #[.int .i64 A.xid, .int .i64 A.rpc, .int .i64 A.prog, .int .i64 A.vers, .int .i64 A.proc, .int .i64 A.cred.flavor, .string ⟨A.cred.body.toArray⟩, .int .i64 A.verf.flavor, .string ⟨A.verf.body.toArray⟩, .string ⟨A.args.toArray⟩] 25) = x := ⟨_, rfl⟩
  obtain ⟨hk, hB, hz⟩ := boxed wz16 wz17 _ _ hwz17
  have HE_wz17 := hid (HE_wz16.out.below hB)
  have HB_wz17 : Hid (Below w.heap.size w wz17) := HB_wz16.out.trans (hB.mono HB_wz16.out.size)
  have HKA_wz17 : Hid (Bk wz17 wz16.heap.size [.int .i64 A.xid, .int .i64 A.rpc, .int .i64 A.prog, .int .i64 A.vers, .int .i64 A.proc, .int .i64 A.cred.flavor, .string ⟨A.cred.body.toArray⟩, .int .i64 A.verf.flavor, .string ⟨A.verf.body.toArray⟩, .string ⟨A.args.toArray⟩] 25) := hk
  clear hk hB hz
  go_wp2_with fail
  refine (HCR.out _ HE_wz17.out).mono ?_
  rintro e wz18 ⟨rfl, hB⟩
  have HKA_wz18 : Hid (Bk wz18 wz16.heap.size [.int .i64 A.xid, .int .i64 A.rpc, .int .i64 A.prog, .int .i64 A.vers, .int .i64 A.proc, .int .i64 A.cred.flavor, .string ⟨A.cred.body.toArray⟩, .int .i64 A.verf.flavor, .string ⟨A.verf.body.toArray⟩, .string ⟨A.args.toArray⟩] 25) := HKA_wz17.out.below hB HKA_wz17.out.lt
  clear HKA_wz17
  have HE_wz18 := hid (HE_wz17.out.below hB)
  have HB_wz18 : Hid (Below w.heap.size w wz18) := HB_wz17.out.trans (hB.mono HB_wz17.out.size)
  clear hB
  obtain ⟨wz19, hwz19⟩ : ∃ x, wz18.alloc (.cells #[.int .i64 B.xid, .bool B.denied, .int .i64 B.verf.flavor, .string ⟨B.verf.body.toArray⟩, .int .i64 B.accept, .int .i64 B.reject, .int .i64 B.why, .int .i64 B.low, .int .i64 B.high, .string ⟨B.results.toArray⟩] 27) = x := ⟨_, rfl⟩
  obtain ⟨hk, hB, hz⟩ := boxed wz18 wz19 _ _ hwz19
  have HKA_wz19 : Hid (Bk wz19 wz16.heap.size [.int .i64 A.xid, .int .i64 A.rpc, .int .i64 A.prog, .int .i64 A.vers, .int .i64 A.proc, .int .i64 A.cred.flavor, .string ⟨A.cred.body.toArray⟩, .int .i64 A.verf.flavor, .string ⟨A.verf.body.toArray⟩, .string ⟨A.args.toArray⟩] 25) := HKA_wz18.out.below hB HKA_wz18.out.lt
  clear HKA_wz18
  have HE_wz19 := hid (HE_wz18.out.below hB)
  have HB_wz19 : Hid (Below w.heap.size w wz19) := HB_wz18.out.trans (hB.mono HB_wz18.out.size)
  have HKB_wz19 : Hid (Bk wz19 wz18.heap.size [.int .i64 B.xid, .bool B.denied, .int .i64 B.verf.flavor, .string ⟨B.verf.body.toArray⟩, .int .i64 B.accept, .int .i64 B.reject, .int .i64 B.why, .int .i64 B.low, .int .i64 B.high, .string ⟨B.results.toArray⟩] 27) := hk
  clear hk hB hz
  have a0 := HKA_wz19.out.cell 0 rfl
  have a1 := HKA_wz19.out.cell 1 rfl
  have a2 := HKA_wz19.out.cell 2 rfl
  have a3 := HKA_wz19.out.cell 3 rfl
  have a4 := HKA_wz19.out.cell 4 rfl
  have a5 := HKA_wz19.out.cell 5 rfl
  have a6 := HKA_wz19.out.cell 6 rfl
  have a7 := HKA_wz19.out.cell 7 rfl
  have a8 := HKA_wz19.out.cell 8 rfl
  have a9 := HKA_wz19.out.cell 9 rfl
  have b0 := HKB_wz19.out.cell 0 rfl
  have b1 := HKB_wz19.out.cell 1 rfl
  have b2 := HKB_wz19.out.cell 2 rfl
  have b3 := HKB_wz19.out.cell 3 rfl
  have b4 := HKB_wz19.out.cell 4 rfl
  have b5 := HKB_wz19.out.cell 5 rfl
  have b6 := HKB_wz19.out.cell 6 rfl
  have b7 := HKB_wz19.out.cell 7 rfl
  have b8 := HKB_wz19.out.cell 8 rfl
  have b9 := HKB_wz19.out.cell 9 rfl
  cases HWH.out with
  | call h1 h2 hB0 h3 h4 h5 =>
    subst h1
    subst h2
    have nqB : ∀ w : World, (binOp .neq 27 (.agg #[.int .i64 B.xid, .bool B.denied, .int .i64 B.verf.flavor, .string ⟨B.verf.body.toArray⟩, .int .i64 B.accept, .int .i64 B.reject, .int .i64 B.why, .int .i64 B.low, .int .i64 B.high, .string ⟨B.results.toArray⟩]) (.agg #[.int .i64 0, .bool false, .int .i64 0, .string ⟨#[]⟩, .int .i64 0, .int .i64 0, .int .i64 0, .int .i64 0, .int .i64 0, .string ⟨#[]⟩])).run Tryd.prog w = .ok (.bool false) w := fun w => by have := neqR w B; rw [hB0] at this ⊢; exact this
    have r2 : (A.rpc == 2) = true := beq_iff_eq.2 h3
    have HPA : Hid (∀ w, ErrT w → Calls Tryd.prog 8 #[.agg #[.int .i64 A.xid, .int .i64 A.rpc, .int .i64 A.prog, .int .i64 A.vers, .int .i64 A.proc, .int .i64 A.cred.flavor, .string ⟨A.cred.body.toArray⟩, .int .i64 A.verf.flavor, .string ⟨A.verf.body.toArray⟩, .string ⟨A.args.toArray⟩]] w fun e w' => e = .returned (.tuple #[.string ⟨s.toArray⟩, .int .i64 0]) ∧ Below w.heap.size w w') := fun w h => by
      have := printCall_any A w h (Nat.le_trans h4.2.2.2.2.2.2.2.1 (by decide))
      rw [pc_may h4, h5] at this
      exact this
    clear h3 h4 h5 hB0
    generalize (⟨s.toArray⟩ : ByteArray) = SS at *
    go_wp2_with fail
    refine (HPA.out _ HE_wz19.out).mono ?_
    rintro e wl ⟨rfl, hBl⟩
    have HBl : Hid (Below w.heap.size w wl) := HB_wz19.out.trans (hBl.mono HB_wz19.out.size)
    clear hBl
    go_wp2
    go_ret
    exact ⟨rfl, HBl.out⟩
  | other h1 h2 hB0 h3 =>
    subst h1
    subst h2
    have nqB : ∀ w : World, (binOp .neq 27 (.agg #[.int .i64 B.xid, .bool B.denied, .int .i64 B.verf.flavor, .string ⟨B.verf.body.toArray⟩, .int .i64 B.accept, .int .i64 B.reject, .int .i64 B.why, .int .i64 B.low, .int .i64 B.high, .string ⟨B.results.toArray⟩]) (.agg #[.int .i64 0, .bool false, .int .i64 0, .string ⟨#[]⟩, .int .i64 0, .int .i64 0, .int .i64 0, .int .i64 0, .int .i64 0, .string ⟨#[]⟩])).run Tryd.prog w = .ok (.bool false) w := fun w => by have := neqR w B; rw [hB0] at this ⊢; exact this
    have r2 : (A.rpc == 2) = false := beq_eq_false_iff_ne.2 h3
    clear h3 hB0
    go_wp2
    go_ret
    exact ⟨rfl, HB_wz19.out⟩
  | reply h1 h2 h3 h4 h5 =>
    subst h1
    subst h3
    have nqA : ∀ w : World, (binOp .neq 25 (.agg #[.int .i64 A.xid, .int .i64 A.rpc, .int .i64 A.prog, .int .i64 A.vers, .int .i64 A.proc, .int .i64 A.cred.flavor, .string ⟨A.cred.body.toArray⟩, .int .i64 A.verf.flavor, .string ⟨A.verf.body.toArray⟩, .string ⟨A.args.toArray⟩]) (.agg #[.int .i64 0, .int .i64 0, .int .i64 0, .int .i64 0, .int .i64 0, .int .i64 0, .string ⟨#[]⟩, .int .i64 0, .string ⟨#[]⟩, .string ⟨#[]⟩])).run Tryd.prog w = .ok (.bool false) w := fun w => by have := neqC w A; rw [h2] at this ⊢; exact this
    have HPA : Hid (∀ w, ErrT w → Calls Tryd.prog 9 #[.agg #[.int .i64 B.xid, .bool B.denied, .int .i64 B.verf.flavor, .string ⟨B.verf.body.toArray⟩, .int .i64 B.accept, .int .i64 B.reject, .int .i64 B.why, .int .i64 B.low, .int .i64 B.high, .string ⟨B.results.toArray⟩]] w fun e w' => e = .returned (.tuple #[.string ⟨s.toArray⟩, .int .i64 0]) ∧ Below w.heap.size w w') := fun w h => by
      have := printReply_any B w h (reply_len h4)
      rw [pr_may h4, h5] at this
      exact this
    clear h2 h4 h5
    generalize (⟨s.toArray⟩ : ByteArray) = SS at *
    go_wp2_with fail
    refine (HPA.out _ HE_wz19.out).mono ?_
    rintro e wl ⟨rfl, hBl⟩
    have HBl : Hid (Below w.heap.size w wl) := HB_wz19.out.trans (hBl.mono HB_wz19.out.size)
    clear hBl
    go_wp2
    go_ret
    exact ⟨rfl, HBl.out⟩
  | none h1 h2 h3 hB0 =>
    subst h1
    subst h3
    have nqA : ∀ w : World, (binOp .neq 25 (.agg #[.int .i64 A.xid, .int .i64 A.rpc, .int .i64 A.prog, .int .i64 A.vers, .int .i64 A.proc, .int .i64 A.cred.flavor, .string ⟨A.cred.body.toArray⟩, .int .i64 A.verf.flavor, .string ⟨A.verf.body.toArray⟩, .string ⟨A.args.toArray⟩]) (.agg #[.int .i64 0, .int .i64 0, .int .i64 0, .int .i64 0, .int .i64 0, .int .i64 0, .string ⟨#[]⟩, .int .i64 0, .string ⟨#[]⟩, .string ⟨#[]⟩])).run Tryd.prog w = .ok (.bool false) w := fun w => by have := neqC w A; rw [h2] at this ⊢; exact this
    have nqB : ∀ w : World, (binOp .neq 27 (.agg #[.int .i64 B.xid, .bool B.denied, .int .i64 B.verf.flavor, .string ⟨B.verf.body.toArray⟩, .int .i64 B.accept, .int .i64 B.reject, .int .i64 B.why, .int .i64 B.low, .int .i64 B.high, .string ⟨B.results.toArray⟩]) (.agg #[.int .i64 0, .bool false, .int .i64 0, .string ⟨#[]⟩, .int .i64 0, .int .i64 0, .int .i64 0, .int .i64 0, .int .i64 0, .string ⟨#[]⟩])).run Tryd.prog w = .ok (.bool false) w := fun w => by have := neqR w B; rw [hB0] at this ⊢; exact this
    clear h2 hB0
    go_wp2
    go_ret
    exact ⟨rfl, HB_wz19.out⟩
end Go.Proofs.YtfkggcinpklgmaaDoor
