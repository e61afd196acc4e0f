/- M2, M4: the arguments of a call, the results of a Success, may be others, and all else is read as it was; a call of another version tells two numbers. -/
import Derived.Test.YtfkggcinpklgmaaDoorPn
namespace Go.Proofs.YtfkggcinpklgmaaDoor
open Go.RowKit
theorem lay_args (X : CallP) (m : List UInt8) : CallP.lay ⟨X.xid, X.rpc, X.prog, X.vers, X.proc, X.cred, X.verf, []⟩ ++ m = CallP.lay ⟨X.xid, X.rpc, X.prog, X.vers, X.proc, X.cred, X.verf, m⟩ := by
  unfold CallP.lay
  simp only [List.append_assoc, List.nil_append]
theorem lay_res (x : Int) (v : AuthP) (m : List UInt8) : ReplyP.lay ⟨x, false, v, 0, 0, 0, [], 0, 0⟩ ++ m = ReplyP.lay ⟨x, false, v, 0, 0, 0, m, 0, 0⟩ := by
  unfold ReplyP.lay
  simp
theorem may_args {X : CallP} (h : X.may) {m : List UInt8} (hm : plainB m) : CallP.may ⟨X.xid, X.rpc, X.prog, X.vers, X.proc, X.cred, X.verf, m⟩ := ⟨h.1, h.2.1, h.2.2.1, h.2.2.2.1, h.2.2.2.2.1, h.2.2.2.2.2.1, h.2.2.2.2.2.2.1, hm⟩
theorem may_res {x : Int} {v : AuthP} (hx : isW x) (hv : v.may) {m : List UInt8} (hm : plainB m) : ReplyP.may ⟨x, false, v, 0, 0, 0, m, 0, 0⟩ := ⟨hx, hv, rfl, rfl, by simp, by simp, .inl ⟨rfl, hm, rfl, rfl⟩⟩
theorem plain_nil : plainB [] := ⟨by simp, rfl⟩
theorem z64 : In64 0 := ⟨by decide, by decide⟩
theorem isW_64 {n : Int} (h : isW n) : In64 n := ⟨by have := h.1; omega, by have := h.2; omega⟩
theorem tol_verf {r : ReplyP} (h : r.may) : In64 r.verf.flavor ∧ r.verf.body.length ≤ 140737488355328 := by
  obtain ⟨rx, rd, rv, ra, rl, rh, rr, rj, rw_⟩ := r
  obtain ⟨_, h2⟩ := h
  cases rd
  · simp only [Bool.false_eq_true, if_false] at h2
    exact ⟨isW_64 h2.1.1, Nat.le_trans h2.1.2 (by decide)⟩
  · simp only [if_true] at h2
    obtain ⟨rfl, _⟩ := h2
    exact ⟨z64, Nat.zero_le _⟩
theorem tol_plain (x : Int) (v : AuthP) : tolP ⟨x, false, v, 0, 0, 0, [], 0, 0⟩ = ⟨pickP x 4294967296, false, autP v, 0, 0, 0, [], 0, 0⟩ := rfl
theorem lay_eight (X : CallP) : X.lay.take 8 = nbL 4 X.xid.toNat ++ nbL 4 0 := by
  unfold CallP.lay
  rw [← List.append_assoc, List.take_left' (by simp [nbL_len])]
theorem lay_twelve (X : CallP) : 12 ≤ X.lay.length := by
  unfold CallP.lay
  simp only [List.length_append, nbL_len]
  omega
set_option maxRecDepth 4000 in
theorem heads_long (c : CallP) (r : ReplyP) (s : ByteArray) (ver : Int) (w : World) (h : 2147481647 < (s.size : Int)) :
    Calls Tryd.prog 4 #[.agg (callV c).toArray, .agg (replyV r).toArray, .string s, .int .i64 ver] w fun e w' => e = .returned (.bool true) ∧ Below w.heap.size w w' := by
  obtain ⟨wa, hwa⟩ : ∃ x, w.alloc (.cells (callV c).toArray 25) = x := ⟨_, rfl⟩
  obtain ⟨hk, hB, hz⟩ := boxed w wa _ _ hwa
  obtain ⟨wb, hwb⟩ : ∃ x, wa.alloc (.cells (replyV r).toArray 27) = x := ⟨_, rfl⟩
  obtain ⟨hk2, hB2, hz2⟩ := boxed wa wb _ _ hwb
  have HB : Hid (Below w.heap.size w wb) := hB.trans (hB2.mono (by omega))
  generalize (callV c).toArray = V1 at *
  generalize (replyV r).toArray = V2 at *
  clear hk hk2 hB hB2 hz hz2
  go_enter Tryd.func4, Tryd.ntmps4
  go_wp2
  go_ret
  exact ⟨rfl, HB.out⟩
set_option maxRecDepth 8000 in
set_option maxHeartbeats 8000000 in
theorem heads_short (c : CallP) (r : ReplyP) (more : List UInt8) (ver : Int) (w : World) (hT : ErrT w) (hc : Call64 c) (hr : Reply64 r) (hv : In64 ver) (hl : (more.length : Int) ≤ 2147481647) :
    Calls Tryd.prog 4 #[.agg (callV c).toArray, .agg (replyV r).toArray, .string ⟨more.toArray⟩, .int .i64 ver] w fun e w' => e = .returned (.bool true) ∧ Below w.heap.size w w' := by
  simp only [callV, replyV]
  obtain ⟨wa, hwa⟩ : ∃ x, w.alloc (.cells #[.int .i64 c.xid, .int .i64 c.rpc, .int .i64 c.prog, .int .i64 c.vers, .int .i64 c.proc, .int .i64 c.cred.flavor, .string ⟨c.cred.body.toArray⟩, .int .i64 c.verf.flavor, .string ⟨c.verf.body.toArray⟩, .string ⟨c.args.toArray⟩] 25) = x := ⟨_, rfl⟩
  obtain ⟨hk, hB, hz⟩ := boxed w wa _ _ hwa
  obtain ⟨wb, hwb⟩ : ∃ x, wa.alloc (.cells #[.int .i64 r.xid, .bool r.denied, .int .i64 r.verf.flavor, .string ⟨r.verf.body.toArray⟩, .int .i64 r.accept, .int .i64 r.reject, .int .i64 r.why, .int .i64 r.low, .int .i64 r.high, .string ⟨r.results.toArray⟩] 27) = x := ⟨_, rfl⟩
  obtain ⟨hk2, hB2, hz2⟩ := boxed wa wb _ _ hwb
  have HKC_wb : Hid (Bk wb w.heap.size [.int .i64 c.xid, .int .i64 c.rpc, .int .i64 c.prog, .int .i64 c.vers, .int .i64 c.proc, .int .i64 c.cred.flavor, .string ⟨c.cred.body.toArray⟩, .int .i64 c.verf.flavor, .string ⟨c.verf.body.toArray⟩, .string ⟨c.args.toArray⟩] 25) := hk.below hB2 (by omega)
  have HKR_wb : Hid (Bk wb (w.heap.size + 1) [.int .i64 r.xid, .bool r.denied, .int .i64 r.verf.flavor, .string ⟨r.verf.body.toArray⟩, .int .i64 r.accept, .int .i64 r.reject, .int .i64 r.why, .int .i64 r.low, .int .i64 r.high, .string ⟨r.results.toArray⟩] 27) := by rw [hz] at hk2; exact hk2
  have HB_wb : Hid (Below w.heap.size w wb) := hB.trans (hB2.mono (by omega))
  have HT0 := hid hT
  have HE_wb := hid (hT.below HB_wb.out)
  have HKN := hid (fun w h => knownM_any w h)
  have HFI := hid (fun w => fitted_any c w hc)
  have HTO := hid (fun w => told_any r w hr)
  have mx := fit_may c
  have my := tol_may r
  generalize hX : fitP c = X at mx HFI
  generalize hY : tolP r = Y at my HTO
  clear hX hY
  have hT2 : ∀ w, Calls Tryd.prog 7 #[.agg #[.int .i64 Y.xid, .bool false, .int .i64 Y.verf.flavor, .string ⟨Y.verf.body.toArray⟩, .int .i64 0, .int .i64 0, .int .i64 0, .int .i64 0, .int .i64 0, .string ⟨#[]⟩]] w fun e w' => e = .returned (.agg #[.int .i64 (pickP Y.xid 4294967296), .bool false, .int .i64 (autP Y.verf).flavor, .string ⟨(autP Y.verf).body.toArray⟩, .int .i64 0, .int .i64 0, .int .i64 0, .int .i64 0, .int .i64 0, .string ⟨#[]⟩]) ∧ Below w.heap.size w w' := fun w =>
    told_any ⟨Y.xid, false, Y.verf, 0, 0, 0, [], 0, 0⟩ w ⟨isW_64 my.1, (tol_verf my).1, z64, z64, z64, z64, z64, (tol_verf my).2, Nat.zero_le _⟩
  have HT2 := hid hT2
  have m2 : isW (pickP Y.xid 4294967296) := pick_word _
  have mv := aut_may Y.verf
  generalize pickP Y.xid 4294967296 = XI2 at *
  generalize autP Y.verf = VE2 at *
  have mx0 := may_args mx plain_nil
  have my2 := may_res m2 mv plain_nil
  have HPC : Hid (∀ w, ErrT w → Calls Tryd.prog 8 #[.agg #[.int .i64 X.xid, .int .i64 X.rpc, .int .i64 X.prog, .int .i64 X.vers, .int .i64 X.proc, .int .i64 X.cred.flavor, .string ⟨X.cred.body.toArray⟩, .int .i64 X.verf.flavor, .string ⟨X.verf.body.toArray⟩, .string ⟨#[]⟩]] w fun e w' => e = .returned (.tuple #[.string ⟨(CallP.lay ⟨X.xid, X.rpc, X.prog, X.vers, X.proc, X.cred, X.verf, []⟩).toArray⟩, .int .i64 0]) ∧ Below w.heap.size w w') := fun w h => by
    have := printCall_any ⟨X.xid, X.rpc, X.prog, X.vers, X.proc, X.cred, X.verf, []⟩ w h (Nat.zero_le _)
    rw [pc_may mx0] at this
    exact this
  have HPR : Hid (∀ w, ErrT w → Calls Tryd.prog 9 #[.agg #[.int .i64 XI2, .bool false, .int .i64 VE2.flavor, .string ⟨VE2.body.toArray⟩, .int .i64 0, .int .i64 0, .int .i64 0, .int .i64 0, .int .i64 0, .string ⟨#[]⟩]] w fun e w' => e = .returned (.tuple #[.string ⟨(ReplyP.lay ⟨XI2, false, VE2, 0, 0, 0, [], 0, 0⟩).toArray⟩, .int .i64 0]) ∧ Below w.heap.size w w') := fun w h => by
    have := printReply_any ⟨XI2, false, VE2, 0, 0, 0, [], 0, 0⟩ w h (Nat.zero_le _)
    rw [pr_may my2] at this
    exact this
  have HFO := hid (fun w => four_any more w (by omega))
  have hM := four_plain more
  have mx1 := may_args mx hM
  have my3 := may_res m2 mv hM
  have hN := pick_word ver
  have HPK : Hid (∀ w, Calls Tryd.prog 13 #[.int .i64 ver, .int .i64 4294967296] w fun e w' => e = .returned (.int .i64 (pickP ver 4294967296)) ∧ w' = w) := fun w => pick_any ver _ w hv.1 hv.2 (by decide) (by decide)
  have hlx := lay_four _ mx0
  have hly := rlay_four _ my2
  have hlx1 := lay_four _ mx1
  have hly3 := rlay_four _ my3
  have h12 := lay_twelve ⟨X.xid, X.rpc, X.prog, X.vers, X.proc, X.cred, X.verf, []⟩
  have HAC : Hid (∀ w, ErrT w → Calls Tryd.prog 10 #[.string (⟨(CallP.lay ⟨X.xid, X.rpc, X.prog, X.vers, X.proc, X.cred, X.verf, []⟩).toArray⟩ ++ ⟨(fourP more).toArray⟩)] w fun e w' => e = .returned (.tuple #[.agg #[.int .i64 X.xid, .int .i64 X.rpc, .int .i64 X.prog, .int .i64 X.vers, .int .i64 X.proc, .int .i64 X.cred.flavor, .string ⟨X.cred.body.toArray⟩, .int .i64 X.verf.flavor, .string ⟨X.verf.body.toArray⟩, .string ⟨(fourP more).toArray⟩], .int .i64 0]) ∧ Below w.heap.size w w') := fun w h => by
    have := parseCall_any _ w h (Nat.le_trans hlx1.2 (by decide))
    rw [parseC_there _ mx1, ← lay_args, ← bapp] at this
    exact this
  have HAR : Hid (∀ w, ErrT w → Calls Tryd.prog 11 #[.string (⟨(ReplyP.lay ⟨XI2, false, VE2, 0, 0, 0, [], 0, 0⟩).toArray⟩ ++ ⟨(fourP more).toArray⟩)] w fun e w' => e = .returned (.tuple #[.agg #[.int .i64 XI2, .bool false, .int .i64 VE2.flavor, .string ⟨VE2.body.toArray⟩, .int .i64 0, .int .i64 0, .int .i64 0, .int .i64 0, .int .i64 0, .string ⟨(fourP more).toArray⟩], .int .i64 0]) ∧ Below w.heap.size w w') := fun w h => by
    have := parseReply_any _ w h (Nat.le_trans hly3.2 (by decide))
    rw [parseR_there _ my3, ← lay_res, ← bapp] at this
    exact this
  have HOT : Hid (∀ n : Int, isW n → n ≠ 2 → ∀ w, ErrT w → Calls Tryd.prog 10 #[.string ((⟨(CallP.lay ⟨X.xid, X.rpc, X.prog, X.vers, X.proc, X.cred, X.verf, []⟩).toArray⟩ : ByteArray).extract 0 8 ++ ⟨(nbL 4 n.toNat).toArray⟩ ++ ⟨more.toArray⟩)] w fun e w' => e = .returned (.tuple #[.agg (callV ⟨X.xid, n, 0, 0, 0, nulA, nulA, []⟩).toArray, .int .i64 0]) ∧ Below w.heap.size w w') := fun n hn h2 w h => by
    have := parseCall_any (nbL 4 X.xid.toNat ++ (nbL 4 0 ++ (nbL 4 n.toNat ++ more))) w h (by simp only [List.length_append, nbL_len]; omega)
    rw [parseC_other mx.1 hn h2] at this
    rw [extract_take, lay_eight, bapp, bapp, List.append_assoc, List.append_assoc]
    exact this
  have nqX : ∀ w : World, (binOp .neq 25 (.agg #[.int .i64 X.xid, .int .i64 X.rpc, .int .i64 X.prog, .int .i64 X.vers, .int .i64 X.proc, .int .i64 X.cred.flavor, .string ⟨X.cred.body.toArray⟩, .int .i64 X.verf.flavor, .string ⟨X.verf.body.toArray⟩, .string ⟨(fourP more).toArray⟩]) (.agg #[.int .i64 X.xid, .int .i64 X.rpc, .int .i64 X.prog, .int .i64 X.vers, .int .i64 X.proc, .int .i64 X.cred.flavor, .string ⟨X.cred.body.toArray⟩, .int .i64 X.verf.flavor, .string ⟨X.verf.body.toArray⟩, .string ⟨(fourP more).toArray⟩])).run Tryd.prog w = .ok (.bool false) w := fun w => neqC w ⟨X.xid, X.rpc, X.prog, X.vers, X.proc, X.cred, X.verf, fourP more⟩
  have nqY : ∀ w : World, (binOp .neq 27 (.agg #[.int .i64 XI2, .bool false, .int .i64 VE2.flavor, .string ⟨VE2.body.toArray⟩, .int .i64 0, .int .i64 0, .int .i64 0, .int .i64 0, .int .i64 0, .string ⟨(fourP more).toArray⟩]) (.agg #[.int .i64 XI2, .bool false, .int .i64 VE2.flavor, .string ⟨VE2.body.toArray⟩, .int .i64 0, .int .i64 0, .int .i64 0, .int .i64 0, .int .i64 0, .string ⟨(fourP more).toArray⟩])).run Tryd.prog w = .ok (.bool false) w := fun w => neqR w ⟨XI2, false, VE2, 0, 0, 0, fourP more, 0, 0⟩
  have eqD : Hid (∀ (n : Int) (w : World), (binOp .eql 25 (.agg (callV ⟨X.xid, n, 0, 0, 0, nulA, nulA, []⟩).toArray) (.agg #[.int .i64 X.xid, .int .i64 n, .int .i64 0, .int .i64 0, .int .i64 0, .int .i64 0, .string ⟨#[]⟩, .int .i64 0, .string ⟨#[]⟩, .string ⟨#[]⟩])).run Tryd.prog w = .ok (.bool true) w) := fun n w => eqlC w ⟨X.xid, n, 0, 0, 0, nulA, nulA, []⟩
  have gC := guardCn
  have gR := guardRn
  have sx : (⟨(CallP.lay ⟨X.xid, X.rpc, X.prog, X.vers, X.proc, X.cred, X.verf, []⟩).toArray⟩ : ByteArray).size ≤ 1840 := by rw [ba_size]; exact hlx.2
  have sx2 : 12 ≤ (⟨(CallP.lay ⟨X.xid, X.rpc, X.prog, X.vers, X.proc, X.cred, X.verf, []⟩).toArray⟩ : ByteArray).size := by rw [ba_size]; exact h12
  have sy : (⟨(ReplyP.lay ⟨XI2, false, VE2, 0, 0, 0, [], 0, 0⟩).toArray⟩ : ByteArray).size ≤ 1840 := by rw [ba_size]; exact hly.2
  have sm : (⟨(fourP more).toArray⟩ : ByteArray).size ≤ 1000 := by rw [ba_size]; exact hM.1
  have so : ((⟨more.toArray⟩ : ByteArray).size : Int) ≤ 2147481647 := by rw [ba_size]; exact hl
  generalize (⟨(CallP.lay ⟨X.xid, X.rpc, X.prog, X.vers, X.proc, X.cred, X.verf, []⟩).toArray⟩ : ByteArray) = SX at *
  generalize (⟨(ReplyP.lay ⟨XI2, false, VE2, 0, 0, 0, [], 0, 0⟩).toArray⟩ : ByteArray) = SY at *
  generalize (⟨(fourP more).toArray⟩ : ByteArray) = SM at *
  generalize (⟨more.toArray⟩ : ByteArray) = SO at *
  generalize pickP ver 4294967296 = NV at *
  simp only [callV, replyV] at HFI HTO
  have HNV := hid hN
  clear hk hk2 hB hB2 hz2 hT hc hr hl mx my hT2 m2 mv mx0 my2 mx1 my3 hM hlx hly hlx1 hly3 h12 hv hN
  have hza := hz
  clear hz
  go_enter Tryd.func4, Tryd.ntmps4
  go_wp2_with fail
  refine (HKN.out _ HE_wb.out).mono ?_
  rintro e wz1 ⟨rfl, hB⟩
  have HKC_wz1 : Hid (Bk wz1 w.heap.size [.int .i64 c.xid, .int .i64 c.rpc, .int .i64 c.prog, .int .i64 c.vers, .int .i64 c.proc, .int .i64 c.cred.flavor, .string ⟨c.cred.body.toArray⟩, .int .i64 c.verf.flavor, .string ⟨c.verf.body.toArray⟩, .string ⟨c.args.toArray⟩] 25) := HKC_wb.out.below hB HKC_wb.out.lt
  clear HKC_wb
  have HKR_wz1 : Hid (Bk wz1 (w.heap.size + 1) [.int .i64 r.xid, .bool r.denied, .int .i64 r.verf.flavor, .string ⟨r.verf.body.toArray⟩, .int .i64 r.accept, .int .i64 r.reject, .int .i64 r.why, .int .i64 r.low, .int .i64 r.high, .string ⟨r.results.toArray⟩] 27) := HKR_wb.out.below hB HKR_wb.out.lt
  clear HKR_wb
  have HB_wz1 : Hid (Below w.heap.size w wz1) := HB_wb.out.trans (hB.mono HB_wb.out.size)
  have HE_wz1 := hid (HT0.out.below HB_wz1.out)
  clear hB
  have c0 := HKC_wz1.out.cell 0 rfl
  have c1 := HKC_wz1.out.cell 1 rfl
  have c2 := HKC_wz1.out.cell 2 rfl
  have c3 := HKC_wz1.out.cell 3 rfl
  have c4 := HKC_wz1.out.cell 4 rfl
  have c5 := HKC_wz1.out.cell 5 rfl
  have c6 := HKC_wz1.out.cell 6 rfl
  have c7 := HKC_wz1.out.cell 7 rfl
  have c8 := HKC_wz1.out.cell 8 rfl
  have c9 := HKC_wz1.out.cell 9 rfl
  go_wp2_with fail
  refine (HFI.out _).mono ?_
  rintro e wz2 ⟨rfl, hB⟩
  have HKC_wz2 : Hid (Bk wz2 w.heap.size [.int .i64 c.xid, .int .i64 c.rpc, .int .i64 c.prog, .int .i64 c.vers, .int .i64 c.proc, .int .i64 c.cred.flavor, .string ⟨c.cred.body.toArray⟩, .int .i64 c.verf.flavor, .string ⟨c.verf.body.toArray⟩, .string ⟨c.args.toArray⟩] 25) := HKC_wz1.out.below hB HKC_wz1.out.lt
  clear HKC_wz1
  have HKR_wz2 : Hid (Bk wz2 (w.heap.size + 1) [.int .i64 r.xid, .bool r.denied, .int .i64 r.verf.flavor, .string ⟨r.verf.body.toArray⟩, .int .i64 r.accept, .int .i64 r.reject, .int .i64 r.why, .int .i64 r.low, .int .i64 r.high, .string ⟨r.results.toArray⟩] 27) := HKR_wz1.out.below hB HKR_wz1.out.lt
  clear HKR_wz1
  have HB_wz2 : Hid (Below w.heap.size w wz2) := HB_wz1.out.trans (hB.mono HB_wz1.out.size)
  have HE_wz2 := hid (HT0.out.below HB_wz2.out)
  clear hB
  clear c0 c1 c2 c3 c4 c5 c6 c7 c8 c9
  clear HKC_wz2
  have HNERX : Hid ((w.heap.size + 1) < wz2.heap.size) := HKR_wz2.out.lt
  have HLEX : Hid (w.heap.size ≤ wz2.heap.size) := HB_wz2.out.size
  obtain ⟨wz3, hwz3⟩ : ∃ x, wz2.alloc (.cells #[.int .i64 X.xid, .int .i64 X.rpc, .int .i64 X.prog, .int .i64 X.vers, .int .i64 X.proc, .int .i64 X.cred.flavor, .string ⟨X.cred.body.toArray⟩, .int .i64 X.verf.flavor, .string ⟨X.verf.body.toArray⟩, .string ⟨X.args.toArray⟩] 25) = x := ⟨_, rfl⟩
  obtain ⟨hk, hB, hz⟩ := boxed wz2 wz3 _ _ hwz3
  have HKR_wz3 : Hid (Bk wz3 (w.heap.size + 1) [.int .i64 r.xid, .bool r.denied, .int .i64 r.verf.flavor, .string ⟨r.verf.body.toArray⟩, .int .i64 r.accept, .int .i64 r.reject, .int .i64 r.why, .int .i64 r.low, .int .i64 r.high, .string ⟨r.results.toArray⟩] 27) := HKR_wz2.out.below hB HKR_wz2.out.lt
  clear HKR_wz2
  have HB_wz3 : Hid (Below w.heap.size w wz3) := HB_wz2.out.trans (hB.mono HB_wz2.out.size)
  have HE_wz3 := hid (HT0.out.below HB_wz3.out)
  have HKX_wz3 : Hid (Bk wz3 wz2.heap.size [.int .i64 X.xid, .int .i64 X.rpc, .int .i64 X.prog, .int .i64 X.vers, .int .i64 X.proc, .int .i64 X.cred.flavor, .string ⟨X.cred.body.toArray⟩, .int .i64 X.verf.flavor, .string ⟨X.verf.body.toArray⟩, .string ⟨X.args.toArray⟩] 25) := hk
  clear hk hB hz
  have x0 := HKX_wz3.out.cell 0 rfl
  have fx0 := HKX_wz3.out.frozen 0
  have x1 := HKX_wz3.out.cell 1 rfl
  have fx1 := HKX_wz3.out.frozen 1
  have x2 := HKX_wz3.out.cell 2 rfl
  have fx2 := HKX_wz3.out.frozen 2
  have x3 := HKX_wz3.out.cell 3 rfl
  have fx3 := HKX_wz3.out.frozen 3
  have x4 := HKX_wz3.out.cell 4 rfl
  have fx4 := HKX_wz3.out.frozen 4
  have x5 := HKX_wz3.out.cell 5 rfl
  have fx5 := HKX_wz3.out.frozen 5
  have x6 := HKX_wz3.out.cell 6 rfl
  have fx6 := HKX_wz3.out.frozen 6
  have x7 := HKX_wz3.out.cell 7 rfl
  have fx7 := HKX_wz3.out.frozen 7
  have x8 := HKX_wz3.out.cell 8 rfl
  have fx8 := HKX_wz3.out.frozen 8
  have x9 := HKX_wz3.out.cell 9 rfl
  have fx9 := HKX_wz3.out.frozen 9
  obtain ⟨wz4, hwz4⟩ : ∃ x, wz3.setCell ⟨wz2.heap.size, 9, none⟩ (.string ⟨#[]⟩) = x := ⟨_, rfl⟩
  have HKR_wz4 : Hid (Bk wz4 (w.heap.size + 1) [.int .i64 r.xid, .bool r.denied, .int .i64 r.verf.flavor, .string ⟨r.verf.body.toArray⟩, .int .i64 r.accept, .int .i64 r.reject, .int .i64 r.why, .int .i64 r.low, .int .i64 r.high, .string ⟨r.results.toArray⟩] 27) := by rw [← hwz4]; exact HKR_wz3.out.of (Below.heap_setCell _ _ _ _ (Nat.ne_of_lt HNERX.out))
  clear HKR_wz3
  have HKX_wz4 : Hid (Bk wz4 wz2.heap.size [.int .i64 X.xid, .int .i64 X.rpc, .int .i64 X.prog, .int .i64 X.vers, .int .i64 X.proc, .int .i64 X.cred.flavor, .string ⟨X.cred.body.toArray⟩, .int .i64 X.verf.flavor, .string ⟨X.verf.body.toArray⟩, .string ⟨#[]⟩] 25) := by rw [← hwz4]; exact HKX_wz3.out.set 9 _
  clear HKX_wz3
  have HB_wz4 : Hid (Below w.heap.size w wz4) := by rw [← hwz4]; exact HB_wz3.out.setCell HLEX.out _
  have HE_wz4 := hid (HT0.out.below HB_wz4.out)
  have r0 := HKR_wz4.out.cell 0 rfl
  have r1 := HKR_wz4.out.cell 1 rfl
  have r2 := HKR_wz4.out.cell 2 rfl
  have r3 := HKR_wz4.out.cell 3 rfl
  have r4 := HKR_wz4.out.cell 4 rfl
  have r5 := HKR_wz4.out.cell 5 rfl
  have r6 := HKR_wz4.out.cell 6 rfl
  have r7 := HKR_wz4.out.cell 7 rfl
  have r8 := HKR_wz4.out.cell 8 rfl
  have r9 := HKR_wz4.out.cell 9 rfl
  go_wp2_with fail
  refine (HTO.out _).mono ?_
  rintro e wz5 ⟨rfl, hB⟩
  have HKR_wz5 : Hid (Bk wz5 (w.heap.size + 1) [.int .i64 r.xid, .bool r.denied, .int .i64 r.verf.flavor, .string ⟨r.verf.body.toArray⟩, .int .i64 r.accept, .int .i64 r.reject, .int .i64 r.why, .int .i64 r.low, .int .i64 r.high, .string ⟨r.results.toArray⟩] 27) := HKR_wz4.out.below hB HKR_wz4.out.lt
  clear HKR_wz4
  have HKX_wz5 : Hid (Bk wz5 wz2.heap.size [.int .i64 X.xid, .int .i64 X.rpc, .int .i64 X.prog, .int .i64 X.vers, .int .i64 X.proc, .int .i64 X.cred.flavor, .string ⟨X.cred.body.toArray⟩, .int .i64 X.verf.flavor, .string ⟨X.verf.body.toArray⟩, .string ⟨#[]⟩] 25) := HKX_wz4.out.below hB HKX_wz4.out.lt
  clear HKX_wz4
  have HB_wz5 : Hid (Below w.heap.size w wz5) := HB_wz4.out.trans (hB.mono HB_wz4.out.size)
  have HE_wz5 := hid (HT0.out.below HB_wz5.out)
  clear hB
  clear r0 r1 r2 r3 r4 r5 r6 r7 r8 r9
  clear x0 fx0 x1 fx1 x2 fx2 x3 fx3 x4 fx4 x5 fx5 x6 fx6 x7 fx7 x8 fx8 x9 fx9
  clear HKR_wz5
  have HNEXY : Hid (wz2.heap.size < wz5.heap.size) := HKX_wz5.out.lt
  have HLEY : Hid (w.heap.size ≤ wz5.heap.size) := HB_wz5.out.size
  obtain ⟨wz6, hwz6⟩ : ∃ x, wz5.alloc (.cells #[.int .i64 Y.xid, .bool Y.denied, .int .i64 Y.verf.flavor, .string ⟨Y.verf.body.toArray⟩, .int .i64 Y.accept, .int .i64 Y.reject, .int .i64 Y.why, .int .i64 Y.low, .int .i64 Y.high, .string ⟨Y.results.toArray⟩] 27) = x := ⟨_, rfl⟩
  obtain ⟨hk, hB, hz⟩ := boxed wz5 wz6 _ _ hwz6
  have HKX_wz6 : Hid (Bk wz6 wz2.heap.size [.int .i64 X.xid, .int .i64 X.rpc, .int .i64 X.prog, .int .i64 X.vers, .int .i64 X.proc, .int .i64 X.cred.flavor, .string ⟨X.cred.body.toArray⟩, .int .i64 X.verf.flavor, .string ⟨X.verf.body.toArray⟩, .string ⟨#[]⟩] 25) := HKX_wz5.out.below hB HKX_wz5.out.lt
  clear HKX_wz5
  have HB_wz6 : Hid (Below w.heap.size w wz6) := HB_wz5.out.trans (hB.mono HB_wz5.out.size)
  have HE_wz6 := hid (HT0.out.below HB_wz6.out)
  have HKY_wz6 : Hid (Bk wz6 wz5.heap.size [.int .i64 Y.xid, .bool Y.denied, .int .i64 Y.verf.flavor, .string ⟨Y.verf.body.toArray⟩, .int .i64 Y.accept, .int .i64 Y.reject, .int .i64 Y.why, .int .i64 Y.low, .int .i64 Y.high, .string ⟨Y.results.toArray⟩] 27) := hk
  clear hk hB hz
  have y0 := HKY_wz6.out.cell 0 rfl
  have fy0 := HKY_wz6.out.frozen 0
  have y1 := HKY_wz6.out.cell 1 rfl
  have fy1 := HKY_wz6.out.frozen 1
  have y2 := HKY_wz6.out.cell 2 rfl
  have fy2 := HKY_wz6.out.frozen 2
  have y3 := HKY_wz6.out.cell 3 rfl
  have fy3 := HKY_wz6.out.frozen 3
  have y4 := HKY_wz6.out.cell 4 rfl
  have fy4 := HKY_wz6.out.frozen 4
  have y5 := HKY_wz6.out.cell 5 rfl
  have fy5 := HKY_wz6.out.frozen 5
  have y6 := HKY_wz6.out.cell 6 rfl
  have fy6 := HKY_wz6.out.frozen 6
  have y7 := HKY_wz6.out.cell 7 rfl
  have fy7 := HKY_wz6.out.frozen 7
  have y8 := HKY_wz6.out.cell 8 rfl
  have fy8 := HKY_wz6.out.frozen 8
  have y9 := HKY_wz6.out.cell 9 rfl
  have fy9 := HKY_wz6.out.frozen 9
  obtain ⟨wz7, hwz7⟩ : ∃ x, wz6.setCell ⟨wz5.heap.size, 1, none⟩ (.bool false) = x := ⟨_, rfl⟩
  have HKX_wz7 : Hid (Bk wz7 wz2.heap.size [.int .i64 X.xid, .int .i64 X.rpc, .int .i64 X.prog, .int .i64 X.vers, .int .i64 X.proc, .int .i64 X.cred.flavor, .string ⟨X.cred.body.toArray⟩, .int .i64 X.verf.flavor, .string ⟨X.verf.body.toArray⟩, .string ⟨#[]⟩] 25) := by rw [← hwz7]; exact HKX_wz6.out.of (Below.heap_setCell _ _ _ _ (Nat.ne_of_lt HNEXY.out))
  clear HKX_wz6
  have HKY_wz7 : Hid (Bk wz7 wz5.heap.size [.int .i64 Y.xid, .bool false, .int .i64 Y.verf.flavor, .string ⟨Y.verf.body.toArray⟩, .int .i64 Y.accept, .int .i64 Y.reject, .int .i64 Y.why, .int .i64 Y.low, .int .i64 Y.high, .string ⟨Y.results.toArray⟩] 27) := by rw [← hwz7]; exact HKY_wz6.out.set 1 _
  clear HKY_wz6
  have HB_wz7 : Hid (Below w.heap.size w wz7) := by rw [← hwz7]; exact HB_wz6.out.setCell HLEY.out _
  have HE_wz7 := hid (HT0.out.below HB_wz7.out)
  have yy0 := HKY_wz7.out.cell 0 rfl
  have fyy0 := HKY_wz7.out.frozen 0
  have yy1 := HKY_wz7.out.cell 1 rfl
  have fyy1 := HKY_wz7.out.frozen 1
  have yy2 := HKY_wz7.out.cell 2 rfl
  have fyy2 := HKY_wz7.out.frozen 2
  have yy3 := HKY_wz7.out.cell 3 rfl
  have fyy3 := HKY_wz7.out.frozen 3
  have yy4 := HKY_wz7.out.cell 4 rfl
  have fyy4 := HKY_wz7.out.frozen 4
  have yy5 := HKY_wz7.out.cell 5 rfl
  have fyy5 := HKY_wz7.out.frozen 5
  have yy6 := HKY_wz7.out.cell 6 rfl
  have fyy6 := HKY_wz7.out.frozen 6
  have yy7 := HKY_wz7.out.cell 7 rfl
  have fyy7 := HKY_wz7.out.frozen 7
  have yy8 := HKY_wz7.out.cell 8 rfl
  have fyy8 := HKY_wz7.out.frozen 8
  have yy9 := HKY_wz7.out.cell 9 rfl
  have fyy9 := HKY_wz7.out.frozen 9
  go_wp2_with fail
  refine (HT2.out _).mono ?_
  rintro e wz8 ⟨rfl, hB⟩
  have HKX_wz8 : Hid (Bk wz8 wz2.heap.size [.int .i64 X.xid, .int .i64 X.rpc, .int .i64 X.prog, .int .i64 X.vers, .int .i64 X.proc, .int .i64 X.cred.flavor, .string ⟨X.cred.body.toArray⟩, .int .i64 X.verf.flavor, .string ⟨X.verf.body.toArray⟩, .string ⟨#[]⟩] 25) := HKX_wz7.out.below hB HKX_wz7.out.lt
  clear HKX_wz7
  have HKY_wz8 : Hid (Bk wz8 wz5.heap.size [.int .i64 Y.xid, .bool false, .int .i64 Y.verf.flavor, .string ⟨Y.verf.body.toArray⟩, .int .i64 Y.accept, .int .i64 Y.reject, .int .i64 Y.why, .int .i64 Y.low, .int .i64 Y.high, .string ⟨Y.results.toArray⟩] 27) := HKY_wz7.out.below hB HKY_wz7.out.lt
  clear HKY_wz7
  have HB_wz8 : Hid (Below w.heap.size w wz8) := HB_wz7.out.trans (hB.mono HB_wz7.out.size)
  have HE_wz8 := hid (HT0.out.below HB_wz8.out)
  clear hB
  clear y0 fy0 y1 fy1 y2 fy2 y3 fy3 y4 fy4 y5 fy5 y6 fy6 y7 fy7 y8 fy8 y9 fy9
  clear yy0 fyy0 yy1 fyy1 yy2 fyy2 yy3 fyy3 yy4 fyy4 yy5 fyy5 yy6 fyy6 yy7 fyy7 yy8 fyy8 yy9 fyy9
  have y0 := HKY_wz8.out.cell 0 rfl
  have fy0 := HKY_wz8.out.frozen 0
  have y1 := HKY_wz8.out.cell 1 rfl
  have fy1 := HKY_wz8.out.frozen 1
  have y2 := HKY_wz8.out.cell 2 rfl
  have fy2 := HKY_wz8.out.frozen 2
  have y3 := HKY_wz8.out.cell 3 rfl
  have fy3 := HKY_wz8.out.frozen 3
  have y4 := HKY_wz8.out.cell 4 rfl
  have fy4 := HKY_wz8.out.frozen 4
  have y5 := HKY_wz8.out.cell 5 rfl
  have fy5 := HKY_wz8.out.frozen 5
  have y6 := HKY_wz8.out.cell 6 rfl
  have fy6 := HKY_wz8.out.frozen 6
  have y7 := HKY_wz8.out.cell 7 rfl
  have fy7 := HKY_wz8.out.frozen 7
  have y8 := HKY_wz8.out.cell 8 rfl
  have fy8 := HKY_wz8.out.frozen 8
  have y9 := HKY_wz8.out.cell 9 rfl
  have fy9 := HKY_wz8.out.frozen 9
  obtain ⟨wz9, hwz9⟩ : ∃ x, ((((((((((wz8.setCell ⟨wz5.heap.size, 0, none⟩ (.int .i64 XI2)).setCell ⟨wz5.heap.size, 1, none⟩ (.bool false)).setCell ⟨wz5.heap.size, 2, none⟩ (.int .i64 VE2.flavor)).setCell ⟨wz5.heap.size, 3, none⟩ (.string ⟨VE2.body.toArray⟩)).setCell ⟨wz5.heap.size, 4, none⟩ (.int .i64 0)).setCell ⟨wz5.heap.size, 5, none⟩ (.int .i64 0)).setCell ⟨wz5.heap.size, 6, none⟩ (.int .i64 0)).setCell ⟨wz5.heap.size, 7, none⟩ (.int .i64 0)).setCell ⟨wz5.heap.size, 8, none⟩ (.int .i64 0)).setCell ⟨wz5.heap.size, 9, none⟩ (.string ⟨#[]⟩)) = x := ⟨_, rfl⟩
  have HKX_wz9 : Hid (Bk wz9 wz2.heap.size [.int .i64 X.xid, .int .i64 X.rpc, .int .i64 X.prog, .int .i64 X.vers, .int .i64 X.proc, .int .i64 X.cred.flavor, .string ⟨X.cred.body.toArray⟩, .int .i64 X.verf.flavor, .string ⟨X.verf.body.toArray⟩, .string ⟨#[]⟩] 25) := by rw [← hwz9]; exact HKX_wz8.out.of (set10_ne _ _ _ (.int .i64 XI2) (.bool false) (.int .i64 VE2.flavor) (.string ⟨VE2.body.toArray⟩) (.int .i64 0) (.int .i64 0) (.int .i64 0) (.int .i64 0) (.int .i64 0) (.string ⟨#[]⟩) (Nat.ne_of_lt HNEXY.out))
  clear HKX_wz8
  have HKY_wz9 : Hid (Bk wz9 wz5.heap.size [.int .i64 XI2, .bool false, .int .i64 VE2.flavor, .string ⟨VE2.body.toArray⟩, .int .i64 0, .int .i64 0, .int .i64 0, .int .i64 0, .int .i64 0, .string ⟨#[]⟩] 27) := by rw [← hwz9]; exact HKY_wz8.out.set10 (.int .i64 XI2) (.bool false) (.int .i64 VE2.flavor) (.string ⟨VE2.body.toArray⟩) (.int .i64 0) (.int .i64 0) (.int .i64 0) (.int .i64 0) (.int .i64 0) (.string ⟨#[]⟩)
  clear HKY_wz8
  have HB_wz9 : Hid (Below w.heap.size w wz9) := by rw [← hwz9]; exact below_set10 HB_wz8.out HLEY.out (.int .i64 XI2) (.bool false) (.int .i64 VE2.flavor) (.string ⟨VE2.body.toArray⟩) (.int .i64 0) (.int .i64 0) (.int .i64 0) (.int .i64 0) (.int .i64 0) (.string ⟨#[]⟩)
  have HE_wz9 := hid (HT0.out.below HB_wz9.out)
  have x0 := HKX_wz9.out.cell 0 rfl
  have x1 := HKX_wz9.out.cell 1 rfl
  have x2 := HKX_wz9.out.cell 2 rfl
  have x3 := HKX_wz9.out.cell 3 rfl
  have x4 := HKX_wz9.out.cell 4 rfl
  have x5 := HKX_wz9.out.cell 5 rfl
  have x6 := HKX_wz9.out.cell 6 rfl
  have x7 := HKX_wz9.out.cell 7 rfl
  have x8 := HKX_wz9.out.cell 8 rfl
  have x9 := HKX_wz9.out.cell 9 rfl
  go_wp2_with fail
  refine (HPC.out _ HE_wz9.out).mono ?_
  rintro e wz10 ⟨rfl, hB⟩
  have HKX_wz10 : Hid (Bk wz10 wz2.heap.size [.int .i64 X.xid, .int .i64 X.rpc, .int .i64 X.prog, .int .i64 X.vers, .int .i64 X.proc, .int .i64 X.cred.flavor, .string ⟨X.cred.body.toArray⟩, .int .i64 X.verf.flavor, .string ⟨X.verf.body.toArray⟩, .string ⟨#[]⟩] 25) := HKX_wz9.out.below hB HKX_wz9.out.lt
  clear HKX_wz9
  have HKY_wz10 : Hid (Bk wz10 wz5.heap.size [.int .i64 XI2, .bool false, .int .i64 VE2.flavor, .string ⟨VE2.body.toArray⟩, .int .i64 0, .int .i64 0, .int .i64 0, .int .i64 0, .int .i64 0, .string ⟨#[]⟩] 27) := HKY_wz9.out.below hB HKY_wz9.out.lt
  clear HKY_wz9
  have HB_wz10 : Hid (Below w.heap.size w wz10) := HB_wz9.out.trans (hB.mono HB_wz9.out.size)
  have HE_wz10 := hid (HT0.out.below HB_wz10.out)
  clear hB
  clear y0 fy0 y1 fy1 y2 fy2 y3 fy3 y4 fy4 y5 fy5 y6 fy6 y7 fy7 y8 fy8 y9 fy9
  clear x0 x1 x2 x3 x4 x5 x6 x7 x8 x9
  have y0 := HKY_wz10.out.cell 0 rfl
  have y1 := HKY_wz10.out.cell 1 rfl
  have y2 := HKY_wz10.out.cell 2 rfl
  have y3 := HKY_wz10.out.cell 3 rfl
  have y4 := HKY_wz10.out.cell 4 rfl
  have y5 := HKY_wz10.out.cell 5 rfl
  have y6 := HKY_wz10.out.cell 6 rfl
  have y7 := HKY_wz10.out.cell 7 rfl
  have y8 := HKY_wz10.out.cell 8 rfl
  have y9 := HKY_wz10.out.cell 9 rfl
  go_wp2_with fail
  refine (HPR.out _ HE_wz10.out).mono ?_
  rintro e wz11 ⟨rfl, hB⟩
  have HKX_wz11 : Hid (Bk wz11 wz2.heap.size [.int .i64 X.xid, .int .i64 X.rpc, .int .i64 X.prog, .int .i64 X.vers, .int .i64 X.proc, .int .i64 X.cred.flavor, .string ⟨X.cred.body.toArray⟩, .int .i64 X.verf.flavor, .string ⟨X.verf.body.toArray⟩, .string ⟨#[]⟩] 25) := HKX_wz10.out.below hB HKX_wz10.out.lt
  clear HKX_wz10
  have HKY_wz11 : Hid (Bk wz11 wz5.heap.size [.int .i64 XI2, .bool false, .int .i64 VE2.flavor, .string ⟨VE2.body.toArray⟩, .int .i64 0, .int .i64 0, .int .i64 0, .int .i64 0, .int .i64 0, .string ⟨#[]⟩] 27) := HKY_wz10.out.below hB HKY_wz10.out.lt
  clear HKY_wz10
  have HB_wz11 : Hid (Below w.heap.size w wz11) := HB_wz10.out.trans (hB.mono HB_wz10.out.size)
  have HE_wz11 := hid (HT0.out.below HB_wz11.out)
  clear hB
  clear y0 y1 y2 y3 y4 y5 y6 y7 y8 y9
  go_wp2_with fail
  refine (HFO.out _).mono ?_
  rintro e w9 ⟨rfl, hw⟩
  have hw2 := hw.symm
  clear hw
  subst hw2
  go_wp2_with fail
  refine (HAC.out _ HE_wz11.out).mono ?_
  rintro e wz12 ⟨rfl, hB⟩
  have HKX_wz12 : Hid (Bk wz12 wz2.heap.size [.int .i64 X.xid, .int .i64 X.rpc, .int .i64 X.prog, .int .i64 X.vers, .int .i64 X.proc, .int .i64 X.cred.flavor, .string ⟨X.cred.body.toArray⟩, .int .i64 X.verf.flavor, .string ⟨X.verf.body.toArray⟩, .string ⟨#[]⟩] 25) := HKX_wz11.out.below hB HKX_wz11.out.lt
  clear HKX_wz11
  have HKY_wz12 : Hid (Bk wz12 wz5.heap.size [.int .i64 XI2, .bool false, .int .i64 VE2.flavor, .string ⟨VE2.body.toArray⟩, .int .i64 0, .int .i64 0, .int .i64 0, .int .i64 0, .int .i64 0, .string ⟨#[]⟩] 27) := HKY_wz11.out.below hB HKY_wz11.out.lt
  clear HKY_wz11
  have HB_wz12 : Hid (Below w.heap.size w wz12) := HB_wz11.out.trans (hB.mono HB_wz11.out.size)
  have HE_wz12 := hid (HT0.out.below HB_wz12.out)
  clear hB
  have HNEXA : Hid (wz2.heap.size < wz12.heap.size) := HKX_wz12.out.lt
  have HNEYA : Hid (wz5.heap.size < wz12.heap.size) := HKY_wz12.out.lt
  have HLEA : Hid (w.heap.size ≤ wz12.heap.size) := HB_wz12.out.size
  obtain ⟨wz13, hwz13⟩ : ∃ x, wz12.alloc (.cells #[.int .i64 X.xid, .int .i64 X.rpc, .int .i64 X.prog, .int .i64 X.vers, .int .i64 X.proc, .int .i64 X.cred.flavor, .string ⟨X.cred.body.toArray⟩, .int .i64 X.verf.flavor, .string ⟨X.verf.body.toArray⟩, .string SM] 25) = x := ⟨_, rfl⟩
  obtain ⟨hk, hB, hz⟩ := boxed wz12 wz13 _ _ hwz13
  have HKX_wz13 : Hid (Bk wz13 wz2.heap.size [.int .i64 X.xid, .int .i64 X.rpc, .int .i64 X.prog, .int .i64 X.vers, .int .i64 X.proc, .int .i64 X.cred.flavor, .string ⟨X.cred.body.toArray⟩, .int .i64 X.verf.flavor, .string ⟨X.verf.body.toArray⟩, .string ⟨#[]⟩] 25) := HKX_wz12.out.below hB HKX_wz12.out.lt
  clear HKX_wz12
  have HKY_wz13 : Hid (Bk wz13 wz5.heap.size [.int .i64 XI2, .bool false, .int .i64 VE2.flavor, .string ⟨VE2.body.toArray⟩, .int .i64 0, .int .i64 0, .int .i64 0, .int .i64 0, .int .i64 0, .string ⟨#[]⟩] 27) := HKY_wz12.out.below hB HKY_wz12.out.lt
  clear HKY_wz12
  have HB_wz13 : Hid (Below w.heap.size w wz13) := HB_wz12.out.trans (hB.mono HB_wz12.out.size)
  have HE_wz13 := hid (HT0.out.below HB_wz13.out)
  have HKA_wz13 : Hid (Bk wz13 wz12.heap.size [.int .i64 X.xid, .int .i64 X.rpc, .int .i64 X.prog, .int .i64 X.vers, .int .i64 X.proc, .int .i64 X.cred.flavor, .string ⟨X.cred.body.toArray⟩, .int .i64 X.verf.flavor, .string ⟨X.verf.body.toArray⟩, .string SM] 25) := hk
  clear hk hB hz
  go_wp2_with fail
  refine (HAR.out _ HE_wz13.out).mono ?_
  rintro e wz14 ⟨rfl, hB⟩
  have HKX_wz14 : Hid (Bk wz14 wz2.heap.size [.int .i64 X.xid, .int .i64 X.rpc, .int .i64 X.prog, .int .i64 X.vers, .int .i64 X.proc, .int .i64 X.cred.flavor, .string ⟨X.cred.body.toArray⟩, .int .i64 X.verf.flavor, .string ⟨X.verf.body.toArray⟩, .string ⟨#[]⟩] 25) := HKX_wz13.out.below hB HKX_wz13.out.lt
  clear HKX_wz13
  have HKY_wz14 : Hid (Bk wz14 wz5.heap.size [.int .i64 XI2, .bool false, .int .i64 VE2.flavor, .string ⟨VE2.body.toArray⟩, .int .i64 0, .int .i64 0, .int .i64 0, .int .i64 0, .int .i64 0, .string ⟨#[]⟩] 27) := HKY_wz13.out.below hB HKY_wz13.out.lt
  clear HKY_wz13
  have HKA_wz14 : Hid (Bk wz14 wz12.heap.size [.int .i64 X.xid, .int .i64 X.rpc, .int .i64 X.prog, .int .i64 X.vers, .int .i64 X.proc, .int .i64 X.cred.flavor, .string ⟨X.cred.body.toArray⟩, .int .i64 X.verf.flavor, .string ⟨X.verf.body.toArray⟩, .string SM] 25) := HKA_wz13.out.below hB HKA_wz13.out.lt
  clear HKA_wz13
  have HB_wz14 : Hid (Below w.heap.size w wz14) := HB_wz13.out.trans (hB.mono HB_wz13.out.size)
  have HE_wz14 := hid (HT0.out.below HB_wz14.out)
  clear hB
  have HNEXB : Hid (wz2.heap.size < wz14.heap.size) := HKX_wz14.out.lt
  have HNEYB : Hid (wz5.heap.size < wz14.heap.size) := HKY_wz14.out.lt
  have HNEAB : Hid (wz12.heap.size < wz14.heap.size) := HKA_wz14.out.lt
  have HLEB : Hid (w.heap.size ≤ wz14.heap.size) := HB_wz14.out.size
  obtain ⟨wz15, hwz15⟩ : ∃ x, wz14.alloc (.cells #[.int .i64 XI2, .bool false, .int .i64 VE2.flavor, .string ⟨VE2.body.toArray⟩, .int .i64 0, .int .i64 0, .int .i64 0, .int .i64 0, .int .i64 0, .string SM] 27) = x := ⟨_, rfl⟩
  obtain ⟨hk, hB, hz⟩ := boxed wz14 wz15 _ _ hwz15
  have HKX_wz15 : Hid (Bk wz15 wz2.heap.size [.int .i64 X.xid, .int .i64 X.rpc, .int .i64 X.prog, .int .i64 X.vers, .int .i64 X.proc, .int .i64 X.cred.flavor, .string ⟨X.cred.body.toArray⟩, .int .i64 X.verf.flavor, .string ⟨X.verf.body.toArray⟩, .string ⟨#[]⟩] 25) := HKX_wz14.out.below hB HKX_wz14.out.lt
  clear HKX_wz14
  have HKY_wz15 : Hid (Bk wz15 wz5.heap.size [.int .i64 XI2, .bool false, .int .i64 VE2.flavor, .string ⟨VE2.body.toArray⟩, .int .i64 0, .int .i64 0, .int .i64 0, .int .i64 0, .int .i64 0, .string ⟨#[]⟩] 27) := HKY_wz14.out.below hB HKY_wz14.out.lt
  clear HKY_wz14
  have HKA_wz15 : Hid (Bk wz15 wz12.heap.size [.int .i64 X.xid, .int .i64 X.rpc, .int .i64 X.prog, .int .i64 X.vers, .int .i64 X.proc, .int .i64 X.cred.flavor, .string ⟨X.cred.body.toArray⟩, .int .i64 X.verf.flavor, .string ⟨X.verf.body.toArray⟩, .string SM] 25) := HKA_wz14.out.below hB HKA_wz14.out.lt
  clear HKA_wz14
  have HB_wz15 : Hid (Below w.heap.size w wz15) := HB_wz14.out.trans (hB.mono HB_wz14.out.size)
  have HE_wz15 := hid (HT0.out.below HB_wz15.out)
  have HKB_wz15 : Hid (Bk wz15 wz14.heap.size [.int .i64 XI2, .bool false, .int .i64 VE2.flavor, .string ⟨VE2.body.toArray⟩, .int .i64 0, .int .i64 0, .int .i64 0, .int .i64 0, .int .i64 0, .string SM] 27) := hk
  clear hk hB hz
  have x0 := HKX_wz15.out.cell 0 rfl
  have fx0 := HKX_wz15.out.frozen 0
  have x1 := HKX_wz15.out.cell 1 rfl
  have fx1 := HKX_wz15.out.frozen 1
  have x2 := HKX_wz15.out.cell 2 rfl
  have fx2 := HKX_wz15.out.frozen 2
  have x3 := HKX_wz15.out.cell 3 rfl
  have fx3 := HKX_wz15.out.frozen 3
  have x4 := HKX_wz15.out.cell 4 rfl
  have fx4 := HKX_wz15.out.frozen 4
  have x5 := HKX_wz15.out.cell 5 rfl
  have fx5 := HKX_wz15.out.frozen 5
  have x6 := HKX_wz15.out.cell 6 rfl
  have fx6 := HKX_wz15.out.frozen 6
  have x7 := HKX_wz15.out.cell 7 rfl
  have fx7 := HKX_wz15.out.frozen 7
  have x8 := HKX_wz15.out.cell 8 rfl
  have fx8 := HKX_wz15.out.frozen 8
  have x9 := HKX_wz15.out.cell 9 rfl
  have fx9 := HKX_wz15.out.frozen 9
  have y0 := HKY_wz15.out.cell 0 rfl
  have fy0 := HKY_wz15.out.frozen 0
  have y1 := HKY_wz15.out.cell 1 rfl
  have fy1 := HKY_wz15.out.frozen 1
  have y2 := HKY_wz15.out.cell 2 rfl
  have fy2 := HKY_wz15.out.frozen 2
  have y3 := HKY_wz15.out.cell 3 rfl
  have fy3 := HKY_wz15.out.frozen 3
  have y4 := HKY_wz15.out.cell 4 rfl
  have fy4 := HKY_wz15.out.frozen 4
  have y5 := HKY_wz15.out.cell 5 rfl
  have fy5 := HKY_wz15.out.frozen 5
  have y6 := HKY_wz15.out.cell 6 rfl
  have fy6 := HKY_wz15.out.frozen 6
  have y7 := HKY_wz15.out.cell 7 rfl
  have fy7 := HKY_wz15.out.frozen 7
  have y8 := HKY_wz15.out.cell 8 rfl
  have fy8 := HKY_wz15.out.frozen 8
  have y9 := HKY_wz15.out.cell 9 rfl
  have fy9 := HKY_wz15.out.frozen 9
  obtain ⟨wz16, hwz16⟩ : ∃ x, wz15.setCell ⟨wz2.heap.size, 9, none⟩ (.string SM) = x := ⟨_, rfl⟩
  have HKX_wz16 : Hid (Bk wz16 wz2.heap.size [.int .i64 X.xid, .int .i64 X.rpc, .int .i64 X.prog, .int .i64 X.vers, .int .i64 X.proc, .int .i64 X.cred.flavor, .string ⟨X.cred.body.toArray⟩, .int .i64 X.verf.flavor, .string ⟨X.verf.body.toArray⟩, .string SM] 25) := by rw [← hwz16]; exact HKX_wz15.out.set 9 _
  clear HKX_wz15
  have HKY_wz16 : Hid (Bk wz16 wz5.heap.size [.int .i64 XI2, .bool false, .int .i64 VE2.flavor, .string ⟨VE2.body.toArray⟩, .int .i64 0, .int .i64 0, .int .i64 0, .int .i64 0, .int .i64 0, .string ⟨#[]⟩] 27) := by rw [← hwz16]; exact HKY_wz15.out.of (Below.heap_setCell _ _ _ _ (Nat.ne_of_gt HNEXY.out))
  clear HKY_wz15
  have HKA_wz16 : Hid (Bk wz16 wz12.heap.size [.int .i64 X.xid, .int .i64 X.rpc, .int .i64 X.prog, .int .i64 X.vers, .int .i64 X.proc, .int .i64 X.cred.flavor, .string ⟨X.cred.body.toArray⟩, .int .i64 X.verf.flavor, .string ⟨X.verf.body.toArray⟩, .string SM] 25) := by rw [← hwz16]; exact HKA_wz15.out.of (Below.heap_setCell _ _ _ _ (Nat.ne_of_gt HNEXA.out))
  clear HKA_wz15
  have HKB_wz16 : Hid (Bk wz16 wz14.heap.size [.int .i64 XI2, .bool false, .int .i64 VE2.flavor, .string ⟨VE2.body.toArray⟩, .int .i64 0, .int .i64 0, .int .i64 0, .int .i64 0, .int .i64 0, .string SM] 27) := by rw [← hwz16]; exact HKB_wz15.out.of (Below.heap_setCell _ _ _ _ (Nat.ne_of_gt HNEXB.out))
  clear HKB_wz15
  have HB_wz16 : Hid (Below w.heap.size w wz16) := by rw [← hwz16]; exact HB_wz15.out.setCell HLEX.out _
  have HE_wz16 := hid (HT0.out.below HB_wz16.out)
  have xx0 := HKX_wz16.out.cell 0 rfl
  have xx1 := HKX_wz16.out.cell 1 rfl
  have xx2 := HKX_wz16.out.cell 2 rfl
  have xx3 := HKX_wz16.out.cell 3 rfl
  have xx4 := HKX_wz16.out.cell 4 rfl
  have xx5 := HKX_wz16.out.cell 5 rfl
  have xx6 := HKX_wz16.out.cell 6 rfl
  have xx7 := HKX_wz16.out.cell 7 rfl
  have xx8 := HKX_wz16.out.cell 8 rfl
  have xx9 := HKX_wz16.out.cell 9 rfl
  have yz0 := HKY_wz16.out.cell 0 rfl
  have fyz0 := HKY_wz16.out.frozen 0
  have yz1 := HKY_wz16.out.cell 1 rfl
  have fyz1 := HKY_wz16.out.frozen 1
  have yz2 := HKY_wz16.out.cell 2 rfl
  have fyz2 := HKY_wz16.out.frozen 2
  have yz3 := HKY_wz16.out.cell 3 rfl
  have fyz3 := HKY_wz16.out.frozen 3
  have yz4 := HKY_wz16.out.cell 4 rfl
  have fyz4 := HKY_wz16.out.frozen 4
  have yz5 := HKY_wz16.out.cell 5 rfl
  have fyz5 := HKY_wz16.out.frozen 5
  have yz6 := HKY_wz16.out.cell 6 rfl
  have fyz6 := HKY_wz16.out.frozen 6
  have yz7 := HKY_wz16.out.cell 7 rfl
  have fyz7 := HKY_wz16.out.frozen 7
  have yz8 := HKY_wz16.out.cell 8 rfl
  have fyz8 := HKY_wz16.out.frozen 8
  have yz9 := HKY_wz16.out.cell 9 rfl
  have fyz9 := HKY_wz16.out.frozen 9
  obtain ⟨wz17, hwz17⟩ : ∃ x, wz16.setCell ⟨wz5.heap.size, 9, none⟩ (.string SM) = x := ⟨_, rfl⟩
  have HKX_wz17 : Hid (Bk wz17 wz2.heap.size [.int .i64 X.xid, .int .i64 X.rpc, .int .i64 X.prog, .int .i64 X.vers, .int .i64 X.proc, .int .i64 X.cred.flavor, .string ⟨X.cred.body.toArray⟩, .int .i64 X.verf.flavor, .string ⟨X.verf.body.toArray⟩, .string SM] 25) := by rw [← hwz17]; exact HKX_wz16.out.of (Below.heap_setCell _ _ _ _ (Nat.ne_of_lt HNEXY.out))
  clear HKX_wz16
  have HKY_wz17 : Hid (Bk wz17 wz5.heap.size [.int .i64 XI2, .bool false, .int .i64 VE2.flavor, .string ⟨VE2.body.toArray⟩, .int .i64 0, .int .i64 0, .int .i64 0, .int .i64 0, .int .i64 0, .string SM] 27) := by rw [← hwz17]; exact HKY_wz16.out.set 9 _
  clear HKY_wz16
  have HKA_wz17 : Hid (Bk wz17 wz12.heap.size [.int .i64 X.xid, .int .i64 X.rpc, .int .i64 X.prog, .int .i64 X.vers, .int .i64 X.proc, .int .i64 X.cred.flavor, .string ⟨X.cred.body.toArray⟩, .int .i64 X.verf.flavor, .string ⟨X.verf.body.toArray⟩, .string SM] 25) := by rw [← hwz17]; exact HKA_wz16.out.of (Below.heap_setCell _ _ _ _ (Nat.ne_of_gt HNEYA.out))
  clear HKA_wz16
  have HKB_wz17 : Hid (Bk wz17 wz14.heap.size [.int .i64 XI2, .bool false, .int .i64 VE2.flavor, .string ⟨VE2.body.toArray⟩, .int .i64 0, .int .i64 0, .int .i64 0, .int .i64 0, .int .i64 0, .string SM] 27) := by rw [← hwz17]; exact HKB_wz16.out.of (Below.heap_setCell _ _ _ _ (Nat.ne_of_gt HNEYB.out))
  clear HKB_wz16
  have HB_wz17 : Hid (Below w.heap.size w wz17) := by rw [← hwz17]; exact HB_wz16.out.setCell HLEY.out _
  have HE_wz17 := hid (HT0.out.below HB_wz17.out)
  have xa0 := HKX_wz17.out.cell 0 rfl
  have xa1 := HKX_wz17.out.cell 1 rfl
  have xa2 := HKX_wz17.out.cell 2 rfl
  have xa3 := HKX_wz17.out.cell 3 rfl
  have xa4 := HKX_wz17.out.cell 4 rfl
  have xa5 := HKX_wz17.out.cell 5 rfl
  have xa6 := HKX_wz17.out.cell 6 rfl
  have xa7 := HKX_wz17.out.cell 7 rfl
  have xa8 := HKX_wz17.out.cell 8 rfl
  have xa9 := HKX_wz17.out.cell 9 rfl
  have ya0 := HKY_wz17.out.cell 0 rfl
  have ya1 := HKY_wz17.out.cell 1 rfl
  have ya2 := HKY_wz17.out.cell 2 rfl
  have ya3 := HKY_wz17.out.cell 3 rfl
  have ya4 := HKY_wz17.out.cell 4 rfl
  have ya5 := HKY_wz17.out.cell 5 rfl
  have ya6 := HKY_wz17.out.cell 6 rfl
  have ya7 := HKY_wz17.out.cell 7 rfl
  have ya8 := HKY_wz17.out.cell 8 rfl
  have ya9 := HKY_wz17.out.cell 9 rfl
  have aa0 := HKA_wz17.out.cell 0 rfl
  have aa1 := HKA_wz17.out.cell 1 rfl
  have aa2 := HKA_wz17.out.cell 2 rfl
  have aa3 := HKA_wz17.out.cell 3 rfl
  have aa4 := HKA_wz17.out.cell 4 rfl
  have aa5 := HKA_wz17.out.cell 5 rfl
  have aa6 := HKA_wz17.out.cell 6 rfl
  have aa7 := HKA_wz17.out.cell 7 rfl
  have aa8 := HKA_wz17.out.cell 8 rfl
  have aa9 := HKA_wz17.out.cell 9 rfl
  have bb0 := HKB_wz17.out.cell 0 rfl
  have bb1 := HKB_wz17.out.cell 1 rfl
  have bb2 := HKB_wz17.out.cell 2 rfl
  have bb3 := HKB_wz17.out.cell 3 rfl
  have bb4 := HKB_wz17.out.cell 4 rfl
  have bb5 := HKB_wz17.out.cell 5 rfl
  have bb6 := HKB_wz17.out.cell 6 rfl
  have bb7 := HKB_wz17.out.cell 7 rfl
  have bb8 := HKB_wz17.out.cell 8 rfl
  have bb9 := HKB_wz17.out.cell 9 rfl
  go_wp2_with fail
  refine (HPK.out _).mono ?_
  rintro e w9 ⟨rfl, hw⟩
  have hw2 := hw.symm
  clear hw
  subst hw2
  clear x0 fx0 x1 fx1 x2 fx2 x3 fx3 x4 fx4 x5 fx5 x6 fx6 x7 fx7 x8 fx8 x9 fx9
  clear y0 fy0 y1 fy1 y2 fy2 y3 fy3 y4 fy4 y5 fy5 y6 fy6 y7 fy7 y8 fy8 y9 fy9
  clear yz0 fyz0 yz1 fyz1 yz2 fyz2 yz3 fyz3 yz4 fyz4 yz5 fyz5 yz6 fyz6 yz7 fyz7 yz8 fyz8 yz9 fyz9
  clear xx0 xx1 xx2 xx3 xx4 xx5 xx6 xx7 xx8 xx9
  clear ya0 ya1 ya2 ya3 ya4 ya5 ya6 ya7 ya8 ya9
  clear aa0 aa1 aa2 aa3 aa4 aa5 aa6 aa7 aa8 aa9
  clear bb0 bb1 bb2 bb3 bb4 bb5 bb6 bb7 bb8 bb9
  clear HKA_wz17
  clear HKB_wz17
  clear HKY_wz17
  by_cases h2 : NV = 2
  · have h3 : (NV == 2) = true := beq_iff_eq.2 h2
    have hNN : isW (3 : Int) := by decide
    obtain ⟨wv, hwv⟩ : ∃ x, wz17.alloc (.cells #[.int .u8 0, .int .u8 0, .int .u8 0, .int .u8 3] 5) = x := ⟨_, rfl⟩
    have hB : Below wz17.heap.size wz17 wv := hwv ▸ below_new _ _
    have hcv0 := four_cells 3 wz17 0 0 0 3 (by decide) (by decide) (by decide) (by decide)
    obtain ⟨SV, hSV⟩ : ∃ x : ByteArray, x = ⟨(nbL 4 (3 : Int).toNat).toArray⟩ := ⟨_, rfl⟩
    have hcv : (convert 43 9 (.slice (some ⟨wz17.heap.size, 0, none⟩) 4 4)).run Tryd.prog wv = .ok (.string SV) wv := by rw [← hwv, hSV]; exact hcv0
    have sv : SV.size = 4 := by rw [hSV, ba_size, nbL_len]
    have e8 : (SX.extract 0 8).size = 8 := by rw [ByteArray.size_extract]; omega
    obtain ⟨DD, hDD⟩ : ∃ d, d = (⟨X.xid, 3, 0, 0, 0, nulA, nulA, []⟩ : CallP) := ⟨_, rfl⟩
    have HOT2 : Hid (∀ w, ErrT w → Calls Tryd.prog 10 #[.string (SX.extract 0 8 ++ SV ++ SO)] w fun e w' => e = .returned (.tuple #[.agg #[.int .i64 DD.xid, .int .i64 DD.rpc, .int .i64 DD.prog, .int .i64 DD.vers, .int .i64 DD.proc, .int .i64 DD.cred.flavor, .string ⟨DD.cred.body.toArray⟩, .int .i64 DD.verf.flavor, .string ⟨DD.verf.body.toArray⟩, .string ⟨DD.args.toArray⟩], .int .i64 0]) ∧ Below w.heap.size w w') := fun w h => by
      have := HOT.out 3 hNN (by decide) w h
      rw [← hSV, ← hDD] at this
      exact this
    have eqD2 : ∀ w : World, (binOp .eql 25 (.agg #[.int .i64 DD.xid, .int .i64 DD.rpc, .int .i64 DD.prog, .int .i64 DD.vers, .int .i64 DD.proc, .int .i64 DD.cred.flavor, .string ⟨DD.cred.body.toArray⟩, .int .i64 DD.verf.flavor, .string ⟨DD.verf.body.toArray⟩, .string ⟨DD.args.toArray⟩]) (.agg #[.int .i64 X.xid, .int .i64 3, .int .i64 0, .int .i64 0, .int .i64 0, .int .i64 0, .string ⟨#[]⟩, .int .i64 0, .string ⟨#[]⟩, .string ⟨#[]⟩])).run Tryd.prog w = .ok (.bool true) w := fun w => by
      have := eqD.out 3 w
      rw [← hDD] at this
      exact this
    have HKX_wv : Hid (Bk wv wz2.heap.size [.int .i64 X.xid, .int .i64 X.rpc, .int .i64 X.prog, .int .i64 X.vers, .int .i64 X.proc, .int .i64 X.cred.flavor, .string ⟨X.cred.body.toArray⟩, .int .i64 X.verf.flavor, .string ⟨X.verf.body.toArray⟩, .string SM] 25) := HKX_wz17.out.below hB HKX_wz17.out.lt
    clear HKX_wz17
    have HB_wv : Hid (Below w.heap.size w wv) := HB_wz17.out.trans (hB.mono HB_wz17.out.size)
    have HE_wv := hid (HT0.out.below HB_wv.out)
    clear hB hSV hDD hcv0 hNN
    go_wp2_with fail
    refine (HOT2.out _ HE_wv.out).mono ?_
    rintro e wz18 ⟨rfl, hB⟩
    have HKX_wz18 : Hid (Bk wz18 wz2.heap.size [.int .i64 X.xid, .int .i64 X.rpc, .int .i64 X.prog, .int .i64 X.vers, .int .i64 X.proc, .int .i64 X.cred.flavor, .string ⟨X.cred.body.toArray⟩, .int .i64 X.verf.flavor, .string ⟨X.verf.body.toArray⟩, .string SM] 25) := HKX_wv.out.below hB HKX_wv.out.lt
    clear HKX_wv
    have HB_wz18 : Hid (Below w.heap.size w wz18) := HB_wv.out.trans (hB.mono HB_wv.out.size)
    have HE_wz18 := hid (HT0.out.below HB_wz18.out)
    clear hB
    have HNEXD : Hid (wz2.heap.size < wz18.heap.size) := HKX_wz18.out.lt
    have HLED : Hid (w.heap.size ≤ wz18.heap.size) := HB_wz18.out.size
    obtain ⟨wz19, hwz19⟩ : ∃ x, wz18.alloc (.cells #[.int .i64 DD.xid, .int .i64 DD.rpc, .int .i64 DD.prog, .int .i64 DD.vers, .int .i64 DD.proc, .int .i64 DD.cred.flavor, .string ⟨DD.cred.body.toArray⟩, .int .i64 DD.verf.flavor, .string ⟨DD.verf.body.toArray⟩, .string ⟨DD.args.toArray⟩] 25) = x := ⟨_, rfl⟩
    obtain ⟨hk, hB, hz⟩ := boxed wz18 wz19 _ _ hwz19
    have HKX_wz19 : Hid (Bk wz19 wz2.heap.size [.int .i64 X.xid, .int .i64 X.rpc, .int .i64 X.prog, .int .i64 X.vers, .int .i64 X.proc, .int .i64 X.cred.flavor, .string ⟨X.cred.body.toArray⟩, .int .i64 X.verf.flavor, .string ⟨X.verf.body.toArray⟩, .string SM] 25) := HKX_wz18.out.below hB HKX_wz18.out.lt
    clear HKX_wz18
    have HB_wz19 : Hid (Below w.heap.size w wz19) := HB_wz18.out.trans (hB.mono HB_wz18.out.size)
    have HE_wz19 := hid (HT0.out.below HB_wz19.out)
    have HKD_wz19 : Hid (Bk wz19 wz18.heap.size [.int .i64 DD.xid, .int .i64 DD.rpc, .int .i64 DD.prog, .int .i64 DD.vers, .int .i64 DD.proc, .int .i64 DD.cred.flavor, .string ⟨DD.cred.body.toArray⟩, .int .i64 DD.verf.flavor, .string ⟨DD.verf.body.toArray⟩, .string ⟨DD.args.toArray⟩] 25) := hk
    clear hk hB hz
    have dd0 := HKD_wz19.out.cell 0 rfl
    have dd1 := HKD_wz19.out.cell 1 rfl
    have dd2 := HKD_wz19.out.cell 2 rfl
    have dd3 := HKD_wz19.out.cell 3 rfl
    have dd4 := HKD_wz19.out.cell 4 rfl
    have dd5 := HKD_wz19.out.cell 5 rfl
    have dd6 := HKD_wz19.out.cell 6 rfl
    have dd7 := HKD_wz19.out.cell 7 rfl
    have dd8 := HKD_wz19.out.cell 8 rfl
    have dd9 := HKD_wz19.out.cell 9 rfl
    have xb0 := HKX_wz19.out.cell 0 rfl
    have xb1 := HKX_wz19.out.cell 1 rfl
    have xb2 := HKX_wz19.out.cell 2 rfl
    have xb3 := HKX_wz19.out.cell 3 rfl
    have xb4 := HKX_wz19.out.cell 4 rfl
    have xb5 := HKX_wz19.out.cell 5 rfl
    have xb6 := HKX_wz19.out.cell 6 rfl
    have xb7 := HKX_wz19.out.cell 7 rfl
    have xb8 := HKX_wz19.out.cell 8 rfl
    have xb9 := HKX_wz19.out.cell 9 rfl
    go_wp2
    go_ret
    exact ⟨rfl, HB_wz19.out⟩
  · have h3 : (NV == 2) = false := beq_eq_false_iff_ne.2 h2
    have hNN : isW (NV : Int) := HNV.out
    obtain ⟨wv, hwv⟩ : ∃ x, wz17.alloc (.cells #[.int .u8 (NV / 16777216 % 256), .int .u8 (NV / 65536 % 256), .int .u8 (NV / 256 % 256), .int .u8 (NV % 256)] 5) = x := ⟨_, rfl⟩
    have hB : Below wz17.heap.size wz17 wv := hwv ▸ below_new _ _
    have hcv0 := four_cells NV.toNat wz17 _ _ _ _ (by rw [(toNat_w HNV.out).2]) (by rw [(toNat_w HNV.out).2]) (by rw [(toNat_w HNV.out).2]) (by rw [(toNat_w HNV.out).2])
    obtain ⟨SV, hSV⟩ : ∃ x : ByteArray, x = ⟨(nbL 4 (NV : Int).toNat).toArray⟩ := ⟨_, rfl⟩
    have hcv : (convert 43 9 (.slice (some ⟨wz17.heap.size, 0, none⟩) 4 4)).run Tryd.prog wv = .ok (.string SV) wv := by rw [← hwv, hSV]; exact hcv0
    have sv : SV.size = 4 := by rw [hSV, ba_size, nbL_len]
    have e8 : (SX.extract 0 8).size = 8 := by rw [ByteArray.size_extract]; omega
    obtain ⟨DD, hDD⟩ : ∃ d, d = (⟨X.xid, NV, 0, 0, 0, nulA, nulA, []⟩ : CallP) := ⟨_, rfl⟩
    have HOT2 : Hid (∀ w, ErrT w → Calls Tryd.prog 10 #[.string (SX.extract 0 8 ++ SV ++ SO)] w fun e w' => e = .returned (.tuple #[.agg #[.int .i64 DD.xid, .int .i64 DD.rpc, .int .i64 DD.prog, .int .i64 DD.vers, .int .i64 DD.proc, .int .i64 DD.cred.flavor, .string ⟨DD.cred.body.toArray⟩, .int .i64 DD.verf.flavor, .string ⟨DD.verf.body.toArray⟩, .string ⟨DD.args.toArray⟩], .int .i64 0]) ∧ Below w.heap.size w w') := fun w h => by
      have := HOT.out NV hNN (h2) w h
      rw [← hSV, ← hDD] at this
      exact this
    have eqD2 : ∀ w : World, (binOp .eql 25 (.agg #[.int .i64 DD.xid, .int .i64 DD.rpc, .int .i64 DD.prog, .int .i64 DD.vers, .int .i64 DD.proc, .int .i64 DD.cred.flavor, .string ⟨DD.cred.body.toArray⟩, .int .i64 DD.verf.flavor, .string ⟨DD.verf.body.toArray⟩, .string ⟨DD.args.toArray⟩]) (.agg #[.int .i64 X.xid, .int .i64 NV, .int .i64 0, .int .i64 0, .int .i64 0, .int .i64 0, .string ⟨#[]⟩, .int .i64 0, .string ⟨#[]⟩, .string ⟨#[]⟩])).run Tryd.prog w = .ok (.bool true) w := fun w => by
      have := eqD.out NV w
      rw [← hDD] at this
      exact this
    have HKX_wv : Hid (Bk wv wz2.heap.size [.int .i64 X.xid, .int .i64 X.rpc, .int .i64 X.prog, .int .i64 X.vers, .int .i64 X.proc, .int .i64 X.cred.flavor, .string ⟨X.cred.body.toArray⟩, .int .i64 X.verf.flavor, .string ⟨X.verf.body.toArray⟩, .string SM] 25) := HKX_wz17.out.below hB HKX_wz17.out.lt
    clear HKX_wz17
    have HB_wv : Hid (Below w.heap.size w wv) := HB_wz17.out.trans (hB.mono HB_wz17.out.size)
    have HE_wv := hid (HT0.out.below HB_wv.out)
    clear hB hSV hDD hcv0 hNN
    go_wp2_with fail
    refine (HOT2.out _ HE_wv.out).mono ?_
    rintro e wz18 ⟨rfl, hB⟩
    have HKX_wz18 : Hid (Bk wz18 wz2.heap.size [.int .i64 X.xid, .int .i64 X.rpc, .int .i64 X.prog, .int .i64 X.vers, .int .i64 X.proc, .int .i64 X.cred.flavor, .string ⟨X.cred.body.toArray⟩, .int .i64 X.verf.flavor, .string ⟨X.verf.body.toArray⟩, .string SM] 25) := HKX_wv.out.below hB HKX_wv.out.lt
    clear HKX_wv
    have HB_wz18 : Hid (Below w.heap.size w wz18) := HB_wv.out.trans (hB.mono HB_wv.out.size)
    have HE_wz18 := hid (HT0.out.below HB_wz18.out)
    clear hB
    have HNEXD : Hid (wz2.heap.size < wz18.heap.size) := HKX_wz18.out.lt
    have HLED : Hid (w.heap.size ≤ wz18.heap.size) := HB_wz18.out.size
    obtain ⟨wz19, hwz19⟩ : ∃ x, wz18.alloc (.cells #[.int .i64 DD.xid, .int .i64 DD.rpc, .int .i64 DD.prog, .int .i64 DD.vers, .int .i64 DD.proc, .int .i64 DD.cred.flavor, .string ⟨DD.cred.body.toArray⟩, .int .i64 DD.verf.flavor, .string ⟨DD.verf.body.toArray⟩, .string ⟨DD.args.toArray⟩] 25) = x := ⟨_, rfl⟩
    obtain ⟨hk, hB, hz⟩ := boxed wz18 wz19 _ _ hwz19
    have HKX_wz19 : Hid (Bk wz19 wz2.heap.size [.int .i64 X.xid, .int .i64 X.rpc, .int .i64 X.prog, .int .i64 X.vers, .int .i64 X.proc, .int .i64 X.cred.flavor, .string ⟨X.cred.body.toArray⟩, .int .i64 X.verf.flavor, .string ⟨X.verf.body.toArray⟩, .string SM] 25) := HKX_wz18.out.below hB HKX_wz18.out.lt
    clear HKX_wz18
    have HB_wz19 : Hid (Below w.heap.size w wz19) := HB_wz18.out.trans (hB.mono HB_wz18.out.size)
    have HE_wz19 := hid (HT0.out.below HB_wz19.out)
    have HKD_wz19 : Hid (Bk wz19 wz18.heap.size [.int .i64 DD.xid, .int .i64 DD.rpc, .int .i64 DD.prog, .int .i64 DD.vers, .int .i64 DD.proc, .int .i64 DD.cred.flavor, .string ⟨DD.cred.body.toArray⟩, .int .i64 DD.verf.flavor, .string ⟨DD.verf.body.toArray⟩, .string ⟨DD.args.toArray⟩] 25) := hk
    clear hk hB hz
    have dd0 := HKD_wz19.out.cell 0 rfl
    have dd1 := HKD_wz19.out.cell 1 rfl
    have dd2 := HKD_wz19.out.cell 2 rfl
    have dd3 := HKD_wz19.out.cell 3 rfl
    have dd4 := HKD_wz19.out.cell 4 rfl
    have dd5 := HKD_wz19.out.cell 5 rfl
    have dd6 := HKD_wz19.out.cell 6 rfl
    have dd7 := HKD_wz19.out.cell 7 rfl
    have dd8 := HKD_wz19.out.cell 8 rfl
    have dd9 := HKD_wz19.out.cell 9 rfl
    have xb0 := HKX_wz19.out.cell 0 rfl
    have xb1 := HKX_wz19.out.cell 1 rfl
    have xb2 := HKX_wz19.out.cell 2 rfl
    have xb3 := HKX_wz19.out.cell 3 rfl
    have xb4 := HKX_wz19.out.cell 4 rfl
    have xb5 := HKX_wz19.out.cell 5 rfl
    have xb6 := HKX_wz19.out.cell 6 rfl
    have xb7 := HKX_wz19.out.cell 7 rfl
    have xb8 := HKX_wz19.out.cell 8 rfl
    have xb9 := HKX_wz19.out.cell 9 rfl
    go_wp2
    go_ret
    exact ⟨rfl, HB_wz19.out⟩
theorem messageHeads_any (c : CallP) (r : ReplyP) (more : List UInt8) (ver : Int) (w : World) (hT : ErrT w) (hc : Call64 c) (hr : Reply64 r) (hv : In64 ver) :
    Calls Tryd.prog 4 #[.agg (callV c).toArray, .agg (replyV r).toArray, .string ⟨more.toArray⟩, .int .i64 ver] w fun e w' => e = .returned (.bool true) ∧ Below w.heap.size w w' := by
  by_cases h : (more.length : Int) ≤ 2147481647
  · exact heads_short c r more ver w hT hc hr hv h
  · exact heads_long c r ⟨more.toArray⟩ ver w (by rw [ba_size]; omega)
end Go.Proofs.YtfkggcinpklgmaaDoor
