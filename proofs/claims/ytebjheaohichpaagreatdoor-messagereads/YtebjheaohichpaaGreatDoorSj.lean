/- M2, M3: any text; what a call and a reply that may be are printed as, bent, cut, longer: read as the document reads it. -/
import Derived.Test.YtebjheaohichpaaGreatDoorSi
import Derived.Test.YtebjheaohichpaaGreatDoorPm
import Derived.Test.YtebjheaohichpaaGreatDoorGt
import Derived.Test.YtebjheaohichpaaGreatDoorGz
namespace Go.Proofs.YtebjheaohichpaaGreatDoor
open Go.RowKit
theorem readsB (t : ByteArray) (w : World) (hT : ErrT w) (hl : t.size ≤ 140737488355328) :
    Calls Tryz.prog 10 #[.string t] w fun e w' => e = .returned (.bool true) ∧ Below w.heap.size w w' := by
  have := reads_any t.data.toList w hT (by simpa using hl)
  rwa [show (⟨t.data.toList.toArray⟩ : ByteArray) = t by simp] at this
theorem may_args {c : CallP} (h : c.may) : c.args.length ≤ 140737488355328 := by
  have := h.2.2.2.2.2.2.2.1
  omega
theorem may_res {r : ReplyP} (h : r.may) : r.results.length ≤ 140737488355328 := by
  have h2 := h.2
  split at h2
  · rw [h2.2.2.1]; simp
  · rcases h2.2.2.2.2.2 with ⟨_, h3, _⟩ | ⟨_, _, _, h3⟩ | ⟨_, _, _, _, h3⟩
    · have := h3.1; omega
    · rw [h3]; simp
    · rw [h3]; simp
set_option maxRecDepth 8000 in
set_option maxHeartbeats 8000000 in
theorem messageReads_any (s : ByteArray) (c : CallP) (r : ReplyP) (at_ by_ : Int) (w : World) (hT : ErrT w) (hc : Call64 c) (hr : Reply64 r) (ha : -9223372036854775808 ≤ at_ ∧ at_ ≤ 9223372036854775807) (hs : s.size ≤ 140737488355328) :
    Calls Tryz.prog 4 #[.string s, .agg (callV c).toArray, .agg (replyV r).toArray, .int .i64 at_, .int .i64 by_] w fun e w' => e = .returned (.bool true) ∧ Below w.heap.size w w' := by
  have HKN := hid (fun w h => knownM_any w h)
  have H1 := hid (fun w => fitted_any c w hc)
  have H2 := hid (fun w => dprintCall_any (fitP c) w (may_args (fit_may c)))
  have H3 := hid (fun w => told_any r w hr)
  have H4 := hid (fun w => dprintReply_any (tolP r) w (may_res (tol_may r)))
  rw [pc_may (fit_may c)] at H2
  rw [pr_may (tol_may r)] at H4
  have hx1 := (lay_four _ (fit_may c)).2
  have hx2 := (rlay_four _ (tol_may r)).2
  obtain ⟨X1, hX1⟩ : ∃ X : ByteArray, (⟨(fitP c).lay.toArray⟩ : ByteArray) = X := ⟨_, rfl⟩
  obtain ⟨X2, hX2⟩ : ∃ X : ByteArray, (⟨(tolP r).lay.toArray⟩ : ByteArray) = X := ⟨_, rfl⟩
  have HX : Hid (X1.size ≤ 1840 ∧ X2.size ≤ 1840) := by
    rw [← hX1, ← hX2]
    exact ⟨by show (fitP c).lay.toArray.size ≤ _; simpa using hx1, by show (tolP r).lay.toArray.size ≤ _; simpa using hx2⟩
  rw [hX1] at H2
  rw [hX2] at H4
  clear hx1 hx2 hX1 hX2
  obtain ⟨C2, hC2⟩ : ∃ C, fitP c = C := ⟨_, rfl⟩
  obtain ⟨R2, hR2⟩ : ∃ C, tolP r = C := ⟨_, rfl⟩
  rw [hC2] at H1 H2
  rw [hR2] at H3 H4
  clear hC2 hR2
  simp only [callV, replyV] at H1 H2 H3 H4 ⊢
  have HRd := hid readsB
  have HBe : Hid (∀ (t : ByteArray) (a : Int) (w : World), (-9223372036854775808 ≤ a ∧ a ≤ 9223372036854775807) → t.size ≤ 140737488355328 → Calls Tryz.prog 13 #[.string t, .int .i64 a, .int .i64 by_] w fun e w' => ∃ t' : ByteArray, e = .returned (.string t') ∧ t'.size = t.size ∧ Below w.heap.size w w') := fun t a w h1 h2 => bent_any t a by_ w h1 h2
  have HPk : Hid (∀ (n : Int) (w : World), 1 ≤ n → n ≤ 9223372036854775807 → Calls Tryz.prog 14 #[.int .i64 at_, .int .i64 n] w fun e w' => e = .returned (.int .i64 (pickP at_ n)) ∧ w' = w) := fun n w h1 h2 => pick_any at_ n w ha.1 ha.2 h1 h2
  obtain ⟨wa, hwa⟩ : ∃ x, w.alloc (.cells #[.int .i64 c.xid, .int .i64 c.rpc, .int .i64 c.prog, .int .i64 c.vers, .int .i64 c.proc, .int .i64 c.cred.flavor, .string ⟨c.cred.body.toArray⟩, .int .i64 c.verf.flavor, .string ⟨c.verf.body.toArray⟩, .string ⟨c.args.toArray⟩] 25) = x := ⟨_, rfl⟩
  obtain ⟨hk, hB, hz⟩ := boxed w wa _ _ hwa
  obtain ⟨wb, hwb⟩ : ∃ x, wa.alloc (.cells #[.int .i64 r.xid, .bool r.denied, .int .i64 r.verf.flavor, .string ⟨r.verf.body.toArray⟩, .int .i64 r.accept, .int .i64 r.reject, .int .i64 r.why, .int .i64 r.low, .int .i64 r.high, .string ⟨r.results.toArray⟩] 27) = x := ⟨_, rfl⟩
  obtain ⟨hk2, hB2, hz2⟩ := boxed wa wb _ _ hwb
  have HKC_wb : Hid (Bk wb w.heap.size [.int .i64 c.xid, .int .i64 c.rpc, .int .i64 c.prog, .int .i64 c.vers, .int .i64 c.proc, .int .i64 c.cred.flavor, .string ⟨c.cred.body.toArray⟩, .int .i64 c.verf.flavor, .string ⟨c.verf.body.toArray⟩, .string ⟨c.args.toArray⟩] 25) := hk.below hB2 (by omega)
  have HKR_wb : Hid (Bk wb (w.heap.size + 1) [.int .i64 r.xid, .bool r.denied, .int .i64 r.verf.flavor, .string ⟨r.verf.body.toArray⟩, .int .i64 r.accept, .int .i64 r.reject, .int .i64 r.why, .int .i64 r.low, .int .i64 r.high, .string ⟨r.results.toArray⟩] 27) := by rw [hz] at hk2; exact hk2
  have HB_wb : Hid (Below w.heap.size w wb) := hB.trans (hB2.mono (by omega))
  have HT0 := hid hT
  have HT : Hid (ErrT w) := hT
  have HE_wb := hid (hT.below HB_wb.out)
  have HA := hid ha
  have HSS := hid hs
  clear hk hk2 hB hB2 hz2 hT hc hr ha
  have hza := hz
  clear hz
  by_cases hbig : 2147481647 < s.size
  · have hb : decide ((2147481647 : Int) < (s.size : Int)) = true := decide_eq_true (by omega)
    clear hbig hs
    go_enter Tryz.func4, Tryz.ntmps4
    go_wp2
    go_ret
    exact ⟨rfl, HB_wb.out⟩
  have hb : decide ((2147481647 : Int) < (s.size : Int)) = false := decide_eq_false (by omega)
  have HS31 : Hid (s.size ≤ 2147481647) := by show _ ≤ _; omega
  clear hbig hs
  go_enter Tryz.func4, Tryz.ntmps4
  go_wp2_with fail
  refine (HKN.out _ HE_wb.out).mono ?_
  rintro e wz1 ⟨rfl, hB⟩
  have HKC_wz1 : Hid (Bk wz1 w.heap.size [.int .i64 c.xid, .int .i64 c.rpc, .int .i64 c.prog, .int .i64 c.vers, .int .i64 c.proc, .int .i64 c.cred.flavor, .string ⟨c.cred.body.toArray⟩, .int .i64 c.verf.flavor, .string ⟨c.verf.body.toArray⟩, .string ⟨c.args.toArray⟩] 25) := HKC_wb.out.below hB HKC_wb.out.lt
  clear HKC_wb
  have HKR_wz1 : Hid (Bk wz1 (w.heap.size + 1) [.int .i64 r.xid, .bool r.denied, .int .i64 r.verf.flavor, .string ⟨r.verf.body.toArray⟩, .int .i64 r.accept, .int .i64 r.reject, .int .i64 r.why, .int .i64 r.low, .int .i64 r.high, .string ⟨r.results.toArray⟩] 27) := HKR_wb.out.below hB HKR_wb.out.lt
  clear HKR_wb
  have HB_wz1 : Hid (Below w.heap.size w wz1) := HB_wb.out.trans (hB.mono HB_wb.out.size)
  have HE_wz1 := hid (HT0.out.below HB_wz1.out)
  clear hB
  clear hwa hwb hb
  go_wp2_with fail
  refine (HRd.out s _ HE_wz1.out HSS.out).mono ?_
  rintro e wz2 ⟨rfl, hB⟩
  have HKC_wz2 : Hid (Bk wz2 w.heap.size [.int .i64 c.xid, .int .i64 c.rpc, .int .i64 c.prog, .int .i64 c.vers, .int .i64 c.proc, .int .i64 c.cred.flavor, .string ⟨c.cred.body.toArray⟩, .int .i64 c.verf.flavor, .string ⟨c.verf.body.toArray⟩, .string ⟨c.args.toArray⟩] 25) := HKC_wz1.out.below hB HKC_wz1.out.lt
  clear HKC_wz1
  have HKR_wz2 : Hid (Bk wz2 (w.heap.size + 1) [.int .i64 r.xid, .bool r.denied, .int .i64 r.verf.flavor, .string ⟨r.verf.body.toArray⟩, .int .i64 r.accept, .int .i64 r.reject, .int .i64 r.why, .int .i64 r.low, .int .i64 r.high, .string ⟨r.results.toArray⟩] 27) := HKR_wz1.out.below hB HKR_wz1.out.lt
  clear HKR_wz1
  have HB_wz2 : Hid (Below w.heap.size w wz2) := HB_wz1.out.trans (hB.mono HB_wz1.out.size)
  have HE_wz2 := hid (HT0.out.below HB_wz2.out)
  clear hB
  have c0 := HKC_wz2.out.cell 0 rfl
  have c1 := HKC_wz2.out.cell 1 rfl
  have c2 := HKC_wz2.out.cell 2 rfl
  have c3 := HKC_wz2.out.cell 3 rfl
  have c4 := HKC_wz2.out.cell 4 rfl
  have c5 := HKC_wz2.out.cell 5 rfl
  have c6 := HKC_wz2.out.cell 6 rfl
  have c7 := HKC_wz2.out.cell 7 rfl
  have c8 := HKC_wz2.out.cell 8 rfl
  have c9 := HKC_wz2.out.cell 9 rfl
  go_wp2_with fail
  refine (H1.out _).mono ?_
  rintro e wz3 ⟨rfl, hB⟩
  have HKC_wz3 : Hid (Bk wz3 w.heap.size [.int .i64 c.xid, .int .i64 c.rpc, .int .i64 c.prog, .int .i64 c.vers, .int .i64 c.proc, .int .i64 c.cred.flavor, .string ⟨c.cred.body.toArray⟩, .int .i64 c.verf.flavor, .string ⟨c.verf.body.toArray⟩, .string ⟨c.args.toArray⟩] 25) := HKC_wz2.out.below hB HKC_wz2.out.lt
  clear HKC_wz2
  have HKR_wz3 : Hid (Bk wz3 (w.heap.size + 1) [.int .i64 r.xid, .bool r.denied, .int .i64 r.verf.flavor, .string ⟨r.verf.body.toArray⟩, .int .i64 r.accept, .int .i64 r.reject, .int .i64 r.why, .int .i64 r.low, .int .i64 r.high, .string ⟨r.results.toArray⟩] 27) := HKR_wz2.out.below hB HKR_wz2.out.lt
  clear HKR_wz2
  have HB_wz3 : Hid (Below w.heap.size w wz3) := HB_wz2.out.trans (hB.mono HB_wz2.out.size)
  have HE_wz3 := hid (HT0.out.below HB_wz3.out)
  clear hB
  clear c0 c1 c2 c3 c4 c5 c6 c7 c8 c9
  clear HKC_wz3
  go_wp2_with fail
  refine (H2.out _).mono ?_
  rintro e wz4 ⟨rfl, hB⟩
  have HKR_wz4 : Hid (Bk wz4 (w.heap.size + 1) [.int .i64 r.xid, .bool r.denied, .int .i64 r.verf.flavor, .string ⟨r.verf.body.toArray⟩, .int .i64 r.accept, .int .i64 r.reject, .int .i64 r.why, .int .i64 r.low, .int .i64 r.high, .string ⟨r.results.toArray⟩] 27) := HKR_wz3.out.below hB HKR_wz3.out.lt
  clear HKR_wz3
  have HB_wz4 : Hid (Below w.heap.size w wz4) := HB_wz3.out.trans (hB.mono HB_wz3.out.size)
  have HE_wz4 := hid (HT0.out.below HB_wz4.out)
  clear hB
  have r0 := HKR_wz4.out.cell 0 rfl
  have r1 := HKR_wz4.out.cell 1 rfl
  have r2 := HKR_wz4.out.cell 2 rfl
  have r3 := HKR_wz4.out.cell 3 rfl
  have r4 := HKR_wz4.out.cell 4 rfl
  have r5 := HKR_wz4.out.cell 5 rfl
  have r6 := HKR_wz4.out.cell 6 rfl
  have r7 := HKR_wz4.out.cell 7 rfl
  have r8 := HKR_wz4.out.cell 8 rfl
  have r9 := HKR_wz4.out.cell 9 rfl
  go_wp2_with fail
  refine (H3.out _).mono ?_
  rintro e wz5 ⟨rfl, hB⟩
  have HKR_wz5 : Hid (Bk wz5 (w.heap.size + 1) [.int .i64 r.xid, .bool r.denied, .int .i64 r.verf.flavor, .string ⟨r.verf.body.toArray⟩, .int .i64 r.accept, .int .i64 r.reject, .int .i64 r.why, .int .i64 r.low, .int .i64 r.high, .string ⟨r.results.toArray⟩] 27) := HKR_wz4.out.below hB HKR_wz4.out.lt
  clear HKR_wz4
  have HB_wz5 : Hid (Below w.heap.size w wz5) := HB_wz4.out.trans (hB.mono HB_wz4.out.size)
  have HE_wz5 := hid (HT0.out.below HB_wz5.out)
  clear hB
  clear r0 r1 r2 r3 r4 r5 r6 r7 r8 r9
  clear HKR_wz5
  go_wp2_with fail
  refine (H4.out _).mono ?_
  rintro e wz6 ⟨rfl, hB⟩
  have HB_wz6 : Hid (Below w.heap.size w wz6) := HB_wz5.out.trans (hB.mono HB_wz5.out.size)
  have HE_wz6 := hid (HT0.out.below HB_wz6.out)
  clear hB
  obtain ⟨wl, hwl⟩ : ∃ y, wz6.alloc (.cells #[.string X1, .string X2] 9) = y := ⟨_, rfl⟩
  obtain ⟨hkl, hBl, hzl⟩ := boxed wz6 wl [.string X1, .string X2] 9 hwl
  obtain ⟨bl, hbl⟩ : ∃ b, wz6.heap.size = b := ⟨_, rfl⟩
  rw [hbl] at hkl
  have HLL := hid (And.intro hkl (HB_wz6.out.trans (hBl.mono HB_wz6.out.size)))
  clear hkl hBl hzl
  go_wp2_with fail
  clear hwl hbl
  go_loopw [18] (fun iv wr => ∃ k : Nat, iv = .int .i64 k ∧ k ≤ 2 ∧ Hid (Bk wr bl [.string X1, .string X2] 9 ∧ Below w.heap.size w wr)) (fun iv _ => 2 - (intOf iv).toNat)
  case atStart => exact ⟨0, rfl, by omega, HLL.out⟩
  case round =>
    obtain ⟨k, rfl, hk, HR⟩ := hrel
    obtain ⟨w0, hw0⟩ : ∃ y, y = wr := ⟨_, rfl⟩
    rw [← hw0] at HR ⊢
    clear hw0 HLL
    by_cases hlt : k < 2
    · have hk' : (k : Int) < 2 := by omega
      obtain ⟨t, hct, hts⟩ : ∃ t : ByteArray, w0.cell? ⟨bl, k, none⟩ = some (.string t) ∧ t.size ≤ 1840 := by
        rcases (show k = 0 ∨ k = 1 by omega) with rfl | rfl
        · exact ⟨X1, HR.out.1.cell 0 rfl, HX.out.1⟩
        · exact ⟨X2, HR.out.1.cell 1 rfl, HX.out.2⟩
      have HL_w0 := hid HR.out.1
      have HB_w0 := hid HR.out.2
      have HTS : Hid (t.size ≤ 140737488355328) := by show _ ≤ _; omega
      have HTM := hid hts
      clear hts HR HKN H1 H2 H3 H4
      have HC1 := hid (HRd.out t w0 (HT.out.below HB_w0.out) HTS.out)
      go_wp2_with fail
      refine HC1.out.mono ?_
      rintro e w1 ⟨rfl, hB⟩
      have HB_w1 : Hid (Below w.heap.size w w1) := HB_w0.out.trans (hB.mono HB_w0.out.size)
      have HL_w1 := hid (HL_w0.out.below hB HL_w0.out.lt)
      clear hB HC1 HL_w0
      clear hct
      have HC2 := hid (HBe.out t at_ w1 HA.out HTS.out)
      go_wp2_with fail
      refine HC2.out.mono ?_
      rintro e w2 ⟨t2, rfl, hz, hB⟩
      have HB_w2 : Hid (Below w.heap.size w w2) := HB_w1.out.trans (hB.mono HB_w1.out.size)
      have HL_w2 := hid (HL_w1.out.below hB HL_w1.out.lt)
      have HZ2 : Hid (t2.size ≤ 140737488355328) := by show t2.size ≤ _; rw [hz]; exact HTS.out
      clear hB hz HC2 HL_w1
      have HC3 := hid (HRd.out t2 w2 (HT.out.below HB_w2.out) HZ2.out)
      go_wp2_with fail
      refine HC3.out.mono ?_
      rintro e w3 ⟨rfl, hB⟩
      have HB_w3 : Hid (Below w.heap.size w w3) := HB_w2.out.trans (hB.mono HB_w2.out.size)
      have HL_w3 := hid (HL_w2.out.below hB HL_w2.out.lt)
      clear hB HC3 HL_w2
      have hp48 := pick_range at_ 48 (by omega)
      have H48 := hid (HPk.out 48 w3 (by omega) (by omega))
      obtain ⟨p48, hp⟩ : ∃ p, pickP at_ 48 = p := ⟨_, rfl⟩
      rw [hp] at hp48 H48
      have HP48 : Hid (-9223372036854775808 ≤ p48 ∧ p48 ≤ 9223372036854775807) := by show _ ∧ _; omega
      clear hp hp48
      go_wp2_with fail
      refine H48.out.mono ?_
      rintro e w' ⟨rfl, hw'⟩
      have hw2_ := hw'.symm
      clear hw' H48
      subst hw2_
      have HC4 := hid (HBe.out t p48 w3 HP48.out HTS.out)
      go_wp2_with fail
      refine HC4.out.mono ?_
      rintro e w4 ⟨t4, rfl, hz, hB⟩
      have HB_w4 : Hid (Below w.heap.size w w4) := HB_w3.out.trans (hB.mono HB_w3.out.size)
      have HL_w4 := hid (HL_w3.out.below hB HL_w3.out.lt)
      have HZ4 : Hid (t4.size ≤ 140737488355328) := by show t4.size ≤ _; rw [hz]; exact HTS.out
      clear hB hz HC4 HL_w3
      have HC5 := hid (HRd.out t4 w4 (HT.out.below HB_w4.out) HZ4.out)
      go_wp2_with fail
      refine HC5.out.mono ?_
      rintro e w5 ⟨rfl, hB⟩
      have HB_w5 : Hid (Below w.heap.size w w5) := HB_w4.out.trans (hB.mono HB_w4.out.size)
      have HL_w5 := hid (HL_w4.out.below hB HL_w4.out.lt)
      clear hB HC5 HL_w4
      have hpn := pick_range at_ (t.size + 1) (by omega)
      have hti : (t.size : Int) ≤ 1000000 := by have := HTM.out; omega
      have Hn := hid (HPk.out ((t.size : Int) + 1) w5 (by omega) (by omega))
      obtain ⟨n, hn⟩ : ∃ n : Nat, pickP at_ ((t.size : Int) + 1) = (n : Int) := ⟨(pickP at_ ((t.size : Int) + 1)).toNat, by omega⟩
      rw [hn] at Hn hpn
      have hnl : (n : Int) ≤ (t.size : Int) := by omega
      have hn0 : (0 : Int) ≤ (n : Int) := by omega
      have HNL := hid hnl
      have HC6 := hid (HRd.out (t.extract 0 n) w5 (HT.out.below HB_w5.out) (by have := HTS.out; simp; omega))
      clear hn hpn
      go_wp2_with (first | (go_at_call 14; refine Hn.out.mono ?_; rintro e w' ⟨rfl, hw'⟩; have hw2_ := hw'.symm; clear hw'; subst hw2_))
      refine HC6.out.mono ?_
      rintro e w6 ⟨rfl, hB⟩
      have HB_w6 : Hid (Below w.heap.size w w6) := HB_w5.out.trans (hB.mono HB_w5.out.size)
      have HL_w6 := hid (HL_w5.out.below hB HL_w5.out.lt)
      clear hB HC6 HL_w5 hnl hn0 hti Hn
      have hsum : (9223372036854775807 < t.size + s.size) = False := by
        have := HTM.out
        have := HS31.out
        simp; omega
      have HC7 := hid (HRd.out (t ++ s) w6 (HT.out.below HB_w6.out) (by have := HTM.out; have := HS31.out; simp; omega))
      go_wp2_with fail
      refine HC7.out.mono ?_
      rintro e w7 ⟨rfl, hB⟩
      have HB_w7 : Hid (Below w.heap.size w w7) := HB_w6.out.trans (hB.mono HB_w6.out.size)
      have HL_w7 := hid (HL_w6.out.below hB HL_w6.out.lt)
      clear hB HC7 HL_w6 hsum
      go_wp2
      go_roundw
      case rel => exact ⟨k + 1, by go_num, by omega, HL_w7.out, HB_w7.out⟩
      case measure => simp [intOf]; omega
    · obtain rfl : k = 2 := by omega
      rw [show ((2 : Nat) : Int) = 2 from rfl]
      have HB_ := hid HR.out.2
      clear HR
      go_wp2
      go_ret
      exact ⟨rfl, HB_.out⟩
end Go.Proofs.YtebjheaohichpaaGreatDoor
