/- message: ParseReply. -/
import Derived.Test.YtfcbjcebkahehaaGreatDoorZbd
namespace Go.Proofs.YtfcbjcebkahehaaGreatDoor
open Go.RowKit
/-- the middle of a reply -/
def rdB (x : Nat) (d : Bool × Rs) : ReplyP × Rs :=
  if d.1 then (⟨x, true, nulA, 0, 0, 0, [], (d.2.go 0 (rdCount 1)).1, 0⟩, (d.2.go 0 (rdCount 1)).2)
  else (⟨x, false, (rdAuth d.2).1, ((rdAuth d.2).2.go 0 (rdCount 5)).1, 0, 0, [], 0, 0⟩, ((rdAuth d.2).2.go 0 (rdCount 5)).2)
def rdO {α : Type} (s : Bool) (d : α) (f : Rs → α × Rs) (st : Rs) : α × Rs := if s then f st else (d, st)
structure EndQ where
  l : Nat × Rs
  h : Nat × Rs
  y : Nat × Rs
  t : List UInt8 × Rs
def rdEQ (m a s : Bool) (st : Rs) : EndQ :=
  let l := rdO m 0 (fun x => x.go 0 rdWord) st
  let h := rdO m 0 (fun x => x.go 0 rdWord) l.2
  let y := rdO a 0 (fun x => x.go 0 (rdCount 14)) h.2
  ⟨l, h, y, rdO s [] rdTail y.2⟩
/-- the end of a reply -/
def rdE (b : ReplyP × Rs) : ReplyP × Rs :=
  (⟨b.1.xid, b.1.denied, b.1.verf, b.1.accept, (rdEQ (endM b.1) (endA b.1) (endS b.1) b.2).l.1, (rdEQ (endM b.1) (endA b.1) (endS b.1) b.2).h.1, (rdEQ (endM b.1) (endA b.1) (endS b.1) b.2).t.1, b.1.reject, (rdEQ (endM b.1) (endA b.1) (endS b.1) b.2).y.1⟩, (rdEQ (endM b.1) (endA b.1) (endS b.1) b.2).t.2)
def rdHD (st : Rs) : Nat × (Bool × Rs) := ((rdHead 1 st).1, (rdHead 1 st).2.go false rdBool)
def rdReply (st : Rs) : ReplyP × Rs := rdE (rdB (rdHD st).1 (rdHD st).2)
def parseR (s : List UInt8) : ReplyP × Int := if rdDone (rdReply ⟨s, 0⟩).2.l (rdReply ⟨s, 0⟩).2.e = 0 then ((rdReply ⟨s, 0⟩).1, 0) else (nulR, 121)
def hdR (x : Nat) (d : Bool) : ReplyP := ⟨x, d, nulA, 0, 0, 0, [], 0, 0⟩
theorem rd_headR (st : Rs) : rdT headR (st, replyV nulR) = ((rdHD st).2.2, replyV (hdR (rdHD st).1 (rdHD st).2.1)) := rfl
theorem rd_bodyR (x : Nat) (d : Bool × Rs) : rdT (bodyR d.1) (d.2, replyV (hdR x d.1)) = ((rdB x d).2, replyV (rdB x d).1) := by
  obtain ⟨d, st⟩ := d
  cases d
  · unfold rdB rdAuth bodyR replyV hdR
    simp only [rdT, Fd.rd, if_true, if_false, Bool.not_false, Bool.false_eq_true, List.set_cons_succ, List.set_cons_zero]
  · unfold rdB bodyR replyV hdR
    simp only [rdT, Fd.rd, if_true, if_false, Bool.not_true, Bool.false_eq_true, List.set_cons_succ, List.set_cons_zero]
theorem rd_endR_of (m a s : Bool) (st : Rs) (rx ra rj : Int) (rd : Bool) (rv : AuthP) :
    rdT (endR m a s) (st, replyV ⟨rx, rd, rv, ra, 0, 0, [], rj, 0⟩) = ((rdEQ m a s st).t.2, replyV ⟨rx, rd, rv, ra, (rdEQ m a s st).l.1, (rdEQ m a s st).h.1, (rdEQ m a s st).t.1, rj, (rdEQ m a s st).y.1⟩) := by
  unfold rdEQ endR replyV rdTail
  cases m <;> cases a <;> cases s <;> simp only [rdT, rdO, Fd.rd, if_true, if_false, Bool.false_eq_true, List.set_cons_succ, List.set_cons_zero] <;> rfl
theorem rdB_zero (x : Nat) (d : Bool × Rs) : (rdB x d).1 = ⟨(rdB x d).1.xid, (rdB x d).1.denied, (rdB x d).1.verf, (rdB x d).1.accept, 0, 0, [], (rdB x d).1.reject, 0⟩ := by
  unfold rdB
  split <;> rfl
theorem rd_endR (b : ReplyP × Rs) (h : b.1 = ⟨b.1.xid, b.1.denied, b.1.verf, b.1.accept, 0, 0, [], b.1.reject, 0⟩) : rdT (endR (endM b.1) (endA b.1) (endS b.1)) (b.2, replyV b.1) = ((rdE b).2, replyV (rdE b).1) := by
  unfold rdE
  rw [← rd_endR_of, ← h]
set_option maxRecDepth 4000 in
set_option maxHeartbeats 1000000 in
theorem parseReply_any (s : List UInt8) (w : World) (hT : ErrT w) (hl : s.length ≤ 281474976710656) :
    Calls Tryz.prog 52 #[.string ⟨s.toArray⟩] w fun e w' => e = .returned (.tuple #[.agg (replyV (parseR s).1).toArray, .int .i64 (parseR s).2]) ∧ Below w.heap.size w w' := by
  obtain ⟨wa, hwa⟩ : ∃ x, w.alloc (.cells #[.int .i64 0, .bool false, .int .i64 0, .string ⟨#[]⟩, .int .i64 0, .int .i64 0, .int .i64 0, .int .i64 0, .int .i64 0, .string ⟨#[]⟩] 46) = x := ⟨_, rfl⟩
  obtain ⟨wb, hwb⟩ : ∃ x, wa.alloc (.cells #[.int .i64 0, .bool false, .int .i64 0, .string ⟨#[]⟩, .int .i64 0, .int .i64 0, .int .i64 0, .int .i64 0, .int .i64 0, .string ⟨#[]⟩] 46) = x := ⟨_, rfl⟩
  obtain ⟨wc, hwc⟩ : ∃ x, x = wb.alloc (.cells #[.string ⟨s.toArray⟩, .nilIface] 225) := ⟨_, rfl⟩
  obtain ⟨hS, hK0, hB, hza, hzb⟩ := three_start [.int .i64 0, .bool false, .int .i64 0, .string ⟨#[]⟩, .int .i64 0, .int .i64 0, .int .i64 0, .int .i64 0, .int .i64 0, .string ⟨#[]⟩] s _ w wa wb wc hwa hwb hwc
  have HS := hid hS
  have HK0 := hid hK0
  have HB := hid hB
  have HTE := hid hT
  have HNR : Hid (Calls Tryz.prog 88 #[.string ⟨s.toArray⟩] wb fun e w' => e = .returned (.pointer (some ⟨w.heap.size + 1 + 1, 0, none⟩)) ∧ w' = wc) := by rw [hwc, ← hzb]; exact rnew_rd s wb
  have HL := hid hl
  obtain ⟨x, d, hx⟩ : ∃ x d, rdHD ⟨s, 0⟩ = (x, d) := ⟨_, _, rfl⟩
  obtain ⟨b, hb⟩ : ∃ b, rdB x d = b := ⟨_, rfl⟩
  obtain ⟨z, hz⟩ : ∃ z, rdE b = z := ⟨_, rfl⟩
  have hX1 : rdT headR (⟨s, 0⟩, [.int .i64 0, .bool false, .int .i64 0, .string ⟨#[]⟩, .int .i64 0, .int .i64 0, .int .i64 0, .int .i64 0, .int .i64 0, .string ⟨#[]⟩]) = (d.2, replyV (hdR x d.1)) := by
    have := rd_headR ⟨s, 0⟩
    rw [hx] at this
    exact this
  have hX2 : rdT (bodyR d.1) (d.2, replyV (hdR x d.1)) = (b.2, replyV b.1) := by rw [rd_bodyR, hb]
  have hX3 : rdT (endR (endM b.1) (endA b.1) (endS b.1)) (b.2, replyV b.1) = (z.2, replyV z.1) := by rw [rd_endR b (hb ▸ rdB_zero x d), hz]
  have HL1 : Hid (d.2.l.length ≤ 281474976710656) := by
    have := (rdT_len headR (⟨s, 0⟩, [.int .i64 0, .bool false, .int .i64 0, .string ⟨#[]⟩, .int .i64 0, .int .i64 0, .int .i64 0, .int .i64 0, .int .i64 0, .string ⟨#[]⟩])).1
    rw [hX1] at this
    exact Nat.le_trans this hl
  have HL2 : Hid (b.2.l.length ≤ 281474976710656) := by
    have := (rdT_len (bodyR d.1) (d.2, replyV (hdR x d.1))).1
    rw [hX2] at this
    exact Nat.le_trans this HL1.out
  have HX1 := hid hX1
  have HX2 := hid hX2
  have HX3 := hid hX3
  have HFH := hid (fitC headR 10 rfl)
  have HFB : Hid (∀ r ∈ bodyR d.1, r.2.fits 10) := fitC (bodyR d.1) 10 rfl
  have HFE : Hid (∀ r ∈ endR (endM b.1) (endA b.1) (endS b.1), r.2.fits 10) := fitC _ 10 rfl
  have HLB : Hid ((bodyR d.1).length = 4) := rfl
  have HLE : Hid ((endR (endM b.1) (endA b.1) (endS b.1)).length = 4) := rfl
  have HH := hid (replyHead_any (w.heap.size + 1))
  have HBD : Hid (∀ w1, Bk w1 (w.heap.size + 1) (replyV (hdR x d.1)) 46 → Calls Tryz.prog 79 #[.pointer (some ⟨w.heap.size + 1, 0, none⟩)] w1 (Makes (w.heap.size + 1) (bodyR d.1) w1)) := fun w1 h1 => replyBody_any _ _ w1 (h1.cell 1 rfl)
  have HED : Hid (∀ w1, Bk w1 (w.heap.size + 1) (replyV b.1) 46 → Calls Tryz.prog 80 #[.pointer (some ⟨w.heap.size + 1, 0, none⟩)] w1 (Makes (w.heap.size + 1) (endR (endM b.1) (endA b.1) (endS b.1)) w1)) := fun w1 h1 => replyEnd_any _ b.1 w1 h1
  obtain ⟨D, hD⟩ : ∃ D, rdDone z.2.l z.2.e = D := ⟨_, rfl⟩
  have HD := hid hD
  obtain ⟨R, hR⟩ : ∃ R, parseR s = R := ⟨_, rfl⟩
  obtain ⟨Z, hZ⟩ : ∃ Z, z.1 = Z := ⟨_, rfl⟩
  have HRZ : Hid ((D = 0 → R = (Z, 0)) ∧ (D ≠ 0 → R = (nulR, 121))) := by
    have e1 : rdReply ⟨s, 0⟩ = z := by unfold rdReply; rw [hx, hb, hz]
    rw [← hR]; unfold parseR; rw [e1, hD, hZ]
    exact ⟨fun h => by rw [if_pos h], fun h => by rw [if_neg h]⟩
  rw [hR]
  rw [hZ] at HX3
  generalize bodyR d.1 = TB at *
  generalize endR (endM b.1) (endA b.1) (endS b.1) = TE at *
  generalize hdR x d.1 = Y1 at *
  generalize b.1 = Y2 at *
  clear hS hK0 hB hT hwc hl hD hR hx hb hz hX1 hX2 hX3 hZ
  go_enter Tryz.func52, Tryz.ntmps52
  go_wp2_with fail
  refine HNR.out.mono ?_
  rintro e w1 ⟨rfl, hw1⟩
  have hw2 := hw1.symm
  clear hw1 HNR
  subst hw2
  go_wp2_with fail
  refine (HH.out _).mono ?_
  rintro e w2 ⟨rfl, hq2, hB2, hz2⟩
  have H3 := hid (HS.out.reads hq2 hB2 hz2 (by decide) HFH.out HL.out)
  rw [HX1.out] at H3
  clear hq2 hB2 hz2 HH
  go_wp2_with fail
  refine H3.out.mono ?_
  rintro e w3 ⟨rfl, hS3⟩
  have HS3 := hid hS3
  clear hS3 H3
  go_wp2_with fail
  refine (HBD.out _ HS3.out.k).mono ?_
  rintro e w4 ⟨rfl, hq4, hB4, hz4⟩
  have H5 := hid (HS3.out.reads hq4 hB4 hz4 (by rw [HLB.out]; decide) HFB.out HL1.out)
  rw [HX2.out] at H5
  clear hq4 hB4 hz4 HBD
  go_wp2_with fail
  refine H5.out.mono ?_
  rintro e w5 ⟨rfl, hS5⟩
  have HS5 := hid hS5
  clear hS5 H5
  go_wp2_with fail
  refine (HED.out _ HS5.out.k).mono ?_
  rintro e w6 ⟨rfl, hq6, hB6, hz6⟩
  have H7 := hid (HS5.out.reads hq6 hB6 hz6 (by rw [HLE.out]; decide) HFE.out HL2.out)
  rw [HX3.out] at H7
  clear hq6 hB6 hz6 HED
  go_wp2_with fail
  refine H7.out.mono ?_
  rintro e w8 ⟨rfl, hS8⟩
  have HS8 := hid hS8
  have HB8 : Hid (Below w.heap.size w w8) := HB.out.trans (hS8.low.mono (by omega))
  have H9 := hid (rdone_rd _ _ _ w8 hS8.r (HTE.out.below HB8.out))
  simp only [HD.out] at H9
  clear hS8 H7
  go_wp2_with fail
  refine H9.out.mono ?_
  rintro e w9 ⟨rfl, hB9⟩
  have HS9 := hid (HS8.out.below hB9)
  have HK : Hid (Bk w9 w.heap.size [.int .i64 0, .bool false, .int .i64 0, .string ⟨#[]⟩, .int .i64 0, .int .i64 0, .int .i64 0, .int .i64 0, .int .i64 0, .string ⟨#[]⟩] 46) := (HK0.out.below HS8.out.low (by omega)).below hB9 (by have := HS8.out.k.lt; omega)
  have HBK : Hid (Below w.heap.size w w9) := HB8.out.trans (hB9.mono HB8.out.size)
  clear hB9 H9
  have k0 := HK.out.cell 0 rfl
  have f0 := HK.out.frozen 0
  have k1 := HK.out.cell 1 rfl
  have f1 := HK.out.frozen 1
  have k2 := HK.out.cell 2 rfl
  have f2 := HK.out.frozen 2
  have k3 := HK.out.cell 3 rfl
  have f3 := HK.out.frozen 3
  have k4 := HK.out.cell 4 rfl
  have f4 := HK.out.frozen 4
  have k5 := HK.out.cell 5 rfl
  have f5 := HK.out.frozen 5
  have k6 := HK.out.cell 6 rfl
  have f6 := HK.out.frozen 6
  have k7 := HK.out.cell 7 rfl
  have f7 := HK.out.frozen 7
  have k8 := HK.out.cell 8 rfl
  have f8 := HK.out.frozen 8
  have k9 := HK.out.cell 9 rfl
  have f9 := HK.out.frozen 9
  by_cases hd : D = 0
  · have hR := HRZ.out.1 hd
    subst hR
    subst hd
    have c0 : w9.cell? ⟨w.heap.size + 1, 0, none⟩ = some (.int .i64 Z.xid) := HS9.out.k.cell 0 rfl
    have c1 : w9.cell? ⟨w.heap.size + 1, 1, none⟩ = some (.bool Z.denied) := HS9.out.k.cell 1 rfl
    have c2 : w9.cell? ⟨w.heap.size + 1, 2, none⟩ = some (.int .i64 Z.verf.flavor) := HS9.out.k.cell 2 rfl
    have c3 : w9.cell? ⟨w.heap.size + 1, 3, none⟩ = some (.string ⟨Z.verf.body.toArray⟩) := HS9.out.k.cell 3 rfl
    have c4 : w9.cell? ⟨w.heap.size + 1, 4, none⟩ = some (.int .i64 Z.accept) := HS9.out.k.cell 4 rfl
    have c5 : w9.cell? ⟨w.heap.size + 1, 5, none⟩ = some (.int .i64 Z.reject) := HS9.out.k.cell 5 rfl
    have c6 : w9.cell? ⟨w.heap.size + 1, 6, none⟩ = some (.int .i64 Z.why) := HS9.out.k.cell 6 rfl
    have c7 : w9.cell? ⟨w.heap.size + 1, 7, none⟩ = some (.int .i64 Z.low) := HS9.out.k.cell 7 rfl
    have c8 : w9.cell? ⟨w.heap.size + 1, 8, none⟩ = some (.int .i64 Z.high) := HS9.out.k.cell 8 rfl
    have c9 : w9.cell? ⟨w.heap.size + 1, 9, none⟩ = some (.string ⟨Z.results.toArray⟩) := HS9.out.k.cell 9 rfl
    have HZ9 := HK.out.set10 (.int .i64 Z.xid) (.bool Z.denied) (.int .i64 Z.verf.flavor) (.string ⟨Z.verf.body.toArray⟩) (.int .i64 Z.accept) (.int .i64 Z.reject) (.int .i64 Z.why) (.int .i64 Z.low) (.int .i64 Z.high) (.string ⟨Z.results.toArray⟩)
    have q0 := HZ9.cell 0 rfl
    have q1 := HZ9.cell 1 rfl
    have q2 := HZ9.cell 2 rfl
    have q3 := HZ9.cell 3 rfl
    have q4 := HZ9.cell 4 rfl
    have q5 := HZ9.cell 5 rfl
    have q6 := HZ9.cell 6 rfl
    have q7 := HZ9.cell 7 rfl
    have q8 := HZ9.cell 8 rfl
    have q9 := HZ9.cell 9 rfl
    have HB9 := hid (below_set10 (b := w.heap.size) HBK.out (Nat.le_refl _) (.int .i64 Z.xid) (.bool Z.denied) (.int .i64 Z.verf.flavor) (.string ⟨Z.verf.body.toArray⟩) (.int .i64 Z.accept) (.int .i64 Z.reject) (.int .i64 Z.why) (.int .i64 Z.low) (.int .i64 Z.high) (.string ⟨Z.results.toArray⟩))
    clear HZ9
    go_wp2
    refine bodyPost_ret (v := .tuple #[.agg #[.int .i64 Z.xid, .bool Z.denied, .int .i64 Z.verf.flavor, .string ⟨Z.verf.body.toArray⟩, .int .i64 Z.accept, .int .i64 Z.reject, .int .i64 Z.why, .int .i64 Z.low, .int .i64 Z.high, .string ⟨Z.results.toArray⟩], .int .i64 0]) (by simp [results, Tryz.results52, go_sem, q0, q1, q2, q3, q4, q5, q6, q7, q8, q9]) rfl ⟨rfl, HB9.out⟩
  · have hR := HRZ.out.2 hd
    subst hR
    have hd2 : (D != 0) = true := bne_iff_ne.2 hd
    have HZ9 := HK.out.set10 (.int .i64 0) (.bool false) (.int .i64 0) (.string ⟨#[]⟩) (.int .i64 0) (.int .i64 0) (.int .i64 0) (.int .i64 0) (.int .i64 0) (.string ⟨#[]⟩)
    have q0 := HZ9.cell 0 rfl
    have q1 := HZ9.cell 1 rfl
    have q2 := HZ9.cell 2 rfl
    have q3 := HZ9.cell 3 rfl
    have q4 := HZ9.cell 4 rfl
    have q5 := HZ9.cell 5 rfl
    have q6 := HZ9.cell 6 rfl
    have q7 := HZ9.cell 7 rfl
    have q8 := HZ9.cell 8 rfl
    have q9 := HZ9.cell 9 rfl
    have HB9 := hid (below_set10 (b := w.heap.size) HBK.out (Nat.le_refl _) (.int .i64 0) (.bool false) (.int .i64 0) (.string ⟨#[]⟩) (.int .i64 0) (.int .i64 0) (.int .i64 0) (.int .i64 0) (.int .i64 0) (.string ⟨#[]⟩))
    clear HZ9
    go_wp2
    refine bodyPost_ret (v := .tuple #[.agg #[.int .i64 0, .bool false, .int .i64 0, .string ⟨#[]⟩, .int .i64 0, .int .i64 0, .int .i64 0, .int .i64 0, .int .i64 0, .string ⟨#[]⟩], .int .i64 121]) (by simp [results, Tryz.results52, go_sem, q0, q1, q2, q3, q4, q5, q6, q7, q8, q9]) rfl ⟨rfl, HB9.out⟩
end Go.Proofs.YtfcbjcebkahehaaGreatDoor
