/- The document reads a reply: accepted. The document reads a reply: accepted. -/
import Derived.Test.YtebjheaohichpaaGreatDoorGv
import Derived.Test.YtebjheaohichpaaGreatDoorSc
import Derived.Test.YtebjheaohichpaaGreatDoorGq
namespace Go.Proofs.YtebjheaohichpaaGreatDoor
open Go.RowKit

set_option maxRecDepth 8000 in
set_option maxHeartbeats 8000000 in
theorem dpr_C (s : List UInt8) (w : World) (x : Nat × Rs) (k : Nat × Rs) (d : Nat × Rs) (c : AuthP × Rs) (a : Nat × Rs) (lo : Nat × Rs) (hi : Nat × Rs) (z : List UInt8 × Rs) (hx : (⟨s, 0⟩ : Rs).go 0 rdWord = x) (hk : x.2.go 0 rdWord = k) (hd : k.2.go 0 rdWord = d) (hc : rdAuth d.2 = c) (ha : c.2.go 0 rdWord = a) (hlo : a.2.go 0 rdWord = lo) (hhi : lo.2.go 0 rdWord = hi) (hz : hi.2.go [] rdRest = z) (k1 : (k.1 : Int) = 1) (d1 : (d.1 : Int) = 0) (j1 : (a.1 : Int) = 2) (hal : z.1.length ≤ 140737488355328) (G : ReplyP) (hG : G = ⟨x.1, false, c.1, a.1, lo.1, hi.1, z.1, 0, 0⟩) (RR_ : ReplyP × Int) (hR : RR_ = if G.may ∧ G.lay = s then (G, 0) else (nulR, 121)) :
    Calls Tryz.prog 32 #[.string ⟨s.toArray⟩] w fun e w' => e = .returned (.tuple #[.agg (replyV RR_.1).toArray, .int .i64 RR_.2]) ∧ Below w.heap.size w w' := by
  obtain ⟨PS, hPS⟩ : ∃ z, (prP G).1 = z := ⟨_, rfl⟩
  obtain ⟨PE, hPE⟩ : ∃ z, (prP G).2 = z := ⟨_, rfl⟩
  have HPC : Hid (∀ w, Calls Tryz.prog 9 #[.agg #[.int .i64 (x.1 : Int), .bool false, .int .i64 c.1.flavor, .string ⟨c.1.body.toArray⟩, .int .i64 (a.1 : Int), .int .i64 0, .int .i64 0, .int .i64 (lo.1 : Int), .int .i64 (hi.1 : Int), .string ⟨z.1.toArray⟩]] w fun e w' => e = .returned (.tuple #[.string ⟨PS.toArray⟩, .int .i64 PE]) ∧ Below w.heap.size w w') := fun w => by
    have := dprintReply_any G w (by rw [hG]; exact hal)
    rw [hPS, hPE, hG] at this
    exact this
  have hPP : (G.may ∧ G.lay = s ∧ PE = 0 ∧ PS = s) ∨ (¬ (G.may ∧ G.lay = s) ∧ (PE ≠ 0 ∨ (PE = 0 ∧ PS ≠ s))) := by
    rw [← hPS, ← hPE]
    by_cases hm : G.may
    · rw [pr_may hm]
      by_cases h2 : G.lay = s
      · exact .inl ⟨hm, h2, rfl, h2⟩
      · exact .inr ⟨fun o => h2 o.2, .inr ⟨rfl, h2⟩⟩
    · refine .inr ⟨fun o => hm o.1, .inl ?_⟩
      unfold prP prM
      rw [if_neg hm]
      show (120 : Int) ≠ 0
      decide
  have HGC : Hid (replyV G = [.int .i64 (x.1 : Int), .bool false, .int .i64 c.1.flavor, .string ⟨c.1.body.toArray⟩, .int .i64 (a.1 : Int), .int .i64 0, .int .i64 0, .int .i64 (lo.1 : Int), .int .i64 (hi.1 : Int), .string ⟨z.1.toArray⟩]) := by show _ = _; rw [hG]; rfl
  have HPP := hid hPP
  have HRR := hid hR
  clear hPS hPE hPP hG hR hal
  have HNC : Hid (replyV nulR = [.int .i64 0, .bool false, .int .i64 0, .string ⟨#[]⟩, .int .i64 0, .int .i64 0, .int .i64 0, .int .i64 0, .int .i64 0, .string ⟨#[]⟩]) := rfl
  obtain ⟨wa, hwa⟩ : ∃ y, w.alloc (.cells #[.int .i64 0, .bool false, .int .i64 0, .string ⟨#[]⟩, .int .i64 0, .int .i64 0, .int .i64 0, .int .i64 0, .int .i64 0, .string ⟨#[]⟩] 27) = y := ⟨_, rfl⟩
  obtain ⟨wb, hwb⟩ : ∃ y, y = wa.alloc (.cells #[.string ⟨s.toArray⟩, .int .i64 0] 142) := ⟨_, rfl⟩
  obtain ⟨wc, hwc⟩ : ∃ y, wb.alloc (.cells #[.int .i64 0, .bool false, .int .i64 0, .string ⟨#[]⟩, .int .i64 0, .int .i64 0, .int .i64 0, .int .i64 0, .int .i64 0, .string ⟨#[]⟩] 27) = y := ⟨_, rfl⟩
  obtain ⟨hS0, hza, hzb⟩ := DT.start [.int .i64 0, .bool false, .int .i64 0, .string ⟨#[]⟩, .int .i64 0, .int .i64 0, .int .i64 0, .int .i64 0, .int .i64 0, .string ⟨#[]⟩] s _ w wa wb wc hwa hwb hwc
  have HNR : Hid (Calls Tryz.prog 59 #[.string ⟨s.toArray⟩] wa fun e w' => e = .returned (.pointer (some ⟨w.heap.size + 1, 0, none⟩)) ∧ w' = wb) := by rw [hwb, ← hza]; exact dnew_any s wa
  have HS0 := hid hS0
  have HXx := hid hx
  have HXk := hid hk
  have HXd := hid hd
  have HXc := hid hc
  have HXa := hid ha
  have HXlo := hid hlo
  have HXhi := hid hhi
  have HXz := hid hz
  have e1 : ((k.1 : Int) != 1) = false := bne_eq_false_iff_eq.2 k1
  have e2 : decide (1 < (d.1 : Int)) = false := decide_eq_false (by omega)
  have e3 : ((d.1 : Int) == 1) = false := beq_eq_false_iff_ne.2 (by omega)
  have e4 : ((a.1 : Int) == 2) = true := beq_iff_eq.2 j1
  have F0 := hid e1
  have F1 := hid e2
  have F2 := hid e3
  have F3 := hid e4
  clear hx hk hd hc ha hlo hhi hz e1 e2 e3 e4 hwb hS0 k1 d1 j1
  go_enter Tryz.func32, Tryz.ntmps32
  go_wp2_with fail
  refine HNR.out.mono ?_
  rintro e w1 ⟨rfl, hw1⟩
  have hw2 := hw1.symm
  clear hw1 HNR
  subst hw2
  have G0 := hid HS0.out.uint
  rw [HXx.out] at G0
  go_wp2_with fail
  clear hwa hwc
  refine G0.out.mono ?_
  rintro e v0 ⟨rfl, h0⟩
  clear G0 HS0
  have k0 := h0.k.cell 0 rfl
  have f0 := h0.k.frozen 0
  obtain ⟨s0, hs0⟩ : ∃ y, (v0.setCell ⟨w.heap.size + 1 + 1, 0, none⟩ (.int .i64 (x.1 : Int))) = y := ⟨_, rfl⟩
  have HS1 : Hid (DT w s0 w.heap.size x.2 [.int .i64 (x.1 : Int), .bool false, .int .i64 0, .string ⟨#[]⟩, .int .i64 0, .int .i64 0, .int .i64 0, .int .i64 0, .int .i64 0, .string ⟨#[]⟩] [.int .i64 0, .bool false, .int .i64 0, .string ⟨#[]⟩, .int .i64 0, .int .i64 0, .int .i64 0, .int .i64 0, .int .i64 0, .string ⟨#[]⟩] 27) := by rw [← hs0]; exact (h0.set 0 _)
  clear h0
  have G1 := hid HS1.out.uint
  rw [HXk.out] at G1
  go_wp2_with fail
  clear k0 f0 hs0
  refine G1.out.mono ?_
  rintro e v1 ⟨rfl, h1⟩
  clear G1 HS1
  have HS2 : Hid (DT w v1 w.heap.size k.2 [.int .i64 (x.1 : Int), .bool false, .int .i64 0, .string ⟨#[]⟩, .int .i64 0, .int .i64 0, .int .i64 0, .int .i64 0, .int .i64 0, .string ⟨#[]⟩] [.int .i64 0, .bool false, .int .i64 0, .string ⟨#[]⟩, .int .i64 0, .int .i64 0, .int .i64 0, .int .i64 0, .int .i64 0, .string ⟨#[]⟩] 27) := h1
  clear h1
  have G2 := hid HS2.out.uint
  rw [HXd.out] at G2
  go_wp2_with fail
  refine G2.out.mono ?_
  rintro e v2 ⟨rfl, h2⟩
  clear G2 HS2
  have e1 := F0.out
  have e2 := F1.out
  have e3 := F2.out
  have HS3 : Hid (DT w v2 w.heap.size d.2 [.int .i64 (x.1 : Int), .bool false, .int .i64 0, .string ⟨#[]⟩, .int .i64 0, .int .i64 0, .int .i64 0, .int .i64 0, .int .i64 0, .string ⟨#[]⟩] [.int .i64 0, .bool false, .int .i64 0, .string ⟨#[]⟩, .int .i64 0, .int .i64 0, .int .i64 0, .int .i64 0, .int .i64 0, .string ⟨#[]⟩] 27) := h2
  clear h2
  have G3 := hid HS3.out.auth
  rw [HXc.out] at G3
  go_wp2_with fail
  clear e1 e2 e3
  refine G3.out.mono ?_
  rintro e v3 ⟨rfl, h3⟩
  clear G3 HS3
  have k2 := h3.k.cell 2 rfl
  have f2 := h3.k.frozen 2
  have k3 := h3.k.cell 3 rfl
  have f3 := h3.k.frozen 3
  obtain ⟨s3, hs3⟩ : ∃ y, ((v3.setCell ⟨w.heap.size + 1 + 1, 2, none⟩ (.int .i64 c.1.flavor)).setCell ⟨w.heap.size + 1 + 1, 3, none⟩ (.string ⟨c.1.body.toArray⟩)) = y := ⟨_, rfl⟩
  have HS4 : Hid (DT w s3 w.heap.size c.2 [.int .i64 (x.1 : Int), .bool false, .int .i64 c.1.flavor, .string ⟨c.1.body.toArray⟩, .int .i64 0, .int .i64 0, .int .i64 0, .int .i64 0, .int .i64 0, .string ⟨#[]⟩] [.int .i64 0, .bool false, .int .i64 0, .string ⟨#[]⟩, .int .i64 0, .int .i64 0, .int .i64 0, .int .i64 0, .int .i64 0, .string ⟨#[]⟩] 27) := by rw [← hs3]; exact ((h3.set 2 _).set 3 _)
  clear h3
  have G4 := hid HS4.out.uint
  rw [HXa.out] at G4
  go_wp2_with fail
  clear k2 f2 k3 f3 hs3
  refine G4.out.mono ?_
  rintro e v4 ⟨rfl, h4⟩
  clear G4 HS4
  have k4 := h4.k.cell 4 rfl
  have f4 := h4.k.frozen 4
  obtain ⟨s4, hs4⟩ : ∃ y, (v4.setCell ⟨w.heap.size + 1 + 1, 4, none⟩ (.int .i64 (a.1 : Int))) = y := ⟨_, rfl⟩
  have HS5 : Hid (DT w s4 w.heap.size a.2 [.int .i64 (x.1 : Int), .bool false, .int .i64 c.1.flavor, .string ⟨c.1.body.toArray⟩, .int .i64 (a.1 : Int), .int .i64 0, .int .i64 0, .int .i64 0, .int .i64 0, .string ⟨#[]⟩] [.int .i64 0, .bool false, .int .i64 0, .string ⟨#[]⟩, .int .i64 0, .int .i64 0, .int .i64 0, .int .i64 0, .int .i64 0, .string ⟨#[]⟩] 27) := by rw [← hs4]; exact (h4.set 4 _)
  clear h4
  have c4 := HS5.out.k.cell 4 rfl
  have e4 := F3.out
  have G5 := hid HS5.out.uint
  rw [HXlo.out] at G5
  go_wp2_with fail
  clear k4 f4 hs4 c4 e4
  refine G5.out.mono ?_
  rintro e v5 ⟨rfl, h5⟩
  clear G5 HS5
  have k7 := h5.k.cell 7 rfl
  have f7 := h5.k.frozen 7
  obtain ⟨s5, hs5⟩ : ∃ y, (v5.setCell ⟨w.heap.size + 1 + 1, 7, none⟩ (.int .i64 (lo.1 : Int))) = y := ⟨_, rfl⟩
  have HS6 : Hid (DT w s5 w.heap.size lo.2 [.int .i64 (x.1 : Int), .bool false, .int .i64 c.1.flavor, .string ⟨c.1.body.toArray⟩, .int .i64 (a.1 : Int), .int .i64 0, .int .i64 0, .int .i64 (lo.1 : Int), .int .i64 0, .string ⟨#[]⟩] [.int .i64 0, .bool false, .int .i64 0, .string ⟨#[]⟩, .int .i64 0, .int .i64 0, .int .i64 0, .int .i64 0, .int .i64 0, .string ⟨#[]⟩] 27) := by rw [← hs5]; exact (h5.set 7 _)
  clear h5
  have G6 := hid HS6.out.uint
  rw [HXhi.out] at G6
  go_wp2_with fail
  clear k7 f7 hs5
  refine G6.out.mono ?_
  rintro e v6 ⟨rfl, h6⟩
  clear G6 HS6
  have k8 := h6.k.cell 8 rfl
  have f8 := h6.k.frozen 8
  obtain ⟨s6, hs6⟩ : ∃ y, (v6.setCell ⟨w.heap.size + 1 + 1, 8, none⟩ (.int .i64 (hi.1 : Int))) = y := ⟨_, rfl⟩
  have HS7 : Hid (DT w s6 w.heap.size hi.2 [.int .i64 (x.1 : Int), .bool false, .int .i64 c.1.flavor, .string ⟨c.1.body.toArray⟩, .int .i64 (a.1 : Int), .int .i64 0, .int .i64 0, .int .i64 (lo.1 : Int), .int .i64 (hi.1 : Int), .string ⟨#[]⟩] [.int .i64 0, .bool false, .int .i64 0, .string ⟨#[]⟩, .int .i64 0, .int .i64 0, .int .i64 0, .int .i64 0, .int .i64 0, .string ⟨#[]⟩] 27) := by rw [← hs6]; exact (h6.set 8 _)
  clear h6
  have G7 := hid HS7.out.rest
  rw [HXz.out] at G7
  go_wp2_with fail
  clear k8 f8 hs6
  refine G7.out.mono ?_
  rintro e v7 ⟨rfl, h7⟩
  clear G7 HS7
  have k9 := h7.k.cell 9 rfl
  have f9 := h7.k.frozen 9
  obtain ⟨s7, hs7⟩ : ∃ y, (v7.setCell ⟨w.heap.size + 1 + 1, 9, none⟩ (.string ⟨z.1.toArray⟩)) = y := ⟨_, rfl⟩
  have HS8 : Hid (DT w s7 w.heap.size z.2 [.int .i64 (x.1 : Int), .bool false, .int .i64 c.1.flavor, .string ⟨c.1.body.toArray⟩, .int .i64 (a.1 : Int), .int .i64 0, .int .i64 0, .int .i64 (lo.1 : Int), .int .i64 (hi.1 : Int), .string ⟨z.1.toArray⟩] [.int .i64 0, .bool false, .int .i64 0, .string ⟨#[]⟩, .int .i64 0, .int .i64 0, .int .i64 0, .int .i64 0, .int .i64 0, .string ⟨#[]⟩] 27) := by rw [← hs7]; exact (h7.set 9 _)
  clear h7
  have c0 := HS8.out.k.cell 0 rfl
  have c1 := HS8.out.k.cell 1 rfl
  have c2 := HS8.out.k.cell 2 rfl
  have c3 := HS8.out.k.cell 3 rfl
  have c4 := HS8.out.k.cell 4 rfl
  have c5 := HS8.out.k.cell 5 rfl
  have c6 := HS8.out.k.cell 6 rfl
  have c7 := HS8.out.k.cell 7 rfl
  have c8 := HS8.out.k.cell 8 rfl
  have c9 := HS8.out.k.cell 9 rfl
  go_wp2_with fail
  clear k9 f9 hs7
  refine (HPC.out _).mono ?_
  rintro e vb ⟨rfl, hBb⟩
  have HSF := hid (HS8.out.below hBb)
  clear hBb c0 c1 c2 c3 c4 c5 c6 c7 c8 c9
  have hD2 := HRR.out
  rcases HPP.out with ⟨hm, h2, h3, h4⟩ | ⟨hm, h3⟩
  · skip
    rw [if_pos ⟨hm, h2⟩] at hD2
    clear hm h2
    subst hD2
    subst h3
    subst h4
    have c0 : vb.cell? ⟨w.heap.size + 1 + 1, 0, none⟩ = some (.int .i64 (x.1 : Int)) := HSF.out.k.cell 0 rfl
    have c1 : vb.cell? ⟨w.heap.size + 1 + 1, 1, none⟩ = some (.bool false) := HSF.out.k.cell 1 rfl
    have c2 : vb.cell? ⟨w.heap.size + 1 + 1, 2, none⟩ = some (.int .i64 c.1.flavor) := HSF.out.k.cell 2 rfl
    have c3 : vb.cell? ⟨w.heap.size + 1 + 1, 3, none⟩ = some (.string ⟨c.1.body.toArray⟩) := HSF.out.k.cell 3 rfl
    have c4 : vb.cell? ⟨w.heap.size + 1 + 1, 4, none⟩ = some (.int .i64 (a.1 : Int)) := HSF.out.k.cell 4 rfl
    have c5 : vb.cell? ⟨w.heap.size + 1 + 1, 5, none⟩ = some (.int .i64 0) := HSF.out.k.cell 5 rfl
    have c6 : vb.cell? ⟨w.heap.size + 1 + 1, 6, none⟩ = some (.int .i64 0) := HSF.out.k.cell 6 rfl
    have c7 : vb.cell? ⟨w.heap.size + 1 + 1, 7, none⟩ = some (.int .i64 (lo.1 : Int)) := HSF.out.k.cell 7 rfl
    have c8 : vb.cell? ⟨w.heap.size + 1 + 1, 8, none⟩ = some (.int .i64 (hi.1 : Int)) := HSF.out.k.cell 8 rfl
    have c9 : vb.cell? ⟨w.heap.size + 1 + 1, 9, none⟩ = some (.string ⟨z.1.toArray⟩) := HSF.out.k.cell 9 rfl
    have k0 : vb.cell? ⟨w.heap.size, 0, none⟩ = some (.int .i64 0) := HSF.out.z.cell 0 rfl
    have f0 := HSF.out.z.frozen 0
    have k1 : vb.cell? ⟨w.heap.size, 1, none⟩ = some (.bool false) := HSF.out.z.cell 1 rfl
    have f1 := HSF.out.z.frozen 1
    have k2 : vb.cell? ⟨w.heap.size, 2, none⟩ = some (.int .i64 0) := HSF.out.z.cell 2 rfl
    have f2 := HSF.out.z.frozen 2
    have k3 : vb.cell? ⟨w.heap.size, 3, none⟩ = some (.string ⟨#[]⟩) := HSF.out.z.cell 3 rfl
    have f3 := HSF.out.z.frozen 3
    have k4 : vb.cell? ⟨w.heap.size, 4, none⟩ = some (.int .i64 0) := HSF.out.z.cell 4 rfl
    have f4 := HSF.out.z.frozen 4
    have k5 : vb.cell? ⟨w.heap.size, 5, none⟩ = some (.int .i64 0) := HSF.out.z.cell 5 rfl
    have f5 := HSF.out.z.frozen 5
    have k6 : vb.cell? ⟨w.heap.size, 6, none⟩ = some (.int .i64 0) := HSF.out.z.cell 6 rfl
    have f6 := HSF.out.z.frozen 6
    have k7 : vb.cell? ⟨w.heap.size, 7, none⟩ = some (.int .i64 0) := HSF.out.z.cell 7 rfl
    have f7 := HSF.out.z.frozen 7
    have k8 : vb.cell? ⟨w.heap.size, 8, none⟩ = some (.int .i64 0) := HSF.out.z.cell 8 rfl
    have f8 := HSF.out.z.frozen 8
    have k9 : vb.cell? ⟨w.heap.size, 9, none⟩ = some (.string ⟨#[]⟩) := HSF.out.z.cell 9 rfl
    have f9 := HSF.out.z.frozen 9
    have HZ9 := HSF.out.z.set10 (.int .i64 (x.1 : Int)) (.bool false) (.int .i64 c.1.flavor) (.string ⟨c.1.body.toArray⟩) (.int .i64 (a.1 : Int)) (.int .i64 0) (.int .i64 0) (.int .i64 (lo.1 : Int)) (.int .i64 (hi.1 : Int)) (.string ⟨z.1.toArray⟩)
    have q0 := HZ9.cell 0 rfl
    have q1 := HZ9.cell 1 rfl
    have q2 := HZ9.cell 2 rfl
    have q3 := HZ9.cell 3 rfl
    have q4 := HZ9.cell 4 rfl
    have q5 := HZ9.cell 5 rfl
    have q6 := HZ9.cell 6 rfl
    have q7 := HZ9.cell 7 rfl
    have q8 := HZ9.cell 8 rfl
    have q9 := HZ9.cell 9 rfl
    have HB9 := hid (below_set10 (b := w.heap.size) HSF.out.low (Nat.le_refl _) (.int .i64 (x.1 : Int)) (.bool false) (.int .i64 c.1.flavor) (.string ⟨c.1.body.toArray⟩) (.int .i64 (a.1 : Int)) (.int .i64 0) (.int .i64 0) (.int .i64 (lo.1 : Int)) (.int .i64 (hi.1 : Int)) (.string ⟨z.1.toArray⟩))
    clear HZ9
    go_wp2
    refine bodyPost_ret (v := .tuple #[.agg #[.int .i64 (x.1 : Int), .bool false, .int .i64 c.1.flavor, .string ⟨c.1.body.toArray⟩, .int .i64 (a.1 : Int), .int .i64 0, .int .i64 0, .int .i64 (lo.1 : Int), .int .i64 (hi.1 : Int), .string ⟨z.1.toArray⟩], .int .i64 0]) (by simp [results, Tryz.results32, go_sem, q0, q1, q2, q3, q4, q5, q6, q7, q8, q9]) rfl ⟨by rw [HGC.out], HB9.out⟩
  · rw [if_neg hm] at hD2
    clear hm
    subst hD2
    rcases h3 with h3 | ⟨h3, h4⟩
    · skip
      have e4 : (PE != 0) = true := bne_iff_ne.2 h3
      have k0 : vb.cell? ⟨w.heap.size, 0, none⟩ = some (.int .i64 0) := HSF.out.z.cell 0 rfl
      have f0 := HSF.out.z.frozen 0
      have k1 : vb.cell? ⟨w.heap.size, 1, none⟩ = some (.bool false) := HSF.out.z.cell 1 rfl
      have f1 := HSF.out.z.frozen 1
      have k2 : vb.cell? ⟨w.heap.size, 2, none⟩ = some (.int .i64 0) := HSF.out.z.cell 2 rfl
      have f2 := HSF.out.z.frozen 2
      have k3 : vb.cell? ⟨w.heap.size, 3, none⟩ = some (.string ⟨#[]⟩) := HSF.out.z.cell 3 rfl
      have f3 := HSF.out.z.frozen 3
      have k4 : vb.cell? ⟨w.heap.size, 4, none⟩ = some (.int .i64 0) := HSF.out.z.cell 4 rfl
      have f4 := HSF.out.z.frozen 4
      have k5 : vb.cell? ⟨w.heap.size, 5, none⟩ = some (.int .i64 0) := HSF.out.z.cell 5 rfl
      have f5 := HSF.out.z.frozen 5
      have k6 : vb.cell? ⟨w.heap.size, 6, none⟩ = some (.int .i64 0) := HSF.out.z.cell 6 rfl
      have f6 := HSF.out.z.frozen 6
      have k7 : vb.cell? ⟨w.heap.size, 7, none⟩ = some (.int .i64 0) := HSF.out.z.cell 7 rfl
      have f7 := HSF.out.z.frozen 7
      have k8 : vb.cell? ⟨w.heap.size, 8, none⟩ = some (.int .i64 0) := HSF.out.z.cell 8 rfl
      have f8 := HSF.out.z.frozen 8
      have k9 : vb.cell? ⟨w.heap.size, 9, none⟩ = some (.string ⟨#[]⟩) := HSF.out.z.cell 9 rfl
      have f9 := HSF.out.z.frozen 9
      have HZ9 := HSF.out.z.set10 (.int .i64 0) (.bool false) (.int .i64 0) (.string ⟨#[]⟩) (.int .i64 0) (.int .i64 0) (.int .i64 0) (.int .i64 0) (.int .i64 0) (.string ⟨#[]⟩)
      have q0 := HZ9.cell 0 rfl
      have q1 := HZ9.cell 1 rfl
      have q2 := HZ9.cell 2 rfl
      have q3 := HZ9.cell 3 rfl
      have q4 := HZ9.cell 4 rfl
      have q5 := HZ9.cell 5 rfl
      have q6 := HZ9.cell 6 rfl
      have q7 := HZ9.cell 7 rfl
      have q8 := HZ9.cell 8 rfl
      have q9 := HZ9.cell 9 rfl
      have HB9 := hid (below_set10 (b := w.heap.size) HSF.out.low (Nat.le_refl _) (.int .i64 0) (.bool false) (.int .i64 0) (.string ⟨#[]⟩) (.int .i64 0) (.int .i64 0) (.int .i64 0) (.int .i64 0) (.int .i64 0) (.string ⟨#[]⟩))
      clear HZ9
      go_wp2
      refine bodyPost_ret (v := .tuple #[.agg #[.int .i64 0, .bool false, .int .i64 0, .string ⟨#[]⟩, .int .i64 0, .int .i64 0, .int .i64 0, .int .i64 0, .int .i64 0, .string ⟨#[]⟩], .int .i64 121]) (by simp [results, Tryz.results32, go_sem, q0, q1, q2, q3, q4, q5, q6, q7, q8, q9]) rfl ⟨rfl, HB9.out⟩
    · skip
      subst h3
      have e5 : ((⟨PS.toArray⟩ : ByteArray).toList == s) = false := by first | simpa using h4 | simpa using ne_list h4
      generalize (⟨PS.toArray⟩ : ByteArray) = BP at *
      have k0 : vb.cell? ⟨w.heap.size, 0, none⟩ = some (.int .i64 0) := HSF.out.z.cell 0 rfl
      have f0 := HSF.out.z.frozen 0
      have k1 : vb.cell? ⟨w.heap.size, 1, none⟩ = some (.bool false) := HSF.out.z.cell 1 rfl
      have f1 := HSF.out.z.frozen 1
      have k2 : vb.cell? ⟨w.heap.size, 2, none⟩ = some (.int .i64 0) := HSF.out.z.cell 2 rfl
      have f2 := HSF.out.z.frozen 2
      have k3 : vb.cell? ⟨w.heap.size, 3, none⟩ = some (.string ⟨#[]⟩) := HSF.out.z.cell 3 rfl
      have f3 := HSF.out.z.frozen 3
      have k4 : vb.cell? ⟨w.heap.size, 4, none⟩ = some (.int .i64 0) := HSF.out.z.cell 4 rfl
      have f4 := HSF.out.z.frozen 4
      have k5 : vb.cell? ⟨w.heap.size, 5, none⟩ = some (.int .i64 0) := HSF.out.z.cell 5 rfl
      have f5 := HSF.out.z.frozen 5
      have k6 : vb.cell? ⟨w.heap.size, 6, none⟩ = some (.int .i64 0) := HSF.out.z.cell 6 rfl
      have f6 := HSF.out.z.frozen 6
      have k7 : vb.cell? ⟨w.heap.size, 7, none⟩ = some (.int .i64 0) := HSF.out.z.cell 7 rfl
      have f7 := HSF.out.z.frozen 7
      have k8 : vb.cell? ⟨w.heap.size, 8, none⟩ = some (.int .i64 0) := HSF.out.z.cell 8 rfl
      have f8 := HSF.out.z.frozen 8
      have k9 : vb.cell? ⟨w.heap.size, 9, none⟩ = some (.string ⟨#[]⟩) := HSF.out.z.cell 9 rfl
      have f9 := HSF.out.z.frozen 9
      have HZ9 := HSF.out.z.set10 (.int .i64 0) (.bool false) (.int .i64 0) (.string ⟨#[]⟩) (.int .i64 0) (.int .i64 0) (.int .i64 0) (.int .i64 0) (.int .i64 0) (.string ⟨#[]⟩)
      have q0 := HZ9.cell 0 rfl
      have q1 := HZ9.cell 1 rfl
      have q2 := HZ9.cell 2 rfl
      have q3 := HZ9.cell 3 rfl
      have q4 := HZ9.cell 4 rfl
      have q5 := HZ9.cell 5 rfl
      have q6 := HZ9.cell 6 rfl
      have q7 := HZ9.cell 7 rfl
      have q8 := HZ9.cell 8 rfl
      have q9 := HZ9.cell 9 rfl
      have HB9 := hid (below_set10 (b := w.heap.size) HSF.out.low (Nat.le_refl _) (.int .i64 0) (.bool false) (.int .i64 0) (.string ⟨#[]⟩) (.int .i64 0) (.int .i64 0) (.int .i64 0) (.int .i64 0) (.int .i64 0) (.string ⟨#[]⟩))
      clear HZ9
      go_wp2
      refine bodyPost_ret (v := .tuple #[.agg #[.int .i64 0, .bool false, .int .i64 0, .string ⟨#[]⟩, .int .i64 0, .int .i64 0, .int .i64 0, .int .i64 0, .int .i64 0, .string ⟨#[]⟩], .int .i64 121]) (by simp [results, Tryz.results32, go_sem, q0, q1, q2, q3, q4, q5, q6, q7, q8, q9]) rfl ⟨rfl, HB9.out⟩
end Go.Proofs.YtebjheaohichpaaGreatDoor
namespace Go.Proofs.YtebjheaohichpaaGreatDoor
open Go.RowKit

set_option maxRecDepth 8000 in
set_option maxHeartbeats 8000000 in
theorem dpr_D (s : List UInt8) (w : World) (x : Nat × Rs) (k : Nat × Rs) (d : Nat × Rs) (c : AuthP × Rs) (a : Nat × Rs) (z : List UInt8 × Rs) (hx : (⟨s, 0⟩ : Rs).go 0 rdWord = x) (hk : x.2.go 0 rdWord = k) (hd : k.2.go 0 rdWord = d) (hc : rdAuth d.2 = c) (ha : c.2.go 0 rdWord = a) (hz : a.2.go [] rdRest = z) (k1 : (k.1 : Int) = 1) (d1 : (d.1 : Int) = 0) (j1 : (a.1 : Int) ≠ 2) (hal : z.1.length ≤ 140737488355328) (G : ReplyP) (hG : G = ⟨x.1, false, c.1, a.1, 0, 0, z.1, 0, 0⟩) (RR_ : ReplyP × Int) (hR : RR_ = if G.may ∧ G.lay = s then (G, 0) else (nulR, 121)) :
    Calls Tryz.prog 32 #[.string ⟨s.toArray⟩] w fun e w' => e = .returned (.tuple #[.agg (replyV RR_.1).toArray, .int .i64 RR_.2]) ∧ Below w.heap.size w w' := by
  obtain ⟨PS, hPS⟩ : ∃ z, (prP G).1 = z := ⟨_, rfl⟩
  obtain ⟨PE, hPE⟩ : ∃ z, (prP G).2 = z := ⟨_, rfl⟩
  have HPC : Hid (∀ w, Calls Tryz.prog 9 #[.agg #[.int .i64 (x.1 : Int), .bool false, .int .i64 c.1.flavor, .string ⟨c.1.body.toArray⟩, .int .i64 (a.1 : Int), .int .i64 0, .int .i64 0, .int .i64 0, .int .i64 0, .string ⟨z.1.toArray⟩]] w fun e w' => e = .returned (.tuple #[.string ⟨PS.toArray⟩, .int .i64 PE]) ∧ Below w.heap.size w w') := fun w => by
    have := dprintReply_any G w (by rw [hG]; exact hal)
    rw [hPS, hPE, hG] at this
    exact this
  have hPP : (G.may ∧ G.lay = s ∧ PE = 0 ∧ PS = s) ∨ (¬ (G.may ∧ G.lay = s) ∧ (PE ≠ 0 ∨ (PE = 0 ∧ PS ≠ s))) := by
    rw [← hPS, ← hPE]
    by_cases hm : G.may
    · rw [pr_may hm]
      by_cases h2 : G.lay = s
      · exact .inl ⟨hm, h2, rfl, h2⟩
      · exact .inr ⟨fun o => h2 o.2, .inr ⟨rfl, h2⟩⟩
    · refine .inr ⟨fun o => hm o.1, .inl ?_⟩
      unfold prP prM
      rw [if_neg hm]
      show (120 : Int) ≠ 0
      decide
  have HGC : Hid (replyV G = [.int .i64 (x.1 : Int), .bool false, .int .i64 c.1.flavor, .string ⟨c.1.body.toArray⟩, .int .i64 (a.1 : Int), .int .i64 0, .int .i64 0, .int .i64 0, .int .i64 0, .string ⟨z.1.toArray⟩]) := by show _ = _; rw [hG]; rfl
  have HPP := hid hPP
  have HRR := hid hR
  clear hPS hPE hPP hG hR hal
  have HNC : Hid (replyV nulR = [.int .i64 0, .bool false, .int .i64 0, .string ⟨#[]⟩, .int .i64 0, .int .i64 0, .int .i64 0, .int .i64 0, .int .i64 0, .string ⟨#[]⟩]) := rfl
  obtain ⟨wa, hwa⟩ : ∃ y, w.alloc (.cells #[.int .i64 0, .bool false, .int .i64 0, .string ⟨#[]⟩, .int .i64 0, .int .i64 0, .int .i64 0, .int .i64 0, .int .i64 0, .string ⟨#[]⟩] 27) = y := ⟨_, rfl⟩
  obtain ⟨wb, hwb⟩ : ∃ y, y = wa.alloc (.cells #[.string ⟨s.toArray⟩, .int .i64 0] 142) := ⟨_, rfl⟩
  obtain ⟨wc, hwc⟩ : ∃ y, wb.alloc (.cells #[.int .i64 0, .bool false, .int .i64 0, .string ⟨#[]⟩, .int .i64 0, .int .i64 0, .int .i64 0, .int .i64 0, .int .i64 0, .string ⟨#[]⟩] 27) = y := ⟨_, rfl⟩
  obtain ⟨hS0, hza, hzb⟩ := DT.start [.int .i64 0, .bool false, .int .i64 0, .string ⟨#[]⟩, .int .i64 0, .int .i64 0, .int .i64 0, .int .i64 0, .int .i64 0, .string ⟨#[]⟩] s _ w wa wb wc hwa hwb hwc
  have HNR : Hid (Calls Tryz.prog 59 #[.string ⟨s.toArray⟩] wa fun e w' => e = .returned (.pointer (some ⟨w.heap.size + 1, 0, none⟩)) ∧ w' = wb) := by rw [hwb, ← hza]; exact dnew_any s wa
  have HS0 := hid hS0
  have HXx := hid hx
  have HXk := hid hk
  have HXd := hid hd
  have HXc := hid hc
  have HXa := hid ha
  have HXz := hid hz
  have e1 : ((k.1 : Int) != 1) = false := bne_eq_false_iff_eq.2 k1
  have e2 : decide (1 < (d.1 : Int)) = false := decide_eq_false (by omega)
  have e3 : ((d.1 : Int) == 1) = false := beq_eq_false_iff_ne.2 (by omega)
  have e4 : ((a.1 : Int) == 2) = false := beq_eq_false_iff_ne.2 j1
  have F0 := hid e1
  have F1 := hid e2
  have F2 := hid e3
  have F3 := hid e4
  clear hx hk hd hc ha hz e1 e2 e3 e4 hwb hS0 k1 d1 j1
  go_enter Tryz.func32, Tryz.ntmps32
  go_wp2_with fail
  refine HNR.out.mono ?_
  rintro e w1 ⟨rfl, hw1⟩
  have hw2 := hw1.symm
  clear hw1 HNR
  subst hw2
  have G0 := hid HS0.out.uint
  rw [HXx.out] at G0
  go_wp2_with fail
  clear hwa hwc
  refine G0.out.mono ?_
  rintro e v0 ⟨rfl, h0⟩
  clear G0 HS0
  have k0 := h0.k.cell 0 rfl
  have f0 := h0.k.frozen 0
  obtain ⟨s0, hs0⟩ : ∃ y, (v0.setCell ⟨w.heap.size + 1 + 1, 0, none⟩ (.int .i64 (x.1 : Int))) = y := ⟨_, rfl⟩
  have HS1 : Hid (DT w s0 w.heap.size x.2 [.int .i64 (x.1 : Int), .bool false, .int .i64 0, .string ⟨#[]⟩, .int .i64 0, .int .i64 0, .int .i64 0, .int .i64 0, .int .i64 0, .string ⟨#[]⟩] [.int .i64 0, .bool false, .int .i64 0, .string ⟨#[]⟩, .int .i64 0, .int .i64 0, .int .i64 0, .int .i64 0, .int .i64 0, .string ⟨#[]⟩] 27) := by rw [← hs0]; exact (h0.set 0 _)
  clear h0
  have G1 := hid HS1.out.uint
  rw [HXk.out] at G1
  go_wp2_with fail
  clear k0 f0 hs0
  refine G1.out.mono ?_
  rintro e v1 ⟨rfl, h1⟩
  clear G1 HS1
  have HS2 : Hid (DT w v1 w.heap.size k.2 [.int .i64 (x.1 : Int), .bool false, .int .i64 0, .string ⟨#[]⟩, .int .i64 0, .int .i64 0, .int .i64 0, .int .i64 0, .int .i64 0, .string ⟨#[]⟩] [.int .i64 0, .bool false, .int .i64 0, .string ⟨#[]⟩, .int .i64 0, .int .i64 0, .int .i64 0, .int .i64 0, .int .i64 0, .string ⟨#[]⟩] 27) := h1
  clear h1
  have G2 := hid HS2.out.uint
  rw [HXd.out] at G2
  go_wp2_with fail
  refine G2.out.mono ?_
  rintro e v2 ⟨rfl, h2⟩
  clear G2 HS2
  have e1 := F0.out
  have e2 := F1.out
  have e3 := F2.out
  have HS3 : Hid (DT w v2 w.heap.size d.2 [.int .i64 (x.1 : Int), .bool false, .int .i64 0, .string ⟨#[]⟩, .int .i64 0, .int .i64 0, .int .i64 0, .int .i64 0, .int .i64 0, .string ⟨#[]⟩] [.int .i64 0, .bool false, .int .i64 0, .string ⟨#[]⟩, .int .i64 0, .int .i64 0, .int .i64 0, .int .i64 0, .int .i64 0, .string ⟨#[]⟩] 27) := h2
  clear h2
  have G3 := hid HS3.out.auth
  rw [HXc.out] at G3
  go_wp2_with fail
  clear e1 e2 e3
  refine G3.out.mono ?_
  rintro e v3 ⟨rfl, h3⟩
  clear G3 HS3
  have k2 := h3.k.cell 2 rfl
  have f2 := h3.k.frozen 2
  have k3 := h3.k.cell 3 rfl
  have f3 := h3.k.frozen 3
  obtain ⟨s3, hs3⟩ : ∃ y, ((v3.setCell ⟨w.heap.size + 1 + 1, 2, none⟩ (.int .i64 c.1.flavor)).setCell ⟨w.heap.size + 1 + 1, 3, none⟩ (.string ⟨c.1.body.toArray⟩)) = y := ⟨_, rfl⟩
  have HS4 : Hid (DT w s3 w.heap.size c.2 [.int .i64 (x.1 : Int), .bool false, .int .i64 c.1.flavor, .string ⟨c.1.body.toArray⟩, .int .i64 0, .int .i64 0, .int .i64 0, .int .i64 0, .int .i64 0, .string ⟨#[]⟩] [.int .i64 0, .bool false, .int .i64 0, .string ⟨#[]⟩, .int .i64 0, .int .i64 0, .int .i64 0, .int .i64 0, .int .i64 0, .string ⟨#[]⟩] 27) := by rw [← hs3]; exact ((h3.set 2 _).set 3 _)
  clear h3
  have G4 := hid HS4.out.uint
  rw [HXa.out] at G4
  go_wp2_with fail
  clear k2 f2 k3 f3 hs3
  refine G4.out.mono ?_
  rintro e v4 ⟨rfl, h4⟩
  clear G4 HS4
  have k4 := h4.k.cell 4 rfl
  have f4 := h4.k.frozen 4
  obtain ⟨s4, hs4⟩ : ∃ y, (v4.setCell ⟨w.heap.size + 1 + 1, 4, none⟩ (.int .i64 (a.1 : Int))) = y := ⟨_, rfl⟩
  have HS5 : Hid (DT w s4 w.heap.size a.2 [.int .i64 (x.1 : Int), .bool false, .int .i64 c.1.flavor, .string ⟨c.1.body.toArray⟩, .int .i64 (a.1 : Int), .int .i64 0, .int .i64 0, .int .i64 0, .int .i64 0, .string ⟨#[]⟩] [.int .i64 0, .bool false, .int .i64 0, .string ⟨#[]⟩, .int .i64 0, .int .i64 0, .int .i64 0, .int .i64 0, .int .i64 0, .string ⟨#[]⟩] 27) := by rw [← hs4]; exact (h4.set 4 _)
  clear h4
  have c4 := HS5.out.k.cell 4 rfl
  have e4 := F3.out
  have G5 := hid HS5.out.rest
  rw [HXz.out] at G5
  go_wp2_with fail
  clear k4 f4 hs4 c4 e4
  refine G5.out.mono ?_
  rintro e v5 ⟨rfl, h5⟩
  clear G5 HS5
  have k9 := h5.k.cell 9 rfl
  have f9 := h5.k.frozen 9
  obtain ⟨s5, hs5⟩ : ∃ y, (v5.setCell ⟨w.heap.size + 1 + 1, 9, none⟩ (.string ⟨z.1.toArray⟩)) = y := ⟨_, rfl⟩
  have HS6 : Hid (DT w s5 w.heap.size z.2 [.int .i64 (x.1 : Int), .bool false, .int .i64 c.1.flavor, .string ⟨c.1.body.toArray⟩, .int .i64 (a.1 : Int), .int .i64 0, .int .i64 0, .int .i64 0, .int .i64 0, .string ⟨z.1.toArray⟩] [.int .i64 0, .bool false, .int .i64 0, .string ⟨#[]⟩, .int .i64 0, .int .i64 0, .int .i64 0, .int .i64 0, .int .i64 0, .string ⟨#[]⟩] 27) := by rw [← hs5]; exact (h5.set 9 _)
  clear h5
  have c0 := HS6.out.k.cell 0 rfl
  have c1 := HS6.out.k.cell 1 rfl
  have c2 := HS6.out.k.cell 2 rfl
  have c3 := HS6.out.k.cell 3 rfl
  have c4 := HS6.out.k.cell 4 rfl
  have c5 := HS6.out.k.cell 5 rfl
  have c6 := HS6.out.k.cell 6 rfl
  have c7 := HS6.out.k.cell 7 rfl
  have c8 := HS6.out.k.cell 8 rfl
  have c9 := HS6.out.k.cell 9 rfl
  go_wp2_with fail
  clear k9 f9 hs5
  refine (HPC.out _).mono ?_
  rintro e vb ⟨rfl, hBb⟩
  have HSF := hid (HS6.out.below hBb)
  clear hBb c0 c1 c2 c3 c4 c5 c6 c7 c8 c9
  have hD2 := HRR.out
  rcases HPP.out with ⟨hm, h2, h3, h4⟩ | ⟨hm, h3⟩
  · skip
    rw [if_pos ⟨hm, h2⟩] at hD2
    clear hm h2
    subst hD2
    subst h3
    subst h4
    have c0 : vb.cell? ⟨w.heap.size + 1 + 1, 0, none⟩ = some (.int .i64 (x.1 : Int)) := HSF.out.k.cell 0 rfl
    have c1 : vb.cell? ⟨w.heap.size + 1 + 1, 1, none⟩ = some (.bool false) := HSF.out.k.cell 1 rfl
    have c2 : vb.cell? ⟨w.heap.size + 1 + 1, 2, none⟩ = some (.int .i64 c.1.flavor) := HSF.out.k.cell 2 rfl
    have c3 : vb.cell? ⟨w.heap.size + 1 + 1, 3, none⟩ = some (.string ⟨c.1.body.toArray⟩) := HSF.out.k.cell 3 rfl
    have c4 : vb.cell? ⟨w.heap.size + 1 + 1, 4, none⟩ = some (.int .i64 (a.1 : Int)) := HSF.out.k.cell 4 rfl
    have c5 : vb.cell? ⟨w.heap.size + 1 + 1, 5, none⟩ = some (.int .i64 0) := HSF.out.k.cell 5 rfl
    have c6 : vb.cell? ⟨w.heap.size + 1 + 1, 6, none⟩ = some (.int .i64 0) := HSF.out.k.cell 6 rfl
    have c7 : vb.cell? ⟨w.heap.size + 1 + 1, 7, none⟩ = some (.int .i64 0) := HSF.out.k.cell 7 rfl
    have c8 : vb.cell? ⟨w.heap.size + 1 + 1, 8, none⟩ = some (.int .i64 0) := HSF.out.k.cell 8 rfl
    have c9 : vb.cell? ⟨w.heap.size + 1 + 1, 9, none⟩ = some (.string ⟨z.1.toArray⟩) := HSF.out.k.cell 9 rfl
    have k0 : vb.cell? ⟨w.heap.size, 0, none⟩ = some (.int .i64 0) := HSF.out.z.cell 0 rfl
    have f0 := HSF.out.z.frozen 0
    have k1 : vb.cell? ⟨w.heap.size, 1, none⟩ = some (.bool false) := HSF.out.z.cell 1 rfl
    have f1 := HSF.out.z.frozen 1
    have k2 : vb.cell? ⟨w.heap.size, 2, none⟩ = some (.int .i64 0) := HSF.out.z.cell 2 rfl
    have f2 := HSF.out.z.frozen 2
    have k3 : vb.cell? ⟨w.heap.size, 3, none⟩ = some (.string ⟨#[]⟩) := HSF.out.z.cell 3 rfl
    have f3 := HSF.out.z.frozen 3
    have k4 : vb.cell? ⟨w.heap.size, 4, none⟩ = some (.int .i64 0) := HSF.out.z.cell 4 rfl
    have f4 := HSF.out.z.frozen 4
    have k5 : vb.cell? ⟨w.heap.size, 5, none⟩ = some (.int .i64 0) := HSF.out.z.cell 5 rfl
    have f5 := HSF.out.z.frozen 5
    have k6 : vb.cell? ⟨w.heap.size, 6, none⟩ = some (.int .i64 0) := HSF.out.z.cell 6 rfl
    have f6 := HSF.out.z.frozen 6
    have k7 : vb.cell? ⟨w.heap.size, 7, none⟩ = some (.int .i64 0) := HSF.out.z.cell 7 rfl
    have f7 := HSF.out.z.frozen 7
    have k8 : vb.cell? ⟨w.heap.size, 8, none⟩ = some (.int .i64 0) := HSF.out.z.cell 8 rfl
    have f8 := HSF.out.z.frozen 8
    have k9 : vb.cell? ⟨w.heap.size, 9, none⟩ = some (.string ⟨#[]⟩) := HSF.out.z.cell 9 rfl
    have f9 := HSF.out.z.frozen 9
    have HZ9 := HSF.out.z.set10 (.int .i64 (x.1 : Int)) (.bool false) (.int .i64 c.1.flavor) (.string ⟨c.1.body.toArray⟩) (.int .i64 (a.1 : Int)) (.int .i64 0) (.int .i64 0) (.int .i64 0) (.int .i64 0) (.string ⟨z.1.toArray⟩)
    have q0 := HZ9.cell 0 rfl
    have q1 := HZ9.cell 1 rfl
    have q2 := HZ9.cell 2 rfl
    have q3 := HZ9.cell 3 rfl
    have q4 := HZ9.cell 4 rfl
    have q5 := HZ9.cell 5 rfl
    have q6 := HZ9.cell 6 rfl
    have q7 := HZ9.cell 7 rfl
    have q8 := HZ9.cell 8 rfl
    have q9 := HZ9.cell 9 rfl
    have HB9 := hid (below_set10 (b := w.heap.size) HSF.out.low (Nat.le_refl _) (.int .i64 (x.1 : Int)) (.bool false) (.int .i64 c.1.flavor) (.string ⟨c.1.body.toArray⟩) (.int .i64 (a.1 : Int)) (.int .i64 0) (.int .i64 0) (.int .i64 0) (.int .i64 0) (.string ⟨z.1.toArray⟩))
    clear HZ9
    go_wp2
    refine bodyPost_ret (v := .tuple #[.agg #[.int .i64 (x.1 : Int), .bool false, .int .i64 c.1.flavor, .string ⟨c.1.body.toArray⟩, .int .i64 (a.1 : Int), .int .i64 0, .int .i64 0, .int .i64 0, .int .i64 0, .string ⟨z.1.toArray⟩], .int .i64 0]) (by simp [results, Tryz.results32, go_sem, q0, q1, q2, q3, q4, q5, q6, q7, q8, q9]) rfl ⟨by rw [HGC.out], HB9.out⟩
  · rw [if_neg hm] at hD2
    clear hm
    subst hD2
    rcases h3 with h3 | ⟨h3, h4⟩
    · skip
      have e4 : (PE != 0) = true := bne_iff_ne.2 h3
      have k0 : vb.cell? ⟨w.heap.size, 0, none⟩ = some (.int .i64 0) := HSF.out.z.cell 0 rfl
      have f0 := HSF.out.z.frozen 0
      have k1 : vb.cell? ⟨w.heap.size, 1, none⟩ = some (.bool false) := HSF.out.z.cell 1 rfl
      have f1 := HSF.out.z.frozen 1
      have k2 : vb.cell? ⟨w.heap.size, 2, none⟩ = some (.int .i64 0) := HSF.out.z.cell 2 rfl
      have f2 := HSF.out.z.frozen 2
      have k3 : vb.cell? ⟨w.heap.size, 3, none⟩ = some (.string ⟨#[]⟩) := HSF.out.z.cell 3 rfl
      have f3 := HSF.out.z.frozen 3
      have k4 : vb.cell? ⟨w.heap.size, 4, none⟩ = some (.int .i64 0) := HSF.out.z.cell 4 rfl
      have f4 := HSF.out.z.frozen 4
      have k5 : vb.cell? ⟨w.heap.size, 5, none⟩ = some (.int .i64 0) := HSF.out.z.cell 5 rfl
      have f5 := HSF.out.z.frozen 5
      have k6 : vb.cell? ⟨w.heap.size, 6, none⟩ = some (.int .i64 0) := HSF.out.z.cell 6 rfl
      have f6 := HSF.out.z.frozen 6
      have k7 : vb.cell? ⟨w.heap.size, 7, none⟩ = some (.int .i64 0) := HSF.out.z.cell 7 rfl
      have f7 := HSF.out.z.frozen 7
      have k8 : vb.cell? ⟨w.heap.size, 8, none⟩ = some (.int .i64 0) := HSF.out.z.cell 8 rfl
      have f8 := HSF.out.z.frozen 8
      have k9 : vb.cell? ⟨w.heap.size, 9, none⟩ = some (.string ⟨#[]⟩) := HSF.out.z.cell 9 rfl
      have f9 := HSF.out.z.frozen 9
      have HZ9 := HSF.out.z.set10 (.int .i64 0) (.bool false) (.int .i64 0) (.string ⟨#[]⟩) (.int .i64 0) (.int .i64 0) (.int .i64 0) (.int .i64 0) (.int .i64 0) (.string ⟨#[]⟩)
      have q0 := HZ9.cell 0 rfl
      have q1 := HZ9.cell 1 rfl
      have q2 := HZ9.cell 2 rfl
      have q3 := HZ9.cell 3 rfl
      have q4 := HZ9.cell 4 rfl
      have q5 := HZ9.cell 5 rfl
      have q6 := HZ9.cell 6 rfl
      have q7 := HZ9.cell 7 rfl
      have q8 := HZ9.cell 8 rfl
      have q9 := HZ9.cell 9 rfl
      have HB9 := hid (below_set10 (b := w.heap.size) HSF.out.low (Nat.le_refl _) (.int .i64 0) (.bool false) (.int .i64 0) (.string ⟨#[]⟩) (.int .i64 0) (.int .i64 0) (.int .i64 0) (.int .i64 0) (.int .i64 0) (.string ⟨#[]⟩))
      clear HZ9
      go_wp2
      refine bodyPost_ret (v := .tuple #[.agg #[.int .i64 0, .bool false, .int .i64 0, .string ⟨#[]⟩, .int .i64 0, .int .i64 0, .int .i64 0, .int .i64 0, .int .i64 0, .string ⟨#[]⟩], .int .i64 121]) (by simp [results, Tryz.results32, go_sem, q0, q1, q2, q3, q4, q5, q6, q7, q8, q9]) rfl ⟨rfl, HB9.out⟩
    · skip
      subst h3
      have e5 : ((⟨PS.toArray⟩ : ByteArray).toList == s) = false := by first | simpa using h4 | simpa using ne_list h4
      generalize (⟨PS.toArray⟩ : ByteArray) = BP at *
      have k0 : vb.cell? ⟨w.heap.size, 0, none⟩ = some (.int .i64 0) := HSF.out.z.cell 0 rfl
      have f0 := HSF.out.z.frozen 0
      have k1 : vb.cell? ⟨w.heap.size, 1, none⟩ = some (.bool false) := HSF.out.z.cell 1 rfl
      have f1 := HSF.out.z.frozen 1
      have k2 : vb.cell? ⟨w.heap.size, 2, none⟩ = some (.int .i64 0) := HSF.out.z.cell 2 rfl
      have f2 := HSF.out.z.frozen 2
      have k3 : vb.cell? ⟨w.heap.size, 3, none⟩ = some (.string ⟨#[]⟩) := HSF.out.z.cell 3 rfl
      have f3 := HSF.out.z.frozen 3
      have k4 : vb.cell? ⟨w.heap.size, 4, none⟩ = some (.int .i64 0) := HSF.out.z.cell 4 rfl
      have f4 := HSF.out.z.frozen 4
      have k5 : vb.cell? ⟨w.heap.size, 5, none⟩ = some (.int .i64 0) := HSF.out.z.cell 5 rfl
      have f5 := HSF.out.z.frozen 5
      have k6 : vb.cell? ⟨w.heap.size, 6, none⟩ = some (.int .i64 0) := HSF.out.z.cell 6 rfl
      have f6 := HSF.out.z.frozen 6
      have k7 : vb.cell? ⟨w.heap.size, 7, none⟩ = some (.int .i64 0) := HSF.out.z.cell 7 rfl
      have f7 := HSF.out.z.frozen 7
      have k8 : vb.cell? ⟨w.heap.size, 8, none⟩ = some (.int .i64 0) := HSF.out.z.cell 8 rfl
      have f8 := HSF.out.z.frozen 8
      have k9 : vb.cell? ⟨w.heap.size, 9, none⟩ = some (.string ⟨#[]⟩) := HSF.out.z.cell 9 rfl
      have f9 := HSF.out.z.frozen 9
      have HZ9 := HSF.out.z.set10 (.int .i64 0) (.bool false) (.int .i64 0) (.string ⟨#[]⟩) (.int .i64 0) (.int .i64 0) (.int .i64 0) (.int .i64 0) (.int .i64 0) (.string ⟨#[]⟩)
      have q0 := HZ9.cell 0 rfl
      have q1 := HZ9.cell 1 rfl
      have q2 := HZ9.cell 2 rfl
      have q3 := HZ9.cell 3 rfl
      have q4 := HZ9.cell 4 rfl
      have q5 := HZ9.cell 5 rfl
      have q6 := HZ9.cell 6 rfl
      have q7 := HZ9.cell 7 rfl
      have q8 := HZ9.cell 8 rfl
      have q9 := HZ9.cell 9 rfl
      have HB9 := hid (below_set10 (b := w.heap.size) HSF.out.low (Nat.le_refl _) (.int .i64 0) (.bool false) (.int .i64 0) (.string ⟨#[]⟩) (.int .i64 0) (.int .i64 0) (.int .i64 0) (.int .i64 0) (.int .i64 0) (.string ⟨#[]⟩))
      clear HZ9
      go_wp2
      refine bodyPost_ret (v := .tuple #[.agg #[.int .i64 0, .bool false, .int .i64 0, .string ⟨#[]⟩, .int .i64 0, .int .i64 0, .int .i64 0, .int .i64 0, .int .i64 0, .string ⟨#[]⟩], .int .i64 121]) (by simp [results, Tryz.results32, go_sem, q0, q1, q2, q3, q4, q5, q6, q7, q8, q9]) rfl ⟨rfl, HB9.out⟩
end Go.Proofs.YtebjheaohichpaaGreatDoor
