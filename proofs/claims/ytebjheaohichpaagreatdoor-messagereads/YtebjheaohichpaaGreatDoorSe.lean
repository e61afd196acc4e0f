/- The document reads a call. -/
import Derived.Test.YtebjheaohichpaaGreatDoorSc
namespace Go.Proofs.YtebjheaohichpaaGreatDoor
open Go.RowKit

set_option maxRecDepth 8000 in
set_option maxHeartbeats 8000000 in
theorem dpc_4 (s : List UInt8) (w : World) (x : Nat × Rs) (k : Nat × Rs) (r : Nat × Rs) (p : Nat × Rs) (v : Nat × Rs) (q : Nat × Rs) (c : AuthP × Rs) (f : AuthP × Rs) (a : List UInt8 × Rs) (hx : (⟨s, 0⟩ : Rs).go 0 rdWord = x) (hk : x.2.go 0 rdWord = k) (hr : k.2.go 0 rdWord = r) (hp : r.2.go 0 rdWord = p) (hv : p.2.go 0 rdWord = v) (hq : v.2.go 0 rdWord = q) (hc : rdAuth q.2 = c) (hf : rdAuth c.2 = f) (ha : f.2.go [] rdRest = a) (h0 : r.2.e = 0) (k0 : (k.1 : Int) = 0) (r2 : (r.1 : Int) = 2) (hal : a.1.length ≤ 140737488355328) (G : CallP) (hG : G = ⟨x.1, r.1, p.1, v.1, q.1, c.1, f.1, a.1⟩) (RR_ : CallP × Int) (hR : RR_ = if G.may ∧ G.lay = s then (G, 0) else (nulC, 121)) :
    Calls Tryz.prog 30 #[.string ⟨s.toArray⟩] w fun e w' => e = .returned (.tuple #[.agg (callV RR_.1).toArray, .int .i64 RR_.2]) ∧ Below w.heap.size w w' := by
  obtain ⟨PS, hPS⟩ : ∃ z, (pcP G).1 = z := ⟨_, rfl⟩
  obtain ⟨PE, hPE⟩ : ∃ z, (pcP G).2 = z := ⟨_, rfl⟩
  have HPC : Hid (∀ w, Calls Tryz.prog 7 #[.agg #[.int .i64 (x.1 : Int), .int .i64 (r.1 : Int), .int .i64 (p.1 : Int), .int .i64 (v.1 : Int), .int .i64 (q.1 : Int), .int .i64 c.1.flavor, .string ⟨c.1.body.toArray⟩, .int .i64 f.1.flavor, .string ⟨f.1.body.toArray⟩, .string ⟨a.1.toArray⟩]] w fun e w' => e = .returned (.tuple #[.string ⟨PS.toArray⟩, .int .i64 PE]) ∧ Below w.heap.size w w') := fun w => by
    have := dprintCall_any G w (by rw [hG]; exact hal)
    rw [hPS, hPE, hG] at this
    exact this
  have hPP : (G.may ∧ G.lay = s ∧ PE = 0 ∧ PS = s) ∨ (¬ (G.may ∧ G.lay = s) ∧ (PE ≠ 0 ∨ (PE = 0 ∧ PS ≠ s))) := by
    rw [← hPS, ← hPE]
    by_cases hm : G.may
    · rw [pc_may hm]
      by_cases h2 : G.lay = s
      · exact .inl ⟨hm, h2, rfl, h2⟩
      · exact .inr ⟨fun o => h2 o.2, .inr ⟨rfl, h2⟩⟩
    · refine .inr ⟨fun o => hm o.1, .inl ?_⟩
      unfold pcP prM
      rw [if_neg hm]
      show (120 : Int) ≠ 0
      decide
  have HGC : Hid (callV G = [.int .i64 (x.1 : Int), .int .i64 (r.1 : Int), .int .i64 (p.1 : Int), .int .i64 (v.1 : Int), .int .i64 (q.1 : Int), .int .i64 c.1.flavor, .string ⟨c.1.body.toArray⟩, .int .i64 f.1.flavor, .string ⟨f.1.body.toArray⟩, .string ⟨a.1.toArray⟩]) := by show _ = _; rw [hG]; rfl
  have HPP := hid hPP
  have HRR := hid hR
  clear hPS hPE hPP hG hR hal
  have HNC : Hid (callV nulC = [.int .i64 0, .int .i64 0, .int .i64 0, .int .i64 0, .int .i64 0, .int .i64 0, .string ⟨#[]⟩, .int .i64 0, .string ⟨#[]⟩, .string ⟨#[]⟩]) := rfl
  obtain ⟨wa, hwa⟩ : ∃ y, w.alloc (.cells #[.int .i64 0, .int .i64 0, .int .i64 0, .int .i64 0, .int .i64 0, .int .i64 0, .string ⟨#[]⟩, .int .i64 0, .string ⟨#[]⟩, .string ⟨#[]⟩] 25) = y := ⟨_, rfl⟩
  obtain ⟨wb, hwb⟩ : ∃ y, y = wa.alloc (.cells #[.string ⟨s.toArray⟩, .int .i64 0] 142) := ⟨_, rfl⟩
  obtain ⟨wc, hwc⟩ : ∃ y, wb.alloc (.cells #[.int .i64 0, .int .i64 0, .int .i64 0, .int .i64 0, .int .i64 0, .int .i64 0, .string ⟨#[]⟩, .int .i64 0, .string ⟨#[]⟩, .string ⟨#[]⟩] 25) = y := ⟨_, rfl⟩
  obtain ⟨hS0, hza, hzb⟩ := DT.start [.int .i64 0, .int .i64 0, .int .i64 0, .int .i64 0, .int .i64 0, .int .i64 0, .string ⟨#[]⟩, .int .i64 0, .string ⟨#[]⟩, .string ⟨#[]⟩] s _ w wa wb wc hwa hwb hwc
  have HNR : Hid (Calls Tryz.prog 59 #[.string ⟨s.toArray⟩] wa fun e w' => e = .returned (.pointer (some ⟨w.heap.size + 1, 0, none⟩)) ∧ w' = wb) := by rw [hwb, ← hza]; exact dnew_any s wa
  have HS0 := hid hS0
  have HXx := hid hx
  have HXk := hid hk
  have HXr := hid hr
  have HXp := hid hp
  have HXv := hid hv
  have HXq := hid hq
  have HXc := hid hc
  have HXf := hid hf
  have HXa := hid ha
  have e1 : (r.2.e != 0) = false := bne_eq_false_iff_eq.2 h0
  have e2 : ((k.1 : Int) != 0) = false := bne_eq_false_iff_eq.2 k0
  have e3 : ((r.1 : Int) != 2) = false := bne_eq_false_iff_eq.2 r2
  have F0 := hid e1
  have F1 := hid e2
  have F2 := hid e3
  clear hx hk hr hp hv hq hc hf ha e1 e2 e3 hwb hS0 h0 k0 r2
  go_enter Tryz.func30, Tryz.ntmps30
  go_wp2_with fail
  refine HNR.out.mono ?_
  rintro e w1 ⟨rfl, hw1⟩
  have hw2 := hw1.symm
  clear hw1 HNR
  subst hw2
  have G0 := hid HS0.out.uint
  rw [HXx.out] at G0
  go_wp2_with fail
  clear hwa hwc
  refine G0.out.mono ?_
  rintro e v0 ⟨rfl, h0⟩
  clear G0 HS0
  have k0 := h0.k.cell 0 rfl
  have f0 := h0.k.frozen 0
  obtain ⟨s0, hs0⟩ : ∃ y, (v0.setCell ⟨w.heap.size + 1 + 1, 0, none⟩ (.int .i64 (x.1 : Int))) = y := ⟨_, rfl⟩
  have HS1 : Hid (DT w s0 w.heap.size x.2 [.int .i64 (x.1 : Int), .int .i64 0, .int .i64 0, .int .i64 0, .int .i64 0, .int .i64 0, .string ⟨#[]⟩, .int .i64 0, .string ⟨#[]⟩, .string ⟨#[]⟩] [.int .i64 0, .int .i64 0, .int .i64 0, .int .i64 0, .int .i64 0, .int .i64 0, .string ⟨#[]⟩, .int .i64 0, .string ⟨#[]⟩, .string ⟨#[]⟩] 25) := by rw [← hs0]; exact (h0.set 0 _)
  clear h0
  have G1 := hid HS1.out.uint
  rw [HXk.out] at G1
  go_wp2_with fail
  clear k0 f0 hs0
  refine G1.out.mono ?_
  rintro e v1 ⟨rfl, h1⟩
  clear G1 HS1
  have HS2 : Hid (DT w v1 w.heap.size k.2 [.int .i64 (x.1 : Int), .int .i64 0, .int .i64 0, .int .i64 0, .int .i64 0, .int .i64 0, .string ⟨#[]⟩, .int .i64 0, .string ⟨#[]⟩, .string ⟨#[]⟩] [.int .i64 0, .int .i64 0, .int .i64 0, .int .i64 0, .int .i64 0, .int .i64 0, .string ⟨#[]⟩, .int .i64 0, .string ⟨#[]⟩, .string ⟨#[]⟩] 25) := h1
  clear h1
  have G2 := hid HS2.out.uint
  rw [HXr.out] at G2
  go_wp2_with fail
  refine G2.out.mono ?_
  rintro e v2 ⟨rfl, h2⟩
  clear G2 HS2
  have k1 := h2.k.cell 1 rfl
  have f1 := h2.k.frozen 1
  obtain ⟨s2, hs2⟩ : ∃ y, (v2.setCell ⟨w.heap.size + 1 + 1, 1, none⟩ (.int .i64 (r.1 : Int))) = y := ⟨_, rfl⟩
  have HS3 : Hid (DT w s2 w.heap.size r.2 [.int .i64 (x.1 : Int), .int .i64 (r.1 : Int), .int .i64 0, .int .i64 0, .int .i64 0, .int .i64 0, .string ⟨#[]⟩, .int .i64 0, .string ⟨#[]⟩, .string ⟨#[]⟩] [.int .i64 0, .int .i64 0, .int .i64 0, .int .i64 0, .int .i64 0, .int .i64 0, .string ⟨#[]⟩, .int .i64 0, .string ⟨#[]⟩, .string ⟨#[]⟩] 25) := by rw [← hs2]; exact (h2.set 1 _)
  clear h2
  have HW := hid (dwrong_any _ _ _ _ HS3.out.r)
  go_wp2_with fail
  clear k1 f1 hs2
  refine HW.out.mono ?_
  rintro e w9 ⟨rfl, hw9⟩
  have hw10 := hw9.symm
  clear hw9 HW
  subst hw10
  have e1 := F0.out
  have e2 := F1.out
  have e3 := F2.out
  have c1 := HS3.out.k.cell 1 rfl
  have G3 := hid HS3.out.uint
  rw [HXp.out] at G3
  go_wp2_with fail
  clear e1 e2 e3 c1
  refine G3.out.mono ?_
  rintro e v3 ⟨rfl, h3⟩
  clear G3 HS3
  have k2 := h3.k.cell 2 rfl
  have f2 := h3.k.frozen 2
  obtain ⟨s3, hs3⟩ : ∃ y, (v3.setCell ⟨w.heap.size + 1 + 1, 2, none⟩ (.int .i64 (p.1 : Int))) = y := ⟨_, rfl⟩
  have HS4 : Hid (DT w s3 w.heap.size p.2 [.int .i64 (x.1 : Int), .int .i64 (r.1 : Int), .int .i64 (p.1 : Int), .int .i64 0, .int .i64 0, .int .i64 0, .string ⟨#[]⟩, .int .i64 0, .string ⟨#[]⟩, .string ⟨#[]⟩] [.int .i64 0, .int .i64 0, .int .i64 0, .int .i64 0, .int .i64 0, .int .i64 0, .string ⟨#[]⟩, .int .i64 0, .string ⟨#[]⟩, .string ⟨#[]⟩] 25) := by rw [← hs3]; exact (h3.set 2 _)
  clear h3
  have G4 := hid HS4.out.uint
  rw [HXv.out] at G4
  go_wp2_with fail
  clear k2 f2 hs3
  refine G4.out.mono ?_
  rintro e v4 ⟨rfl, h4⟩
  clear G4 HS4
  have k3 := h4.k.cell 3 rfl
  have f3 := h4.k.frozen 3
  obtain ⟨s4, hs4⟩ : ∃ y, (v4.setCell ⟨w.heap.size + 1 + 1, 3, none⟩ (.int .i64 (v.1 : Int))) = y := ⟨_, rfl⟩
  have HS5 : Hid (DT w s4 w.heap.size v.2 [.int .i64 (x.1 : Int), .int .i64 (r.1 : Int), .int .i64 (p.1 : Int), .int .i64 (v.1 : Int), .int .i64 0, .int .i64 0, .string ⟨#[]⟩, .int .i64 0, .string ⟨#[]⟩, .string ⟨#[]⟩] [.int .i64 0, .int .i64 0, .int .i64 0, .int .i64 0, .int .i64 0, .int .i64 0, .string ⟨#[]⟩, .int .i64 0, .string ⟨#[]⟩, .string ⟨#[]⟩] 25) := by rw [← hs4]; exact (h4.set 3 _)
  clear h4
  have G5 := hid HS5.out.uint
  rw [HXq.out] at G5
  go_wp2_with fail
  clear k3 f3 hs4
  refine G5.out.mono ?_
  rintro e v5 ⟨rfl, h5⟩
  clear G5 HS5
  have k4 := h5.k.cell 4 rfl
  have f4 := h5.k.frozen 4
  obtain ⟨s5, hs5⟩ : ∃ y, (v5.setCell ⟨w.heap.size + 1 + 1, 4, none⟩ (.int .i64 (q.1 : Int))) = y := ⟨_, rfl⟩
  have HS6 : Hid (DT w s5 w.heap.size q.2 [.int .i64 (x.1 : Int), .int .i64 (r.1 : Int), .int .i64 (p.1 : Int), .int .i64 (v.1 : Int), .int .i64 (q.1 : Int), .int .i64 0, .string ⟨#[]⟩, .int .i64 0, .string ⟨#[]⟩, .string ⟨#[]⟩] [.int .i64 0, .int .i64 0, .int .i64 0, .int .i64 0, .int .i64 0, .int .i64 0, .string ⟨#[]⟩, .int .i64 0, .string ⟨#[]⟩, .string ⟨#[]⟩] 25) := by rw [← hs5]; exact (h5.set 4 _)
  clear h5
  have G6 := hid HS6.out.auth
  rw [HXc.out] at G6
  go_wp2_with fail
  clear k4 f4 hs5
  refine G6.out.mono ?_
  rintro e v6 ⟨rfl, h6⟩
  clear G6 HS6
  have k5 := h6.k.cell 5 rfl
  have f5 := h6.k.frozen 5
  have k6 := h6.k.cell 6 rfl
  have f6 := h6.k.frozen 6
  obtain ⟨s6, hs6⟩ : ∃ y, ((v6.setCell ⟨w.heap.size + 1 + 1, 5, none⟩ (.int .i64 c.1.flavor)).setCell ⟨w.heap.size + 1 + 1, 6, none⟩ (.string ⟨c.1.body.toArray⟩)) = y := ⟨_, rfl⟩
  have HS7 : Hid (DT w s6 w.heap.size c.2 [.int .i64 (x.1 : Int), .int .i64 (r.1 : Int), .int .i64 (p.1 : Int), .int .i64 (v.1 : Int), .int .i64 (q.1 : Int), .int .i64 c.1.flavor, .string ⟨c.1.body.toArray⟩, .int .i64 0, .string ⟨#[]⟩, .string ⟨#[]⟩] [.int .i64 0, .int .i64 0, .int .i64 0, .int .i64 0, .int .i64 0, .int .i64 0, .string ⟨#[]⟩, .int .i64 0, .string ⟨#[]⟩, .string ⟨#[]⟩] 25) := by rw [← hs6]; exact ((h6.set 5 _).set 6 _)
  clear h6
  have G7 := hid HS7.out.auth
  rw [HXf.out] at G7
  go_wp2_with fail
  clear k5 f5 k6 f6 hs6
  refine G7.out.mono ?_
  rintro e v7 ⟨rfl, h7⟩
  clear G7 HS7
  have k7 := h7.k.cell 7 rfl
  have f7 := h7.k.frozen 7
  have k8 := h7.k.cell 8 rfl
  have f8 := h7.k.frozen 8
  obtain ⟨s7, hs7⟩ : ∃ y, ((v7.setCell ⟨w.heap.size + 1 + 1, 7, none⟩ (.int .i64 f.1.flavor)).setCell ⟨w.heap.size + 1 + 1, 8, none⟩ (.string ⟨f.1.body.toArray⟩)) = y := ⟨_, rfl⟩
  have HS8 : Hid (DT w s7 w.heap.size f.2 [.int .i64 (x.1 : Int), .int .i64 (r.1 : Int), .int .i64 (p.1 : Int), .int .i64 (v.1 : Int), .int .i64 (q.1 : Int), .int .i64 c.1.flavor, .string ⟨c.1.body.toArray⟩, .int .i64 f.1.flavor, .string ⟨f.1.body.toArray⟩, .string ⟨#[]⟩] [.int .i64 0, .int .i64 0, .int .i64 0, .int .i64 0, .int .i64 0, .int .i64 0, .string ⟨#[]⟩, .int .i64 0, .string ⟨#[]⟩, .string ⟨#[]⟩] 25) := by rw [← hs7]; exact ((h7.set 7 _).set 8 _)
  clear h7
  have G8 := hid HS8.out.rest
  rw [HXa.out] at G8
  go_wp2_with fail
  clear k7 f7 k8 f8 hs7
  refine G8.out.mono ?_
  rintro e v8 ⟨rfl, h8⟩
  clear G8 HS8
  have k9 := h8.k.cell 9 rfl
  have f9 := h8.k.frozen 9
  obtain ⟨s8, hs8⟩ : ∃ y, (v8.setCell ⟨w.heap.size + 1 + 1, 9, none⟩ (.string ⟨a.1.toArray⟩)) = y := ⟨_, rfl⟩
  have HS9 : Hid (DT w s8 w.heap.size a.2 [.int .i64 (x.1 : Int), .int .i64 (r.1 : Int), .int .i64 (p.1 : Int), .int .i64 (v.1 : Int), .int .i64 (q.1 : Int), .int .i64 c.1.flavor, .string ⟨c.1.body.toArray⟩, .int .i64 f.1.flavor, .string ⟨f.1.body.toArray⟩, .string ⟨a.1.toArray⟩] [.int .i64 0, .int .i64 0, .int .i64 0, .int .i64 0, .int .i64 0, .int .i64 0, .string ⟨#[]⟩, .int .i64 0, .string ⟨#[]⟩, .string ⟨#[]⟩] 25) := by rw [← hs8]; exact (h8.set 9 _)
  clear h8
  have c0 := HS9.out.k.cell 0 rfl
  have c1 := HS9.out.k.cell 1 rfl
  have c2 := HS9.out.k.cell 2 rfl
  have c3 := HS9.out.k.cell 3 rfl
  have c4 := HS9.out.k.cell 4 rfl
  have c5 := HS9.out.k.cell 5 rfl
  have c6 := HS9.out.k.cell 6 rfl
  have c7 := HS9.out.k.cell 7 rfl
  have c8 := HS9.out.k.cell 8 rfl
  have c9 := HS9.out.k.cell 9 rfl
  go_wp2_with fail
  clear k9 f9 hs8
  refine (HPC.out _).mono ?_
  rintro e vb ⟨rfl, hBb⟩
  have HSF := hid (HS9.out.below hBb)
  clear hBb c0 c1 c2 c3 c4 c5 c6 c7 c8 c9
  have hD2 := HRR.out
  rcases HPP.out with ⟨hm, h2, h3, h4⟩ | ⟨hm, h3⟩
  · skip
    rw [if_pos ⟨hm, h2⟩] at hD2
    clear hm h2
    subst hD2
    subst h3
    subst h4
    have c0 : vb.cell? ⟨w.heap.size + 1 + 1, 0, none⟩ = some (.int .i64 (x.1 : Int)) := HSF.out.k.cell 0 rfl
    have c1 : vb.cell? ⟨w.heap.size + 1 + 1, 1, none⟩ = some (.int .i64 (r.1 : Int)) := HSF.out.k.cell 1 rfl
    have c2 : vb.cell? ⟨w.heap.size + 1 + 1, 2, none⟩ = some (.int .i64 (p.1 : Int)) := HSF.out.k.cell 2 rfl
    have c3 : vb.cell? ⟨w.heap.size + 1 + 1, 3, none⟩ = some (.int .i64 (v.1 : Int)) := HSF.out.k.cell 3 rfl
    have c4 : vb.cell? ⟨w.heap.size + 1 + 1, 4, none⟩ = some (.int .i64 (q.1 : Int)) := HSF.out.k.cell 4 rfl
    have c5 : vb.cell? ⟨w.heap.size + 1 + 1, 5, none⟩ = some (.int .i64 c.1.flavor) := HSF.out.k.cell 5 rfl
    have c6 : vb.cell? ⟨w.heap.size + 1 + 1, 6, none⟩ = some (.string ⟨c.1.body.toArray⟩) := HSF.out.k.cell 6 rfl
    have c7 : vb.cell? ⟨w.heap.size + 1 + 1, 7, none⟩ = some (.int .i64 f.1.flavor) := HSF.out.k.cell 7 rfl
    have c8 : vb.cell? ⟨w.heap.size + 1 + 1, 8, none⟩ = some (.string ⟨f.1.body.toArray⟩) := HSF.out.k.cell 8 rfl
    have c9 : vb.cell? ⟨w.heap.size + 1 + 1, 9, none⟩ = some (.string ⟨a.1.toArray⟩) := HSF.out.k.cell 9 rfl
    have k0 : vb.cell? ⟨w.heap.size, 0, none⟩ = some (.int .i64 0) := HSF.out.z.cell 0 rfl
    have f0 := HSF.out.z.frozen 0
    have k1 : vb.cell? ⟨w.heap.size, 1, none⟩ = some (.int .i64 0) := HSF.out.z.cell 1 rfl
    have f1 := HSF.out.z.frozen 1
    have k2 : vb.cell? ⟨w.heap.size, 2, none⟩ = some (.int .i64 0) := HSF.out.z.cell 2 rfl
    have f2 := HSF.out.z.frozen 2
    have k3 : vb.cell? ⟨w.heap.size, 3, none⟩ = some (.int .i64 0) := HSF.out.z.cell 3 rfl
    have f3 := HSF.out.z.frozen 3
    have k4 : vb.cell? ⟨w.heap.size, 4, none⟩ = some (.int .i64 0) := HSF.out.z.cell 4 rfl
    have f4 := HSF.out.z.frozen 4
    have k5 : vb.cell? ⟨w.heap.size, 5, none⟩ = some (.int .i64 0) := HSF.out.z.cell 5 rfl
    have f5 := HSF.out.z.frozen 5
    have k6 : vb.cell? ⟨w.heap.size, 6, none⟩ = some (.string ⟨#[]⟩) := HSF.out.z.cell 6 rfl
    have f6 := HSF.out.z.frozen 6
    have k7 : vb.cell? ⟨w.heap.size, 7, none⟩ = some (.int .i64 0) := HSF.out.z.cell 7 rfl
    have f7 := HSF.out.z.frozen 7
    have k8 : vb.cell? ⟨w.heap.size, 8, none⟩ = some (.string ⟨#[]⟩) := HSF.out.z.cell 8 rfl
    have f8 := HSF.out.z.frozen 8
    have k9 : vb.cell? ⟨w.heap.size, 9, none⟩ = some (.string ⟨#[]⟩) := HSF.out.z.cell 9 rfl
    have f9 := HSF.out.z.frozen 9
    have HZ9 := HSF.out.z.set10 (.int .i64 (x.1 : Int)) (.int .i64 (r.1 : Int)) (.int .i64 (p.1 : Int)) (.int .i64 (v.1 : Int)) (.int .i64 (q.1 : Int)) (.int .i64 c.1.flavor) (.string ⟨c.1.body.toArray⟩) (.int .i64 f.1.flavor) (.string ⟨f.1.body.toArray⟩) (.string ⟨a.1.toArray⟩)
    have q0 := HZ9.cell 0 rfl
    have q1 := HZ9.cell 1 rfl
    have q2 := HZ9.cell 2 rfl
    have q3 := HZ9.cell 3 rfl
    have q4 := HZ9.cell 4 rfl
    have q5 := HZ9.cell 5 rfl
    have q6 := HZ9.cell 6 rfl
    have q7 := HZ9.cell 7 rfl
    have q8 := HZ9.cell 8 rfl
    have q9 := HZ9.cell 9 rfl
    have HB9 := hid (below_set10 (b := w.heap.size) HSF.out.low (Nat.le_refl _) (.int .i64 (x.1 : Int)) (.int .i64 (r.1 : Int)) (.int .i64 (p.1 : Int)) (.int .i64 (v.1 : Int)) (.int .i64 (q.1 : Int)) (.int .i64 c.1.flavor) (.string ⟨c.1.body.toArray⟩) (.int .i64 f.1.flavor) (.string ⟨f.1.body.toArray⟩) (.string ⟨a.1.toArray⟩))
    clear HZ9
    go_wp2
    refine bodyPost_ret (v := .tuple #[.agg #[.int .i64 (x.1 : Int), .int .i64 (r.1 : Int), .int .i64 (p.1 : Int), .int .i64 (v.1 : Int), .int .i64 (q.1 : Int), .int .i64 c.1.flavor, .string ⟨c.1.body.toArray⟩, .int .i64 f.1.flavor, .string ⟨f.1.body.toArray⟩, .string ⟨a.1.toArray⟩], .int .i64 0]) (by simp [results, Tryz.results30, go_sem, q0, q1, q2, q3, q4, q5, q6, q7, q8, q9]) rfl ⟨by rw [HGC.out], HB9.out⟩
  · rw [if_neg hm] at hD2
    clear hm
    subst hD2
    rcases h3 with h3 | ⟨h3, h4⟩
    · skip
      have e4 : (PE != 0) = true := bne_iff_ne.2 h3
      have k0 : vb.cell? ⟨w.heap.size, 0, none⟩ = some (.int .i64 0) := HSF.out.z.cell 0 rfl
      have f0 := HSF.out.z.frozen 0
      have k1 : vb.cell? ⟨w.heap.size, 1, none⟩ = some (.int .i64 0) := HSF.out.z.cell 1 rfl
      have f1 := HSF.out.z.frozen 1
      have k2 : vb.cell? ⟨w.heap.size, 2, none⟩ = some (.int .i64 0) := HSF.out.z.cell 2 rfl
      have f2 := HSF.out.z.frozen 2
      have k3 : vb.cell? ⟨w.heap.size, 3, none⟩ = some (.int .i64 0) := HSF.out.z.cell 3 rfl
      have f3 := HSF.out.z.frozen 3
      have k4 : vb.cell? ⟨w.heap.size, 4, none⟩ = some (.int .i64 0) := HSF.out.z.cell 4 rfl
      have f4 := HSF.out.z.frozen 4
      have k5 : vb.cell? ⟨w.heap.size, 5, none⟩ = some (.int .i64 0) := HSF.out.z.cell 5 rfl
      have f5 := HSF.out.z.frozen 5
      have k6 : vb.cell? ⟨w.heap.size, 6, none⟩ = some (.string ⟨#[]⟩) := HSF.out.z.cell 6 rfl
      have f6 := HSF.out.z.frozen 6
      have k7 : vb.cell? ⟨w.heap.size, 7, none⟩ = some (.int .i64 0) := HSF.out.z.cell 7 rfl
      have f7 := HSF.out.z.frozen 7
      have k8 : vb.cell? ⟨w.heap.size, 8, none⟩ = some (.string ⟨#[]⟩) := HSF.out.z.cell 8 rfl
      have f8 := HSF.out.z.frozen 8
      have k9 : vb.cell? ⟨w.heap.size, 9, none⟩ = some (.string ⟨#[]⟩) := HSF.out.z.cell 9 rfl
      have f9 := HSF.out.z.frozen 9
      have HZ9 := HSF.out.z.set10 (.int .i64 0) (.int .i64 0) (.int .i64 0) (.int .i64 0) (.int .i64 0) (.int .i64 0) (.string ⟨#[]⟩) (.int .i64 0) (.string ⟨#[]⟩) (.string ⟨#[]⟩)
      have q0 := HZ9.cell 0 rfl
      have q1 := HZ9.cell 1 rfl
      have q2 := HZ9.cell 2 rfl
      have q3 := HZ9.cell 3 rfl
      have q4 := HZ9.cell 4 rfl
      have q5 := HZ9.cell 5 rfl
      have q6 := HZ9.cell 6 rfl
      have q7 := HZ9.cell 7 rfl
      have q8 := HZ9.cell 8 rfl
      have q9 := HZ9.cell 9 rfl
      have HB9 := hid (below_set10 (b := w.heap.size) HSF.out.low (Nat.le_refl _) (.int .i64 0) (.int .i64 0) (.int .i64 0) (.int .i64 0) (.int .i64 0) (.int .i64 0) (.string ⟨#[]⟩) (.int .i64 0) (.string ⟨#[]⟩) (.string ⟨#[]⟩))
      clear HZ9
      go_wp2
      refine bodyPost_ret (v := .tuple #[.agg #[.int .i64 0, .int .i64 0, .int .i64 0, .int .i64 0, .int .i64 0, .int .i64 0, .string ⟨#[]⟩, .int .i64 0, .string ⟨#[]⟩, .string ⟨#[]⟩], .int .i64 121]) (by simp [results, Tryz.results30, go_sem, q0, q1, q2, q3, q4, q5, q6, q7, q8, q9]) rfl ⟨rfl, HB9.out⟩
    · skip
      subst h3
      have e5 : ((⟨PS.toArray⟩ : ByteArray).toList == s) = false := by first | simpa using h4 | simpa using ne_list h4
      generalize (⟨PS.toArray⟩ : ByteArray) = BP at *
      have k0 : vb.cell? ⟨w.heap.size, 0, none⟩ = some (.int .i64 0) := HSF.out.z.cell 0 rfl
      have f0 := HSF.out.z.frozen 0
      have k1 : vb.cell? ⟨w.heap.size, 1, none⟩ = some (.int .i64 0) := HSF.out.z.cell 1 rfl
      have f1 := HSF.out.z.frozen 1
      have k2 : vb.cell? ⟨w.heap.size, 2, none⟩ = some (.int .i64 0) := HSF.out.z.cell 2 rfl
      have f2 := HSF.out.z.frozen 2
      have k3 : vb.cell? ⟨w.heap.size, 3, none⟩ = some (.int .i64 0) := HSF.out.z.cell 3 rfl
      have f3 := HSF.out.z.frozen 3
      have k4 : vb.cell? ⟨w.heap.size, 4, none⟩ = some (.int .i64 0) := HSF.out.z.cell 4 rfl
      have f4 := HSF.out.z.frozen 4
      have k5 : vb.cell? ⟨w.heap.size, 5, none⟩ = some (.int .i64 0) := HSF.out.z.cell 5 rfl
      have f5 := HSF.out.z.frozen 5
      have k6 : vb.cell? ⟨w.heap.size, 6, none⟩ = some (.string ⟨#[]⟩) := HSF.out.z.cell 6 rfl
      have f6 := HSF.out.z.frozen 6
      have k7 : vb.cell? ⟨w.heap.size, 7, none⟩ = some (.int .i64 0) := HSF.out.z.cell 7 rfl
      have f7 := HSF.out.z.frozen 7
      have k8 : vb.cell? ⟨w.heap.size, 8, none⟩ = some (.string ⟨#[]⟩) := HSF.out.z.cell 8 rfl
      have f8 := HSF.out.z.frozen 8
      have k9 : vb.cell? ⟨w.heap.size, 9, none⟩ = some (.string ⟨#[]⟩) := HSF.out.z.cell 9 rfl
      have f9 := HSF.out.z.frozen 9
      have HZ9 := HSF.out.z.set10 (.int .i64 0) (.int .i64 0) (.int .i64 0) (.int .i64 0) (.int .i64 0) (.int .i64 0) (.string ⟨#[]⟩) (.int .i64 0) (.string ⟨#[]⟩) (.string ⟨#[]⟩)
      have q0 := HZ9.cell 0 rfl
      have q1 := HZ9.cell 1 rfl
      have q2 := HZ9.cell 2 rfl
      have q3 := HZ9.cell 3 rfl
      have q4 := HZ9.cell 4 rfl
      have q5 := HZ9.cell 5 rfl
      have q6 := HZ9.cell 6 rfl
      have q7 := HZ9.cell 7 rfl
      have q8 := HZ9.cell 8 rfl
      have q9 := HZ9.cell 9 rfl
      have HB9 := hid (below_set10 (b := w.heap.size) HSF.out.low (Nat.le_refl _) (.int .i64 0) (.int .i64 0) (.int .i64 0) (.int .i64 0) (.int .i64 0) (.int .i64 0) (.string ⟨#[]⟩) (.int .i64 0) (.string ⟨#[]⟩) (.string ⟨#[]⟩))
      clear HZ9
      go_wp2
      refine bodyPost_ret (v := .tuple #[.agg #[.int .i64 0, .int .i64 0, .int .i64 0, .int .i64 0, .int .i64 0, .int .i64 0, .string ⟨#[]⟩, .int .i64 0, .string ⟨#[]⟩, .string ⟨#[]⟩], .int .i64 121]) (by simp [results, Tryz.results30, go_sem, q0, q1, q2, q3, q4, q5, q6, q7, q8, q9]) rfl ⟨rfl, HB9.out⟩
theorem dparseCall_any (s : List UInt8) (w : World) (hl : s.length ≤ 140737488355328) :
    Calls Tryz.prog 30 #[.string ⟨s.toArray⟩] w fun e w' => e = .returned (.tuple #[.agg (callV (parseC s).1).toArray, .int .i64 (parseC s).2]) ∧ Below w.heap.size w w' := by
  rw [← dcP_is]
  obtain ⟨x, hx⟩ : ∃ y, (⟨s, 0⟩ : Rs).go 0 rdWord = y := ⟨_, rfl⟩
  obtain ⟨k, hk⟩ : ∃ y, x.2.go 0 rdWord = y := ⟨_, rfl⟩
  obtain ⟨r, hr⟩ : ∃ y, k.2.go 0 rdWord = y := ⟨_, rfl⟩
  obtain ⟨p, hp⟩ : ∃ y, r.2.go 0 rdWord = y := ⟨_, rfl⟩
  obtain ⟨v, hv⟩ : ∃ y, p.2.go 0 rdWord = y := ⟨_, rfl⟩
  obtain ⟨q, hq⟩ : ∃ y, v.2.go 0 rdWord = y := ⟨_, rfl⟩
  obtain ⟨c, hc⟩ : ∃ y, rdAuth q.2 = y := ⟨_, rfl⟩
  obtain ⟨f, hf⟩ : ∃ y, rdAuth c.2 = y := ⟨_, rfl⟩
  obtain ⟨a, ha⟩ : ∃ y, f.2.go [] rdRest = y := ⟨_, rfl⟩
  have hR : rdCallR ⟨s, 0⟩ = ⟨x, k, r, p, v, q, c, f⟩ := by
    unfold rdCallR
    simp only [hx, hk, hr, hp, hv, hq, hc, hf]
  have hal : a.1.length ≤ 140737488355328 := by
    have h1 : a.1.length ≤ f.2.l.length := by
      rw [← ha]
      unfold Rs.go rdRest
      split
      · simp
      · simp
    have e1 := go_len (⟨s, 0⟩ : Rs) 0 rdWord
    have e2 := go_len x.2 0 rdWord
    have e3 := go_len k.2 0 rdWord
    have e4 := go_len r.2 0 rdWord
    have e5 := go_len p.2 0 rdWord
    have e6 := go_len v.2 0 rdWord
    have e7 : c.2.l.length ≤ q.2.l.length := by rw [← hc]; exact Nat.le_trans (go_len _ _ _) (go_len _ _ _)
    have e8 : f.2.l.length ≤ c.2.l.length := by rw [← hf]; exact Nat.le_trans (go_len _ _ _) (go_len _ _ _)
    rw [hx] at e1; rw [hk] at e2; rw [hr] at e3; rw [hp] at e4; rw [hv] at e5; rw [hq] at e6
    simp only at e1
    omega
  unfold dcP
  rw [hR]
  simp only [ha]
  by_cases h0 : r.2.e = 0
  · by_cases k0 : (k.1 : Int) = 0
    · rw [if_neg (fun o => o.elim (fun z => z h0) (fun z => z k0))]
      by_cases r2 : (r.1 : Int) = 2
      · rw [if_neg (fun z => z r2)]
        exact dpc_4 s w x k r p v q c f a hx hk hr hp hv hq hc hf ha h0 k0 r2 hal _ rfl _ rfl
      · rw [if_pos r2]
        exact dpc_3 s w x k r hx hk hr h0 k0 r2
    · rw [if_pos (.inr k0)]
      exact dpc_2 s w x k r hx hk hr h0 k0
  · rw [if_pos (.inl h0)]
    exact dpc_1 s w x k r hx hk hr h0
end Go.Proofs.YtebjheaohichpaaGreatDoor
