/- The document reads a call. -/
import Derived.Test.YtebjheaohichpaaGreatDoorGu
namespace Go.Proofs.YtebjheaohichpaaGreatDoor
open Go.RowKit
theorem ne_list {a b : List UInt8} (h : a ≠ b) : ((⟨a.toArray⟩ : ByteArray).toList == (⟨b.toArray⟩ : ByteArray).toList) = false := by
  rw [ba_toList, ba_toList]
  exact beq_eq_false_iff_ne.2 h

set_option maxRecDepth 8000 in
set_option maxHeartbeats 8000000 in
theorem dpc_1 (s : List UInt8) (w : World) (x : Nat × Rs) (k : Nat × Rs) (r : Nat × Rs) (hx : (⟨s, 0⟩ : Rs).go 0 rdWord = x) (hk : x.2.go 0 rdWord = k) (hr : k.2.go 0 rdWord = r) (h0 : r.2.e ≠ 0) :
    Calls Tryz.prog 30 #[.string ⟨s.toArray⟩] w fun e w' => e = .returned (.tuple #[.agg (callV nulC).toArray, .int .i64 121]) ∧ Below w.heap.size w w' := by
  have HNC : Hid (callV nulC = [.int .i64 0, .int .i64 0, .int .i64 0, .int .i64 0, .int .i64 0, .int .i64 0, .string ⟨#[]⟩, .int .i64 0, .string ⟨#[]⟩, .string ⟨#[]⟩]) := rfl
  obtain ⟨wa, hwa⟩ : ∃ y, w.alloc (.cells #[.int .i64 0, .int .i64 0, .int .i64 0, .int .i64 0, .int .i64 0, .int .i64 0, .string ⟨#[]⟩, .int .i64 0, .string ⟨#[]⟩, .string ⟨#[]⟩] 25) = y := ⟨_, rfl⟩
  obtain ⟨wb, hwb⟩ : ∃ y, y = wa.alloc (.cells #[.string ⟨s.toArray⟩, .int .i64 0] 142) := ⟨_, rfl⟩
  obtain ⟨wc, hwc⟩ : ∃ y, wb.alloc (.cells #[.int .i64 0, .int .i64 0, .int .i64 0, .int .i64 0, .int .i64 0, .int .i64 0, .string ⟨#[]⟩, .int .i64 0, .string ⟨#[]⟩, .string ⟨#[]⟩] 25) = y := ⟨_, rfl⟩
  obtain ⟨hS0, hza, hzb⟩ := DT.start [.int .i64 0, .int .i64 0, .int .i64 0, .int .i64 0, .int .i64 0, .int .i64 0, .string ⟨#[]⟩, .int .i64 0, .string ⟨#[]⟩, .string ⟨#[]⟩] s _ w wa wb wc hwa hwb hwc
  have HNR : Hid (Calls Tryz.prog 59 #[.string ⟨s.toArray⟩] wa fun e w' => e = .returned (.pointer (some ⟨w.heap.size + 1, 0, none⟩)) ∧ w' = wb) := by rw [hwb, ← hza]; exact dnew_any s wa
  have HS0 := hid hS0
  have HXx := hid hx
  have HXk := hid hk
  have HXr := hid hr
  have e1 : (r.2.e != 0) = true := bne_iff_ne.2 h0
  have F0 := hid e1
  clear hx hk hr e1 hwb hS0 h0
  go_enter Tryz.func30, Tryz.ntmps30
  go_wp2_with fail
  refine HNR.out.mono ?_
  rintro e w1 ⟨rfl, hw1⟩
  have hw2 := hw1.symm
  clear hw1 HNR
  subst hw2
  have G0 := hid HS0.out.uint
  rw [HXx.out] at G0
  go_wp2_with fail
  clear hwa hwc
  refine G0.out.mono ?_
  rintro e v0 ⟨rfl, h0⟩
  clear G0 HS0
  have k0 := h0.k.cell 0 rfl
  have f0 := h0.k.frozen 0
  obtain ⟨s0, hs0⟩ : ∃ y, (v0.setCell ⟨w.heap.size + 1 + 1, 0, none⟩ (.int .i64 (x.1 : Int))) = y := ⟨_, rfl⟩
  have HS1 : Hid (DT w s0 w.heap.size x.2 [.int .i64 (x.1 : Int), .int .i64 0, .int .i64 0, .int .i64 0, .int .i64 0, .int .i64 0, .string ⟨#[]⟩, .int .i64 0, .string ⟨#[]⟩, .string ⟨#[]⟩] [.int .i64 0, .int .i64 0, .int .i64 0, .int .i64 0, .int .i64 0, .int .i64 0, .string ⟨#[]⟩, .int .i64 0, .string ⟨#[]⟩, .string ⟨#[]⟩] 25) := by rw [← hs0]; exact (h0.set 0 _)
  clear h0
  have G1 := hid HS1.out.uint
  rw [HXk.out] at G1
  go_wp2_with fail
  clear k0 f0 hs0
  refine G1.out.mono ?_
  rintro e v1 ⟨rfl, h1⟩
  clear G1 HS1
  have HS2 : Hid (DT w v1 w.heap.size k.2 [.int .i64 (x.1 : Int), .int .i64 0, .int .i64 0, .int .i64 0, .int .i64 0, .int .i64 0, .string ⟨#[]⟩, .int .i64 0, .string ⟨#[]⟩, .string ⟨#[]⟩] [.int .i64 0, .int .i64 0, .int .i64 0, .int .i64 0, .int .i64 0, .int .i64 0, .string ⟨#[]⟩, .int .i64 0, .string ⟨#[]⟩, .string ⟨#[]⟩] 25) := h1
  clear h1
  have G2 := hid HS2.out.uint
  rw [HXr.out] at G2
  go_wp2_with fail
  refine G2.out.mono ?_
  rintro e v2 ⟨rfl, h2⟩
  clear G2 HS2
  have k1 := h2.k.cell 1 rfl
  have f1 := h2.k.frozen 1
  obtain ⟨s2, hs2⟩ : ∃ y, (v2.setCell ⟨w.heap.size + 1 + 1, 1, none⟩ (.int .i64 (r.1 : Int))) = y := ⟨_, rfl⟩
  have HS3 : Hid (DT w s2 w.heap.size r.2 [.int .i64 (x.1 : Int), .int .i64 (r.1 : Int), .int .i64 0, .int .i64 0, .int .i64 0, .int .i64 0, .string ⟨#[]⟩, .int .i64 0, .string ⟨#[]⟩, .string ⟨#[]⟩] [.int .i64 0, .int .i64 0, .int .i64 0, .int .i64 0, .int .i64 0, .int .i64 0, .string ⟨#[]⟩, .int .i64 0, .string ⟨#[]⟩, .string ⟨#[]⟩] 25) := by rw [← hs2]; exact (h2.set 1 _)
  clear h2
  have HW := hid (dwrong_any _ _ _ _ HS3.out.r)
  go_wp2_with fail
  clear k1 f1 hs2
  refine HW.out.mono ?_
  rintro e w9 ⟨rfl, hw9⟩
  have hw10 := hw9.symm
  clear hw9 HW
  subst hw10
  have e1 := F0.out
  have c1 := HS3.out.k.cell 1 rfl
  clear c1
  have k0 : s2.cell? ⟨w.heap.size, 0, none⟩ = some (.int .i64 0) := HS3.out.z.cell 0 rfl
  have f0 := HS3.out.z.frozen 0
  have k1 : s2.cell? ⟨w.heap.size, 1, none⟩ = some (.int .i64 0) := HS3.out.z.cell 1 rfl
  have f1 := HS3.out.z.frozen 1
  have k2 : s2.cell? ⟨w.heap.size, 2, none⟩ = some (.int .i64 0) := HS3.out.z.cell 2 rfl
  have f2 := HS3.out.z.frozen 2
  have k3 : s2.cell? ⟨w.heap.size, 3, none⟩ = some (.int .i64 0) := HS3.out.z.cell 3 rfl
  have f3 := HS3.out.z.frozen 3
  have k4 : s2.cell? ⟨w.heap.size, 4, none⟩ = some (.int .i64 0) := HS3.out.z.cell 4 rfl
  have f4 := HS3.out.z.frozen 4
  have k5 : s2.cell? ⟨w.heap.size, 5, none⟩ = some (.int .i64 0) := HS3.out.z.cell 5 rfl
  have f5 := HS3.out.z.frozen 5
  have k6 : s2.cell? ⟨w.heap.size, 6, none⟩ = some (.string ⟨#[]⟩) := HS3.out.z.cell 6 rfl
  have f6 := HS3.out.z.frozen 6
  have k7 : s2.cell? ⟨w.heap.size, 7, none⟩ = some (.int .i64 0) := HS3.out.z.cell 7 rfl
  have f7 := HS3.out.z.frozen 7
  have k8 : s2.cell? ⟨w.heap.size, 8, none⟩ = some (.string ⟨#[]⟩) := HS3.out.z.cell 8 rfl
  have f8 := HS3.out.z.frozen 8
  have k9 : s2.cell? ⟨w.heap.size, 9, none⟩ = some (.string ⟨#[]⟩) := HS3.out.z.cell 9 rfl
  have f9 := HS3.out.z.frozen 9
  have HZ9 := HS3.out.z.set10 (.int .i64 0) (.int .i64 0) (.int .i64 0) (.int .i64 0) (.int .i64 0) (.int .i64 0) (.string ⟨#[]⟩) (.int .i64 0) (.string ⟨#[]⟩) (.string ⟨#[]⟩)
  have q0 := HZ9.cell 0 rfl
  have q1 := HZ9.cell 1 rfl
  have q2 := HZ9.cell 2 rfl
  have q3 := HZ9.cell 3 rfl
  have q4 := HZ9.cell 4 rfl
  have q5 := HZ9.cell 5 rfl
  have q6 := HZ9.cell 6 rfl
  have q7 := HZ9.cell 7 rfl
  have q8 := HZ9.cell 8 rfl
  have q9 := HZ9.cell 9 rfl
  have HB9 := hid (below_set10 (b := w.heap.size) HS3.out.low (Nat.le_refl _) (.int .i64 0) (.int .i64 0) (.int .i64 0) (.int .i64 0) (.int .i64 0) (.int .i64 0) (.string ⟨#[]⟩) (.int .i64 0) (.string ⟨#[]⟩) (.string ⟨#[]⟩))
  clear HZ9
  go_wp2
  refine bodyPost_ret (v := .tuple #[.agg #[.int .i64 0, .int .i64 0, .int .i64 0, .int .i64 0, .int .i64 0, .int .i64 0, .string ⟨#[]⟩, .int .i64 0, .string ⟨#[]⟩, .string ⟨#[]⟩], .int .i64 121]) (by simp [results, Tryz.results30, go_sem, q0, q1, q2, q3, q4, q5, q6, q7, q8, q9]) rfl ⟨rfl, HB9.out⟩

set_option maxRecDepth 8000 in
set_option maxHeartbeats 8000000 in
theorem dpc_2 (s : List UInt8) (w : World) (x : Nat × Rs) (k : Nat × Rs) (r : Nat × Rs) (hx : (⟨s, 0⟩ : Rs).go 0 rdWord = x) (hk : x.2.go 0 rdWord = k) (hr : k.2.go 0 rdWord = r) (h0 : r.2.e = 0) (k0 : (k.1 : Int) ≠ 0) :
    Calls Tryz.prog 30 #[.string ⟨s.toArray⟩] w fun e w' => e = .returned (.tuple #[.agg (callV nulC).toArray, .int .i64 121]) ∧ Below w.heap.size w w' := by
  have HNC : Hid (callV nulC = [.int .i64 0, .int .i64 0, .int .i64 0, .int .i64 0, .int .i64 0, .int .i64 0, .string ⟨#[]⟩, .int .i64 0, .string ⟨#[]⟩, .string ⟨#[]⟩]) := rfl
  obtain ⟨wa, hwa⟩ : ∃ y, w.alloc (.cells #[.int .i64 0, .int .i64 0, .int .i64 0, .int .i64 0, .int .i64 0, .int .i64 0, .string ⟨#[]⟩, .int .i64 0, .string ⟨#[]⟩, .string ⟨#[]⟩] 25) = y := ⟨_, rfl⟩
  obtain ⟨wb, hwb⟩ : ∃ y, y = wa.alloc (.cells #[.string ⟨s.toArray⟩, .int .i64 0] 142) := ⟨_, rfl⟩
  obtain ⟨wc, hwc⟩ : ∃ y, wb.alloc (.cells #[.int .i64 0, .int .i64 0, .int .i64 0, .int .i64 0, .int .i64 0, .int .i64 0, .string ⟨#[]⟩, .int .i64 0, .string ⟨#[]⟩, .string ⟨#[]⟩] 25) = y := ⟨_, rfl⟩
  obtain ⟨hS0, hza, hzb⟩ := DT.start [.int .i64 0, .int .i64 0, .int .i64 0, .int .i64 0, .int .i64 0, .int .i64 0, .string ⟨#[]⟩, .int .i64 0, .string ⟨#[]⟩, .string ⟨#[]⟩] s _ w wa wb wc hwa hwb hwc
  have HNR : Hid (Calls Tryz.prog 59 #[.string ⟨s.toArray⟩] wa fun e w' => e = .returned (.pointer (some ⟨w.heap.size + 1, 0, none⟩)) ∧ w' = wb) := by rw [hwb, ← hza]; exact dnew_any s wa
  have HS0 := hid hS0
  have HXx := hid hx
  have HXk := hid hk
  have HXr := hid hr
  have e1 : (r.2.e != 0) = false := bne_eq_false_iff_eq.2 h0
  have e2 : ((k.1 : Int) != 0) = true := bne_iff_ne.2 k0
  have F0 := hid e1
  have F1 := hid e2
  clear hx hk hr e1 e2 hwb hS0 h0 k0
  go_enter Tryz.func30, Tryz.ntmps30
  go_wp2_with fail
  refine HNR.out.mono ?_
  rintro e w1 ⟨rfl, hw1⟩
  have hw2 := hw1.symm
  clear hw1 HNR
  subst hw2
  have G0 := hid HS0.out.uint
  rw [HXx.out] at G0
  go_wp2_with fail
  clear hwa hwc
  refine G0.out.mono ?_
  rintro e v0 ⟨rfl, h0⟩
  clear G0 HS0
  have k0 := h0.k.cell 0 rfl
  have f0 := h0.k.frozen 0
  obtain ⟨s0, hs0⟩ : ∃ y, (v0.setCell ⟨w.heap.size + 1 + 1, 0, none⟩ (.int .i64 (x.1 : Int))) = y := ⟨_, rfl⟩
  have HS1 : Hid (DT w s0 w.heap.size x.2 [.int .i64 (x.1 : Int), .int .i64 0, .int .i64 0, .int .i64 0, .int .i64 0, .int .i64 0, .string ⟨#[]⟩, .int .i64 0, .string ⟨#[]⟩, .string ⟨#[]⟩] [.int .i64 0, .int .i64 0, .int .i64 0, .int .i64 0, .int .i64 0, .int .i64 0, .string ⟨#[]⟩, .int .i64 0, .string ⟨#[]⟩, .string ⟨#[]⟩] 25) := by rw [← hs0]; exact (h0.set 0 _)
  clear h0
  have G1 := hid HS1.out.uint
  rw [HXk.out] at G1
  go_wp2_with fail
  clear k0 f0 hs0
  refine G1.out.mono ?_
  rintro e v1 ⟨rfl, h1⟩
  clear G1 HS1
  have HS2 : Hid (DT w v1 w.heap.size k.2 [.int .i64 (x.1 : Int), .int .i64 0, .int .i64 0, .int .i64 0, .int .i64 0, .int .i64 0, .string ⟨#[]⟩, .int .i64 0, .string ⟨#[]⟩, .string ⟨#[]⟩] [.int .i64 0, .int .i64 0, .int .i64 0, .int .i64 0, .int .i64 0, .int .i64 0, .string ⟨#[]⟩, .int .i64 0, .string ⟨#[]⟩, .string ⟨#[]⟩] 25) := h1
  clear h1
  have G2 := hid HS2.out.uint
  rw [HXr.out] at G2
  go_wp2_with fail
  refine G2.out.mono ?_
  rintro e v2 ⟨rfl, h2⟩
  clear G2 HS2
  have k1 := h2.k.cell 1 rfl
  have f1 := h2.k.frozen 1
  obtain ⟨s2, hs2⟩ : ∃ y, (v2.setCell ⟨w.heap.size + 1 + 1, 1, none⟩ (.int .i64 (r.1 : Int))) = y := ⟨_, rfl⟩
  have HS3 : Hid (DT w s2 w.heap.size r.2 [.int .i64 (x.1 : Int), .int .i64 (r.1 : Int), .int .i64 0, .int .i64 0, .int .i64 0, .int .i64 0, .string ⟨#[]⟩, .int .i64 0, .string ⟨#[]⟩, .string ⟨#[]⟩] [.int .i64 0, .int .i64 0, .int .i64 0, .int .i64 0, .int .i64 0, .int .i64 0, .string ⟨#[]⟩, .int .i64 0, .string ⟨#[]⟩, .string ⟨#[]⟩] 25) := by rw [← hs2]; exact (h2.set 1 _)
  clear h2
  have HW := hid (dwrong_any _ _ _ _ HS3.out.r)
  go_wp2_with fail
  clear k1 f1 hs2
  refine HW.out.mono ?_
  rintro e w9 ⟨rfl, hw9⟩
  have hw10 := hw9.symm
  clear hw9 HW
  subst hw10
  have e1 := F0.out
  have e2 := F1.out
  have c1 := HS3.out.k.cell 1 rfl
  clear c1
  have k0 : s2.cell? ⟨w.heap.size, 0, none⟩ = some (.int .i64 0) := HS3.out.z.cell 0 rfl
  have f0 := HS3.out.z.frozen 0
  have k1 : s2.cell? ⟨w.heap.size, 1, none⟩ = some (.int .i64 0) := HS3.out.z.cell 1 rfl
  have f1 := HS3.out.z.frozen 1
  have k2 : s2.cell? ⟨w.heap.size, 2, none⟩ = some (.int .i64 0) := HS3.out.z.cell 2 rfl
  have f2 := HS3.out.z.frozen 2
  have k3 : s2.cell? ⟨w.heap.size, 3, none⟩ = some (.int .i64 0) := HS3.out.z.cell 3 rfl
  have f3 := HS3.out.z.frozen 3
  have k4 : s2.cell? ⟨w.heap.size, 4, none⟩ = some (.int .i64 0) := HS3.out.z.cell 4 rfl
  have f4 := HS3.out.z.frozen 4
  have k5 : s2.cell? ⟨w.heap.size, 5, none⟩ = some (.int .i64 0) := HS3.out.z.cell 5 rfl
  have f5 := HS3.out.z.frozen 5
  have k6 : s2.cell? ⟨w.heap.size, 6, none⟩ = some (.string ⟨#[]⟩) := HS3.out.z.cell 6 rfl
  have f6 := HS3.out.z.frozen 6
  have k7 : s2.cell? ⟨w.heap.size, 7, none⟩ = some (.int .i64 0) := HS3.out.z.cell 7 rfl
  have f7 := HS3.out.z.frozen 7
  have k8 : s2.cell? ⟨w.heap.size, 8, none⟩ = some (.string ⟨#[]⟩) := HS3.out.z.cell 8 rfl
  have f8 := HS3.out.z.frozen 8
  have k9 : s2.cell? ⟨w.heap.size, 9, none⟩ = some (.string ⟨#[]⟩) := HS3.out.z.cell 9 rfl
  have f9 := HS3.out.z.frozen 9
  have HZ9 := HS3.out.z.set10 (.int .i64 0) (.int .i64 0) (.int .i64 0) (.int .i64 0) (.int .i64 0) (.int .i64 0) (.string ⟨#[]⟩) (.int .i64 0) (.string ⟨#[]⟩) (.string ⟨#[]⟩)
  have q0 := HZ9.cell 0 rfl
  have q1 := HZ9.cell 1 rfl
  have q2 := HZ9.cell 2 rfl
  have q3 := HZ9.cell 3 rfl
  have q4 := HZ9.cell 4 rfl
  have q5 := HZ9.cell 5 rfl
  have q6 := HZ9.cell 6 rfl
  have q7 := HZ9.cell 7 rfl
  have q8 := HZ9.cell 8 rfl
  have q9 := HZ9.cell 9 rfl
  have HB9 := hid (below_set10 (b := w.heap.size) HS3.out.low (Nat.le_refl _) (.int .i64 0) (.int .i64 0) (.int .i64 0) (.int .i64 0) (.int .i64 0) (.int .i64 0) (.string ⟨#[]⟩) (.int .i64 0) (.string ⟨#[]⟩) (.string ⟨#[]⟩))
  clear HZ9
  go_wp2
  refine bodyPost_ret (v := .tuple #[.agg #[.int .i64 0, .int .i64 0, .int .i64 0, .int .i64 0, .int .i64 0, .int .i64 0, .string ⟨#[]⟩, .int .i64 0, .string ⟨#[]⟩, .string ⟨#[]⟩], .int .i64 121]) (by simp [results, Tryz.results30, go_sem, q0, q1, q2, q3, q4, q5, q6, q7, q8, q9]) rfl ⟨rfl, HB9.out⟩

set_option maxRecDepth 8000 in
set_option maxHeartbeats 8000000 in
theorem dpc_3 (s : List UInt8) (w : World) (x : Nat × Rs) (k : Nat × Rs) (r : Nat × Rs) (hx : (⟨s, 0⟩ : Rs).go 0 rdWord = x) (hk : x.2.go 0 rdWord = k) (hr : k.2.go 0 rdWord = r) (h0 : r.2.e = 0) (k0 : (k.1 : Int) = 0) (r2 : (r.1 : Int) ≠ 2) :
    Calls Tryz.prog 30 #[.string ⟨s.toArray⟩] w fun e w' => e = .returned (.tuple #[.agg (callV ⟨x.1, r.1, 0, 0, 0, nulA, nulA, []⟩).toArray, .int .i64 0]) ∧ Below w.heap.size w w' := by
  have HNC : Hid (callV nulC = [.int .i64 0, .int .i64 0, .int .i64 0, .int .i64 0, .int .i64 0, .int .i64 0, .string ⟨#[]⟩, .int .i64 0, .string ⟨#[]⟩, .string ⟨#[]⟩]) := rfl
  obtain ⟨wa, hwa⟩ : ∃ y, w.alloc (.cells #[.int .i64 0, .int .i64 0, .int .i64 0, .int .i64 0, .int .i64 0, .int .i64 0, .string ⟨#[]⟩, .int .i64 0, .string ⟨#[]⟩, .string ⟨#[]⟩] 25) = y := ⟨_, rfl⟩
  obtain ⟨wb, hwb⟩ : ∃ y, y = wa.alloc (.cells #[.string ⟨s.toArray⟩, .int .i64 0] 142) := ⟨_, rfl⟩
  obtain ⟨wc, hwc⟩ : ∃ y, wb.alloc (.cells #[.int .i64 0, .int .i64 0, .int .i64 0, .int .i64 0, .int .i64 0, .int .i64 0, .string ⟨#[]⟩, .int .i64 0, .string ⟨#[]⟩, .string ⟨#[]⟩] 25) = y := ⟨_, rfl⟩
  obtain ⟨hS0, hza, hzb⟩ := DT.start [.int .i64 0, .int .i64 0, .int .i64 0, .int .i64 0, .int .i64 0, .int .i64 0, .string ⟨#[]⟩, .int .i64 0, .string ⟨#[]⟩, .string ⟨#[]⟩] s _ w wa wb wc hwa hwb hwc
  have HNR : Hid (Calls Tryz.prog 59 #[.string ⟨s.toArray⟩] wa fun e w' => e = .returned (.pointer (some ⟨w.heap.size + 1, 0, none⟩)) ∧ w' = wb) := by rw [hwb, ← hza]; exact dnew_any s wa
  have HS0 := hid hS0
  have HXx := hid hx
  have HXk := hid hk
  have HXr := hid hr
  have e1 : (r.2.e != 0) = false := bne_eq_false_iff_eq.2 h0
  have e2 : ((k.1 : Int) != 0) = false := bne_eq_false_iff_eq.2 k0
  have e3 : ((r.1 : Int) != 2) = true := bne_iff_ne.2 r2
  have F0 := hid e1
  have F1 := hid e2
  have F2 := hid e3
  clear hx hk hr e1 e2 e3 hwb hS0 h0 k0 r2
  go_enter Tryz.func30, Tryz.ntmps30
  go_wp2_with fail
  refine HNR.out.mono ?_
  rintro e w1 ⟨rfl, hw1⟩
  have hw2 := hw1.symm
  clear hw1 HNR
  subst hw2
  have G0 := hid HS0.out.uint
  rw [HXx.out] at G0
  go_wp2_with fail
  clear hwa hwc
  refine G0.out.mono ?_
  rintro e v0 ⟨rfl, h0⟩
  clear G0 HS0
  have k0 := h0.k.cell 0 rfl
  have f0 := h0.k.frozen 0
  obtain ⟨s0, hs0⟩ : ∃ y, (v0.setCell ⟨w.heap.size + 1 + 1, 0, none⟩ (.int .i64 (x.1 : Int))) = y := ⟨_, rfl⟩
  have HS1 : Hid (DT w s0 w.heap.size x.2 [.int .i64 (x.1 : Int), .int .i64 0, .int .i64 0, .int .i64 0, .int .i64 0, .int .i64 0, .string ⟨#[]⟩, .int .i64 0, .string ⟨#[]⟩, .string ⟨#[]⟩] [.int .i64 0, .int .i64 0, .int .i64 0, .int .i64 0, .int .i64 0, .int .i64 0, .string ⟨#[]⟩, .int .i64 0, .string ⟨#[]⟩, .string ⟨#[]⟩] 25) := by rw [← hs0]; exact (h0.set 0 _)
  clear h0
  have G1 := hid HS1.out.uint
  rw [HXk.out] at G1
  go_wp2_with fail
  clear k0 f0 hs0
  refine G1.out.mono ?_
  rintro e v1 ⟨rfl, h1⟩
  clear G1 HS1
  have HS2 : Hid (DT w v1 w.heap.size k.2 [.int .i64 (x.1 : Int), .int .i64 0, .int .i64 0, .int .i64 0, .int .i64 0, .int .i64 0, .string ⟨#[]⟩, .int .i64 0, .string ⟨#[]⟩, .string ⟨#[]⟩] [.int .i64 0, .int .i64 0, .int .i64 0, .int .i64 0, .int .i64 0, .int .i64 0, .string ⟨#[]⟩, .int .i64 0, .string ⟨#[]⟩, .string ⟨#[]⟩] 25) := h1
  clear h1
  have G2 := hid HS2.out.uint
  rw [HXr.out] at G2
  go_wp2_with fail
  refine G2.out.mono ?_
  rintro e v2 ⟨rfl, h2⟩
  clear G2 HS2
  have k1 := h2.k.cell 1 rfl
  have f1 := h2.k.frozen 1
  obtain ⟨s2, hs2⟩ : ∃ y, (v2.setCell ⟨w.heap.size + 1 + 1, 1, none⟩ (.int .i64 (r.1 : Int))) = y := ⟨_, rfl⟩
  have HS3 : Hid (DT w s2 w.heap.size r.2 [.int .i64 (x.1 : Int), .int .i64 (r.1 : Int), .int .i64 0, .int .i64 0, .int .i64 0, .int .i64 0, .string ⟨#[]⟩, .int .i64 0, .string ⟨#[]⟩, .string ⟨#[]⟩] [.int .i64 0, .int .i64 0, .int .i64 0, .int .i64 0, .int .i64 0, .int .i64 0, .string ⟨#[]⟩, .int .i64 0, .string ⟨#[]⟩, .string ⟨#[]⟩] 25) := by rw [← hs2]; exact (h2.set 1 _)
  clear h2
  have HW := hid (dwrong_any _ _ _ _ HS3.out.r)
  go_wp2_with fail
  clear k1 f1 hs2
  refine HW.out.mono ?_
  rintro e w9 ⟨rfl, hw9⟩
  have hw10 := hw9.symm
  clear hw9 HW
  subst hw10
  have e1 := F0.out
  have e2 := F1.out
  have e3 := F2.out
  have c1 := HS3.out.k.cell 1 rfl
  clear c1
  have c0 : s2.cell? ⟨w.heap.size + 1 + 1, 0, none⟩ = some (.int .i64 (x.1 : Int)) := HS3.out.k.cell 0 rfl
  have c1 : s2.cell? ⟨w.heap.size + 1 + 1, 1, none⟩ = some (.int .i64 (r.1 : Int)) := HS3.out.k.cell 1 rfl
  have c2 : s2.cell? ⟨w.heap.size + 1 + 1, 2, none⟩ = some (.int .i64 0) := HS3.out.k.cell 2 rfl
  have c3 : s2.cell? ⟨w.heap.size + 1 + 1, 3, none⟩ = some (.int .i64 0) := HS3.out.k.cell 3 rfl
  have c4 : s2.cell? ⟨w.heap.size + 1 + 1, 4, none⟩ = some (.int .i64 0) := HS3.out.k.cell 4 rfl
  have c5 : s2.cell? ⟨w.heap.size + 1 + 1, 5, none⟩ = some (.int .i64 0) := HS3.out.k.cell 5 rfl
  have c6 : s2.cell? ⟨w.heap.size + 1 + 1, 6, none⟩ = some (.string ⟨#[]⟩) := HS3.out.k.cell 6 rfl
  have c7 : s2.cell? ⟨w.heap.size + 1 + 1, 7, none⟩ = some (.int .i64 0) := HS3.out.k.cell 7 rfl
  have c8 : s2.cell? ⟨w.heap.size + 1 + 1, 8, none⟩ = some (.string ⟨#[]⟩) := HS3.out.k.cell 8 rfl
  have c9 : s2.cell? ⟨w.heap.size + 1 + 1, 9, none⟩ = some (.string ⟨#[]⟩) := HS3.out.k.cell 9 rfl
  have k0 : s2.cell? ⟨w.heap.size, 0, none⟩ = some (.int .i64 0) := HS3.out.z.cell 0 rfl
  have f0 := HS3.out.z.frozen 0
  have k1 : s2.cell? ⟨w.heap.size, 1, none⟩ = some (.int .i64 0) := HS3.out.z.cell 1 rfl
  have f1 := HS3.out.z.frozen 1
  have k2 : s2.cell? ⟨w.heap.size, 2, none⟩ = some (.int .i64 0) := HS3.out.z.cell 2 rfl
  have f2 := HS3.out.z.frozen 2
  have k3 : s2.cell? ⟨w.heap.size, 3, none⟩ = some (.int .i64 0) := HS3.out.z.cell 3 rfl
  have f3 := HS3.out.z.frozen 3
  have k4 : s2.cell? ⟨w.heap.size, 4, none⟩ = some (.int .i64 0) := HS3.out.z.cell 4 rfl
  have f4 := HS3.out.z.frozen 4
  have k5 : s2.cell? ⟨w.heap.size, 5, none⟩ = some (.int .i64 0) := HS3.out.z.cell 5 rfl
  have f5 := HS3.out.z.frozen 5
  have k6 : s2.cell? ⟨w.heap.size, 6, none⟩ = some (.string ⟨#[]⟩) := HS3.out.z.cell 6 rfl
  have f6 := HS3.out.z.frozen 6
  have k7 : s2.cell? ⟨w.heap.size, 7, none⟩ = some (.int .i64 0) := HS3.out.z.cell 7 rfl
  have f7 := HS3.out.z.frozen 7
  have k8 : s2.cell? ⟨w.heap.size, 8, none⟩ = some (.string ⟨#[]⟩) := HS3.out.z.cell 8 rfl
  have f8 := HS3.out.z.frozen 8
  have k9 : s2.cell? ⟨w.heap.size, 9, none⟩ = some (.string ⟨#[]⟩) := HS3.out.z.cell 9 rfl
  have f9 := HS3.out.z.frozen 9
  have HZ9 := HS3.out.z.set10 (.int .i64 (x.1 : Int)) (.int .i64 (r.1 : Int)) (.int .i64 0) (.int .i64 0) (.int .i64 0) (.int .i64 0) (.string ⟨#[]⟩) (.int .i64 0) (.string ⟨#[]⟩) (.string ⟨#[]⟩)
  have q0 := HZ9.cell 0 rfl
  have q1 := HZ9.cell 1 rfl
  have q2 := HZ9.cell 2 rfl
  have q3 := HZ9.cell 3 rfl
  have q4 := HZ9.cell 4 rfl
  have q5 := HZ9.cell 5 rfl
  have q6 := HZ9.cell 6 rfl
  have q7 := HZ9.cell 7 rfl
  have q8 := HZ9.cell 8 rfl
  have q9 := HZ9.cell 9 rfl
  have HB9 := hid (below_set10 (b := w.heap.size) HS3.out.low (Nat.le_refl _) (.int .i64 (x.1 : Int)) (.int .i64 (r.1 : Int)) (.int .i64 0) (.int .i64 0) (.int .i64 0) (.int .i64 0) (.string ⟨#[]⟩) (.int .i64 0) (.string ⟨#[]⟩) (.string ⟨#[]⟩))
  clear HZ9
  go_wp2
  refine bodyPost_ret (v := .tuple #[.agg #[.int .i64 (x.1 : Int), .int .i64 (r.1 : Int), .int .i64 0, .int .i64 0, .int .i64 0, .int .i64 0, .string ⟨#[]⟩, .int .i64 0, .string ⟨#[]⟩, .string ⟨#[]⟩], .int .i64 0]) (by simp [results, Tryz.results30, go_sem, q0, q1, q2, q3, q4, q5, q6, q7, q8, q9]) rfl ⟨rfl, HB9.out⟩
end Go.Proofs.YtebjheaohichpaaGreatDoor
