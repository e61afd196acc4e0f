/- The law's own functions: the document's examples. -/
import Derived.Test.YtebjheaohichpaaGreatDoorPa
import Derived.Test.YtebjheaohichpaaGreatDoorPb
import Derived.Deep.CutBlock
import Derived.Deep.DeepCutAuto
namespace Go.Proofs.YtebjheaohichpaaGreatDoor
open Go.RowKit
def exC : CallP := ⟨1, 2, 100000, 2, 3, nulA, nulA, []⟩
def exR : ReplyP := ⟨1, true, nulA, 0, 0, 0, [], 1, 5⟩
def exD : CallP := ⟨9, 3, 0, 0, 0, nulA, nulA, []⟩
def bytesC : List UInt8 := [0, 0, 0, 1, 0, 0, 0, 0, 0, 0, 0, 2, 0, 1, 134, 160, 0, 0, 0, 2, 0, 0, 0, 3, 0, 0, 0, 0, 0, 0, 0, 0, 0, 0, 0, 0, 0, 0, 0, 0]
def bytesR : List UInt8 := [0, 0, 0, 1, 0, 0, 0, 1, 0, 0, 0, 1, 0, 0, 0, 1, 0, 0, 0, 5]
theorem ex_C : pcP exC = (bytesC, 0) := by
  have h : exC.may := by unfold CallP.may AuthP.may plainB isW exC nulA; decide
  unfold pcP prM
  rw [if_pos h]
  rfl
theorem ex_R : prP exR = (bytesR, 0) := by
  have h : exR.may := ⟨by unfold exR isW; decide, rfl, rfl, rfl, .inr ⟨rfl, rfl, rfl, by decide, by decide⟩⟩
  unfold prP prM
  rw [if_pos h]
  rfl
theorem ex_D : parseC [0, 0, 0, 9, 0, 0, 0, 0, 0, 0, 0, 3] = (exD, 0) := by
  have := parseC_other (x := 9) (n := 3) (by decide) (by decide) (by decide) []
  exact this
theorem back_zero (k : Nat) (w : World) : (convert 43 9 (.slice (some ⟨w.heap.size, 0, none⟩) k k)).run Tryz.prog (w.alloc (.cells (Array.replicate k (.int .u8 0)) 5)) = .ok (.string ⟨(List.replicate k (0 : UInt8)).toArray⟩) (w.alloc (.cells (Array.replicate k (.int .u8 0)) 5)) := by
  have h := run_convert_bytes_back (P := Tryz.prog) (w.alloc (.cells (Array.replicate k (.int .u8 0)) 5)) 43 9 5 ⟨w.heap.size, 0, none⟩ k (List.replicate k (0 : UInt8)) Tryz.underlying43 Tryz.underlying5 Tryz.underlying9 (fun t ht => by
    have ht2 : t < k := by rw [List.length_replicate] at ht; exact ht
    have ea : (Addr.add ⟨w.heap.size, 0, none⟩ t) = ⟨w.heap.size, 0 + t, none⟩ := Lib.add_plain _ _ _
    rw [ea, World.cell?_alloc_new, Nat.zero_add]
    simp [ht2])
  rw [List.length_replicate] at h
  exact h
set_option maxRecDepth 4000 in
set_option maxHeartbeats 1000000 in
theorem knownM_any (w : World) (hT : ErrT w) : Calls Tryz.prog 5 #[] w fun e w' => e = .returned (.bool true) ∧ Below w.heap.size w w' := by
  have H1 : Hid (∀ w, ErrT w → Calls Tryz.prog 6 #[.agg #[.int .i64 1, .int .i64 2, .int .i64 100000, .int .i64 2, .int .i64 3, .int .i64 0, .string ⟨#[]⟩, .int .i64 0, .string ⟨#[]⟩, .string ⟨#[]⟩]] w fun e w' => e = .returned (.tuple #[.string ⟨bytesC.toArray⟩, .int .i64 0]) ∧ Below w.heap.size w w') := fun w h => by
    have := printCall_any exC w h (by decide)
    rw [ex_C] at this
    exact this
  have H2 : Hid (∀ w, ErrT w → Calls Tryz.prog 8 #[.agg #[.int .i64 1, .bool true, .int .i64 0, .string ⟨#[]⟩, .int .i64 0, .int .i64 1, .int .i64 5, .int .i64 0, .int .i64 0, .string ⟨#[]⟩]] w fun e w' => e = .returned (.tuple #[.string ⟨bytesR.toArray⟩, .int .i64 0]) ∧ Below w.heap.size w w') := fun w h => by
    have := printReply_any exR w h (by decide)
    rw [ex_R] at this
    exact this
  have H3 : Hid (∀ w, ErrT w → Calls Tryz.prog 15 #[.string ⟨#[0, 0, 0, 9, 0, 0, 0, 0, 0, 0, 0, 3]⟩] w fun e w' => e = .returned (.tuple #[.agg #[.int .i64 9, .int .i64 3, .int .i64 0, .int .i64 0, .int .i64 0, .int .i64 0, .string ⟨#[]⟩, .int .i64 0, .string ⟨#[]⟩, .string ⟨#[]⟩], .int .i64 0]) ∧ Below w.heap.size w w') := fun w h => by
    have := parseCall_any [0, 0, 0, 9, 0, 0, 0, 0, 0, 0, 0, 3] w h (by decide)
    rw [ex_D] at this
    exact this
  have HE := hid hT
  have hel : ∀ w : World, (binOp .eql 25 (.agg #[.int .i64 9, .int .i64 3, .int .i64 0, .int .i64 0, .int .i64 0, .int .i64 0, .string ⟨#[]⟩, .int .i64 0, .string ⟨#[]⟩, .string ⟨#[]⟩]) (.agg #[.int .i64 9, .int .i64 3, .int .i64 0, .int .i64 0, .int .i64 0, .int .i64 0, .string ⟨#[]⟩, .int .i64 0, .string ⟨#[]⟩, .string ⟨#[]⟩])).run Tryz.prog w = .ok (.bool true) w := fun w => eqlC w exD
  have hgu := guardCn
  clear hT
  go_enter Tryz.func5, Tryz.ntmps5
  go_wp2_with fail
  refine (H1.out _ HE.out).mono ?_
  rintro e w1 ⟨rfl, hB1⟩
  have HB1 := hid hB1
  have HE1 := hid (HE.out.below hB1)
  clear hB1 H1
  go_wp2_with fail
  refine (H2.out _ HE1.out).mono ?_
  rintro e w2 ⟨rfl, hB2⟩
  have HB2 : Hid (Below w.heap.size w w2) := HB1.out.trans (hB2.mono HB1.out.size)
  have HE2 := hid (HE.out.below HB2.out)
  clear hB2 H2
  go_wp2_with fail
  refine (H3.out _ HE2.out).mono ?_
  rintro e w3 ⟨rfl, hB3⟩
  have HB3 : Hid (Below w.heap.size w w3) := HB2.out.trans (hB3.mono HB2.out.size)
  clear hB3 H3
  go_upto_region 4 with fail
  obtain ⟨w4, hw4⟩ : ∃ x, w3.alloc (.cells #[.int .i64 9, .int .i64 3, .int .i64 0, .int .i64 0, .int .i64 0, .int .i64 0, .string ⟨#[]⟩, .int .i64 0, .string ⟨#[]⟩, .string ⟨#[]⟩] 25) = x := ⟨_, rfl⟩
  obtain ⟨hk4, hB4, hz4⟩ := boxed w3 w4 _ _ hw4
  obtain ⟨Z, hZ⟩ : ∃ Z, w4.heap.size = Z := ⟨_, rfl⟩
  obtain ⟨w5, hw5⟩ : ∃ x, w4.alloc (.cells (Array.replicate 16 (.int .u8 0)) 5) = x := ⟨_, rfl⟩
  have hB5 : Below w4.heap.size w4 w5 := hw5 ▸ below_new _ _
  have hmk : (Instr.makeSlice 43 (.int .i64 16) (.int .i64 16)).run Tryz.prog w4 = .ok (.slice (some ⟨Z, 0, none⟩) 16 16) w5 := by
    rw [← hZ, ← hw5]
    kernel_rfl
  have hcv : (convert 43 9 (.slice (some ⟨Z, 0, none⟩) 16 16)).run Tryz.prog w5 = .ok (.string ⟨#[0, 0, 0, 0, 0, 0, 0, 0, 0, 0, 0, 0, 0, 0, 0, 0]⟩) w5 := by
    rw [← hZ, ← hw5]
    exact back_zero 16 w4
  have hk5 := hk4.below hB5 (by omega)
  have c0 := hk5.cell 0 rfl
  have c1 := hk5.cell 1 rfl
  have c2 := hk5.cell 2 rfl
  have c3 := hk5.cell 3 rfl
  have c4 := hk5.cell 4 rfl
  have c5 := hk5.cell 5 rfl
  have c6 := hk5.cell 6 rfl
  have c7 := hk5.cell 7 rfl
  have c8 := hk5.cell 8 rfl
  have c9 := hk5.cell 9 rfl
  have HB5 : Hid (Below w.heap.size w w5) := (HB3.out.trans (hB4.mono HB3.out.size)).trans (hB5.mono (by have := HB3.out.size; omega))
  clear hk4 hk5 hB4 hB5 hz4 hw5
  unfold bytesC bytesR
  rw [hw4]
  go_wp2
  all_goals first
    | (go_ret; exact ⟨rfl, HB5.out⟩)
    | (rename_i h; exact absurd (by rw [ByteArray.toList_eq]; rfl) h)
end Go.Proofs.YtebjheaohichpaaGreatDoor
