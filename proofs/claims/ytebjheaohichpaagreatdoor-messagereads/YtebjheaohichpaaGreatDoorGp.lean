/- The document prints a reply. The document prints a reply. The document prints a reply. The document prints a reply: whatever it is. -/
import Derived.Test.YtebjheaohichpaaGreatDoorQf
import Derived.Test.YtebjheaohichpaaGreatDoorQx
namespace Go.Proofs.YtebjheaohichpaaGreatDoor
open Go.RowKit
set_option maxRecDepth 8000 in
set_option maxHeartbeats 4000000 in
theorem dpr_d0 (rx rl rh : Int) (w : World) (hm : ReplyP.may ⟨rx, true, nulA, 0, rl, rh, [], 0, 0⟩) (wx : isW rx) (wl : isW rl) (wh : isW rh) :
    Calls Tryz.prog 9 #[.agg #[.int .i64 rx, .bool true, .int .i64 0, .string ⟨#[]⟩, .int .i64 0, .int .i64 0, .int .i64 0, .int .i64 rl, .int .i64 rh, .string ⟨#[]⟩]] w fun e w' => e = .returned (.tuple #[.string ⟨(ReplyP.lay ⟨rx, true, nulA, 0, rl, rh, [], 0, 0⟩).toArray⟩, .int .i64 0]) ∧ Below w.heap.size w w' := by
  have H1 : Hid (∀ w, Calls Tryz.prog 29 #[.agg #[.int .i64 rx, .bool true, .int .i64 0, .string ⟨#[]⟩, .int .i64 0, .int .i64 0, .int .i64 0, .int .i64 rl, .int .i64 rh, .string ⟨#[]⟩]] w fun e w' => e = .returned (.bool true) ∧ Below w.heap.size w w') := fun w => by
    have := dreplyMay_any ⟨rx, true, nulA, 0, rl, rh, [], 0, 0⟩ w (reply_len hm)
    rw [decide_eq_true hm] at this
    exact this
  obtain ⟨wa, hwa⟩ : ∃ x, w.alloc (.cells #[.int .i64 rx, .bool true, .int .i64 0, .string ⟨#[]⟩, .int .i64 0, .int .i64 0, .int .i64 0, .int .i64 rl, .int .i64 rh, .string ⟨#[]⟩] 27) = x := ⟨_, rfl⟩
  obtain ⟨hk, hB, hz⟩ := boxed w wa _ _ hwa
  have HB := hid hB
  have HK : Hid (Bk wa w.heap.size [.int .i64 rx, .bool true, .int .i64 0, .string ⟨#[]⟩, .int .i64 0, .int .i64 0, .int .i64 0, .int .i64 rl, .int .i64 rh, .string ⟨#[]⟩] 27) := hk
  have a0 := hk.cell 0 rfl
  have a1 := hk.cell 1 rfl
  have a2 := hk.cell 2 rfl
  have a3 := hk.cell 3 rfl
  have a4 := hk.cell 4 rfl
  have a5 := hk.cell 5 rfl
  have a6 := hk.cell 6 rfl
  have a7 := hk.cell 7 rfl
  have a8 := hk.cell 8 rfl
  have a9 := hk.cell 9 rfl
  clear hk hB hz hm
  have HS0 : Hid (∀ p w, RL w p 4096 [] → Calls Tryz.prog 23 #[.pointer (some ⟨p, 0, none⟩), .int .i64 rx] w (LPost p 4096 ([] ++ nbL 4 (rx : Int).toNat) w)) := fun p w h => l_uint p rx 4096 _ w h (wx) (by decide) (by decide)
  have HS1 : Hid (∀ p w, RL w p 4096 ([] ++ nbL 4 (rx : Int).toNat) → Calls Tryz.prog 23 #[.pointer (some ⟨p, 0, none⟩), .int .i64 1] w (LPost p 4096 (([] ++ nbL 4 (rx : Int).toNat) ++ nbL 4 (1 : Int).toNat) w)) := fun p w h => l_uint p 1 4096 _ w h (by decide) (by decide) (by simp only [List.length_append, nbL_len, List.length_nil]; omega)
  have HS2 : Hid (∀ p w, RL w p 4096 (([] ++ nbL 4 (rx : Int).toNat) ++ nbL 4 (1 : Int).toNat) → Calls Tryz.prog 23 #[.pointer (some ⟨p, 0, none⟩), .int .i64 1] w (LPost p 4096 ((([] ++ nbL 4 (rx : Int).toNat) ++ nbL 4 (1 : Int).toNat) ++ nbL 4 (1 : Int).toNat) w)) := fun p w h => l_uint p 1 4096 _ w h (by decide) (by decide) (by simp only [List.length_append, nbL_len, List.length_nil]; omega)
  have HS3 : Hid (∀ p w, RL w p 4096 ((([] ++ nbL 4 (rx : Int).toNat) ++ nbL 4 (1 : Int).toNat) ++ nbL 4 (1 : Int).toNat) → Calls Tryz.prog 23 #[.pointer (some ⟨p, 0, none⟩), .int .i64 0] w (LPost p 4096 (((([] ++ nbL 4 (rx : Int).toNat) ++ nbL 4 (1 : Int).toNat) ++ nbL 4 (1 : Int).toNat) ++ nbL 4 (0 : Int).toNat) w)) := fun p w h => l_uint p 0 4096 _ w h (by decide) (by decide) (by simp only [List.length_append, nbL_len, List.length_nil]; omega)
  have HS4 : Hid (∀ p w, RL w p 4096 (((([] ++ nbL 4 (rx : Int).toNat) ++ nbL 4 (1 : Int).toNat) ++ nbL 4 (1 : Int).toNat) ++ nbL 4 (0 : Int).toNat) → Calls Tryz.prog 23 #[.pointer (some ⟨p, 0, none⟩), .int .i64 rl] w (LPost p 4096 ((((([] ++ nbL 4 (rx : Int).toNat) ++ nbL 4 (1 : Int).toNat) ++ nbL 4 (1 : Int).toNat) ++ nbL 4 (0 : Int).toNat) ++ nbL 4 (rl : Int).toNat) w)) := fun p w h => l_uint p rl 4096 _ w h (wl) (by decide) (by simp only [List.length_append, nbL_len, List.length_nil]; omega)
  have HS5 : Hid (∀ p w, RL w p 4096 ((((([] ++ nbL 4 (rx : Int).toNat) ++ nbL 4 (1 : Int).toNat) ++ nbL 4 (1 : Int).toNat) ++ nbL 4 (0 : Int).toNat) ++ nbL 4 (rl : Int).toNat) → Calls Tryz.prog 23 #[.pointer (some ⟨p, 0, none⟩), .int .i64 rh] w (LPost p 4096 (((((([] ++ nbL 4 (rx : Int).toNat) ++ nbL 4 (1 : Int).toNat) ++ nbL 4 (1 : Int).toNat) ++ nbL 4 (0 : Int).toNat) ++ nbL 4 (rl : Int).toNat) ++ nbL 4 (rh : Int).toNat) w)) := fun p w h => l_uint p rh 4096 _ w h (wh) (by decide) (by simp only [List.length_append, nbL_len, List.length_nil]; omega)
  have HY : Hid ((⟨((((((([] ++ nbL 4 (rx : Int).toNat) ++ nbL 4 (1 : Int).toNat) ++ nbL 4 (1 : Int).toNat) ++ nbL 4 (0 : Int).toNat) ++ nbL 4 (rl : Int).toNat) ++ nbL 4 (rh : Int).toNat) : List UInt8).toArray⟩ : ByteArray) = ⟨(ReplyP.lay ⟨rx, true, nulA, 0, rl, rh, [], 0, 0⟩).toArray⟩) := by
    show _ = _
    unfold ReplyP.lay
    simp [List.append_assoc]
  generalize hLAY : (⟨(ReplyP.lay ⟨rx, true, nulA, 0, rl, rh, [], 0, 0⟩).toArray⟩ : ByteArray) = LAY at *
  clear hLAY
  go_enter Tryz.func9, Tryz.ntmps9
  go_wp2_with fail
  refine (H1.out _).mono ?_
  rintro e w1 ⟨rfl, hB1⟩
  have HB1 : Hid (Below w.heap.size w w1) := HB.out.trans (hB1.mono HB.out.size)
  have HK1 := hid (HK.out.below hB1 HK.out.lt)
  have HN := hid (l_new w1)
  clear hB1 H1 HK a0 a1 a2 a3 a4 a5 a6 a7 a8 a9
  go_wp2_with fail
  refine HN.out.mono ?_
  rintro e w2 ⟨rfl, hR2, hB2, hz2⟩
  have HB2 : Hid (Below w.heap.size w w2) := HB1.out.trans (hB2.mono HB1.out.size)
  have HKs0 := hid (HK1.out.below hB2 HK1.out.lt)
  have HNE : Hid (w.heap.size < w1.heap.size) := HK1.out.lt
  have HRs := hid hR2
  have HOs0 : Hid (Only w1.heap.size w2 w2) := Only.refl _ _
  clear hR2 hB2 hz2 HN
  have HX0 := hid (HS0.out _ w2 HRs.out)
  have b0 := HKs0.out.cell 0 rfl
  have b1 := HKs0.out.cell 1 rfl
  have b2 := HKs0.out.cell 2 rfl
  have b3 := HKs0.out.cell 3 rfl
  have b4 := HKs0.out.cell 4 rfl
  have b5 := HKs0.out.cell 5 rfl
  have b6 := HKs0.out.cell 6 rfl
  have b7 := HKs0.out.cell 7 rfl
  have b8 := HKs0.out.cell 8 rfl
  have b9 := HKs0.out.cell 9 rfl
  clear HRs
  go_wp2_with fail
  refine HX0.out.mono ?_
  rintro e v1 ⟨rfl, hR, hO⟩
  have HRs := hid hR
  have HKs1 := hid (HKs0.out.only hO (by have := HNE.out; omega))
  have HOs1 := hid (HOs0.out.trans hO)
  clear hR hO HX0 HKs0 HOs0 b0 b1 b2 b3 b4 b5 b6 b7 b8 b9
  have HX1 := hid (HS1.out _ v1 HRs.out)
  have b0 := HKs1.out.cell 0 rfl
  have b1 := HKs1.out.cell 1 rfl
  have b2 := HKs1.out.cell 2 rfl
  have b3 := HKs1.out.cell 3 rfl
  have b4 := HKs1.out.cell 4 rfl
  have b5 := HKs1.out.cell 5 rfl
  have b6 := HKs1.out.cell 6 rfl
  have b7 := HKs1.out.cell 7 rfl
  have b8 := HKs1.out.cell 8 rfl
  have b9 := HKs1.out.cell 9 rfl
  clear HRs
  go_wp2_with fail
  refine HX1.out.mono ?_
  rintro e v2 ⟨rfl, hR, hO⟩
  have HRs := hid hR
  have HKs2 := hid (HKs1.out.only hO (by have := HNE.out; omega))
  have HOs2 := hid (HOs1.out.trans hO)
  clear hR hO HX1 HKs1 HOs1 b0 b1 b2 b3 b4 b5 b6 b7 b8 b9
  have HX2 := hid (HS2.out _ v2 HRs.out)
  have b0 := HKs2.out.cell 0 rfl
  have b1 := HKs2.out.cell 1 rfl
  have b2 := HKs2.out.cell 2 rfl
  have b3 := HKs2.out.cell 3 rfl
  have b4 := HKs2.out.cell 4 rfl
  have b5 := HKs2.out.cell 5 rfl
  have b6 := HKs2.out.cell 6 rfl
  have b7 := HKs2.out.cell 7 rfl
  have b8 := HKs2.out.cell 8 rfl
  have b9 := HKs2.out.cell 9 rfl
  clear HRs
  go_wp2_with fail
  refine HX2.out.mono ?_
  rintro e v3 ⟨rfl, hR, hO⟩
  have HRs := hid hR
  have HKs3 := hid (HKs2.out.only hO (by have := HNE.out; omega))
  have HOs3 := hid (HOs2.out.trans hO)
  clear hR hO HX2 HKs2 HOs2 b0 b1 b2 b3 b4 b5 b6 b7 b8 b9
  have HX3 := hid (HS3.out _ v3 HRs.out)
  have b0 := HKs3.out.cell 0 rfl
  have b1 := HKs3.out.cell 1 rfl
  have b2 := HKs3.out.cell 2 rfl
  have b3 := HKs3.out.cell 3 rfl
  have b4 := HKs3.out.cell 4 rfl
  have b5 := HKs3.out.cell 5 rfl
  have b6 := HKs3.out.cell 6 rfl
  have b7 := HKs3.out.cell 7 rfl
  have b8 := HKs3.out.cell 8 rfl
  have b9 := HKs3.out.cell 9 rfl
  clear HRs
  go_wp2_with fail
  refine HX3.out.mono ?_
  rintro e v4 ⟨rfl, hR, hO⟩
  have HRs := hid hR
  have HKs4 := hid (HKs3.out.only hO (by have := HNE.out; omega))
  have HOs4 := hid (HOs3.out.trans hO)
  clear hR hO HX3 HKs3 HOs3 b0 b1 b2 b3 b4 b5 b6 b7 b8 b9
  have HX4 := hid (HS4.out _ v4 HRs.out)
  have b0 := HKs4.out.cell 0 rfl
  have b1 := HKs4.out.cell 1 rfl
  have b2 := HKs4.out.cell 2 rfl
  have b3 := HKs4.out.cell 3 rfl
  have b4 := HKs4.out.cell 4 rfl
  have b5 := HKs4.out.cell 5 rfl
  have b6 := HKs4.out.cell 6 rfl
  have b7 := HKs4.out.cell 7 rfl
  have b8 := HKs4.out.cell 8 rfl
  have b9 := HKs4.out.cell 9 rfl
  clear HRs
  go_wp2_with fail
  refine HX4.out.mono ?_
  rintro e v5 ⟨rfl, hR, hO⟩
  have HRs := hid hR
  have HKs5 := hid (HKs4.out.only hO (by have := HNE.out; omega))
  have HOs5 := hid (HOs4.out.trans hO)
  clear hR hO HX4 HKs4 HOs4 b0 b1 b2 b3 b4 b5 b6 b7 b8 b9
  have HX5 := hid (HS5.out _ v5 HRs.out)
  have b0 := HKs5.out.cell 0 rfl
  have b1 := HKs5.out.cell 1 rfl
  have b2 := HKs5.out.cell 2 rfl
  have b3 := HKs5.out.cell 3 rfl
  have b4 := HKs5.out.cell 4 rfl
  have b5 := HKs5.out.cell 5 rfl
  have b6 := HKs5.out.cell 6 rfl
  have b7 := HKs5.out.cell 7 rfl
  have b8 := HKs5.out.cell 8 rfl
  have b9 := HKs5.out.cell 9 rfl
  clear HRs
  go_wp2_with fail
  refine HX5.out.mono ?_
  rintro e v6 ⟨rfl, hR, hO⟩
  have HRs := hid hR
  have HKs6 := hid (HKs5.out.only hO (by have := HNE.out; omega))
  have HOs6 := hid (HOs5.out.trans hO)
  clear hR hO HX5 HKs5 HOs5 b0 b1 b2 b3 b4 b5 b6 b7 b8 b9
  have HD := hid (l_done _ _ _ v6 HRs.out)
  have b0 := HKs6.out.cell 0 rfl
  have b1 := HKs6.out.cell 1 rfl
  have b2 := HKs6.out.cell 2 rfl
  have b3 := HKs6.out.cell 3 rfl
  have b4 := HKs6.out.cell 4 rfl
  have b5 := HKs6.out.cell 5 rfl
  have b6 := HKs6.out.cell 6 rfl
  have b7 := HKs6.out.cell 7 rfl
  have b8 := HKs6.out.cell 8 rfl
  have b9 := HKs6.out.cell 9 rfl
  go_wp2_with fail
  refine HD.out.mono ?_
  rintro e w9 ⟨rfl, hw9⟩
  have hw10 := hw9.symm
  clear hw9
  subst hw10
  have HBE : Hid (Below w.heap.size w v6) := HB2.out.trans ⟨HOs6.out.os, HOs6.out.tape, HOs6.out.output, HOs6.out.size, fun k hk => HOs6.out.block k (by have := HB2.out.size; omega) (by have := HNE.out; omega)⟩
  have hY := HY.out
  clear HY HD HRs
  generalize (⟨((((((([] ++ nbL 4 (rx : Int).toNat) ++ nbL 4 (1 : Int).toNat) ++ nbL 4 (1 : Int).toNat) ++ nbL 4 (0 : Int).toNat) ++ nbL 4 (rl : Int).toNat) ++ nbL 4 (rh : Int).toNat) : List UInt8).toArray⟩ : ByteArray) = S3 at *
  subst hY
  go_wp2
  refine bodyPost_ret (v := .tuple #[.string S3, .int .i64 0]) (by simp [results, Tryz.results9, go_sem]) rfl ⟨rfl, HBE.out⟩
set_option maxRecDepth 8000 in
set_option maxHeartbeats 4000000 in
theorem dpr_d1 (rx rw_ : Int) (w : World) (hm : ReplyP.may ⟨rx, true, nulA, 0, 0, 0, [], 1, rw_⟩) (wx : isW rx) (ww : isW rw_) :
    Calls Tryz.prog 9 #[.agg #[.int .i64 rx, .bool true, .int .i64 0, .string ⟨#[]⟩, .int .i64 0, .int .i64 1, .int .i64 rw_, .int .i64 0, .int .i64 0, .string ⟨#[]⟩]] w fun e w' => e = .returned (.tuple #[.string ⟨(ReplyP.lay ⟨rx, true, nulA, 0, 0, 0, [], 1, rw_⟩).toArray⟩, .int .i64 0]) ∧ Below w.heap.size w w' := by
  have H1 : Hid (∀ w, Calls Tryz.prog 29 #[.agg #[.int .i64 rx, .bool true, .int .i64 0, .string ⟨#[]⟩, .int .i64 0, .int .i64 1, .int .i64 rw_, .int .i64 0, .int .i64 0, .string ⟨#[]⟩]] w fun e w' => e = .returned (.bool true) ∧ Below w.heap.size w w') := fun w => by
    have := dreplyMay_any ⟨rx, true, nulA, 0, 0, 0, [], 1, rw_⟩ w (reply_len hm)
    rw [decide_eq_true hm] at this
    exact this
  obtain ⟨wa, hwa⟩ : ∃ x, w.alloc (.cells #[.int .i64 rx, .bool true, .int .i64 0, .string ⟨#[]⟩, .int .i64 0, .int .i64 1, .int .i64 rw_, .int .i64 0, .int .i64 0, .string ⟨#[]⟩] 27) = x := ⟨_, rfl⟩
  obtain ⟨hk, hB, hz⟩ := boxed w wa _ _ hwa
  have HB := hid hB
  have HK : Hid (Bk wa w.heap.size [.int .i64 rx, .bool true, .int .i64 0, .string ⟨#[]⟩, .int .i64 0, .int .i64 1, .int .i64 rw_, .int .i64 0, .int .i64 0, .string ⟨#[]⟩] 27) := hk
  have a0 := hk.cell 0 rfl
  have a1 := hk.cell 1 rfl
  have a2 := hk.cell 2 rfl
  have a3 := hk.cell 3 rfl
  have a4 := hk.cell 4 rfl
  have a5 := hk.cell 5 rfl
  have a6 := hk.cell 6 rfl
  have a7 := hk.cell 7 rfl
  have a8 := hk.cell 8 rfl
  have a9 := hk.cell 9 rfl
  clear hk hB hz hm
  have HS0 : Hid (∀ p w, RL w p 4096 [] → Calls Tryz.prog 23 #[.pointer (some ⟨p, 0, none⟩), .int .i64 rx] w (LPost p 4096 ([] ++ nbL 4 (rx : Int).toNat) w)) := fun p w h => l_uint p rx 4096 _ w h (wx) (by decide) (by decide)
  have HS1 : Hid (∀ p w, RL w p 4096 ([] ++ nbL 4 (rx : Int).toNat) → Calls Tryz.prog 23 #[.pointer (some ⟨p, 0, none⟩), .int .i64 1] w (LPost p 4096 (([] ++ nbL 4 (rx : Int).toNat) ++ nbL 4 (1 : Int).toNat) w)) := fun p w h => l_uint p 1 4096 _ w h (by decide) (by decide) (by simp only [List.length_append, nbL_len, List.length_nil]; omega)
  have HS2 : Hid (∀ p w, RL w p 4096 (([] ++ nbL 4 (rx : Int).toNat) ++ nbL 4 (1 : Int).toNat) → Calls Tryz.prog 23 #[.pointer (some ⟨p, 0, none⟩), .int .i64 1] w (LPost p 4096 ((([] ++ nbL 4 (rx : Int).toNat) ++ nbL 4 (1 : Int).toNat) ++ nbL 4 (1 : Int).toNat) w)) := fun p w h => l_uint p 1 4096 _ w h (by decide) (by decide) (by simp only [List.length_append, nbL_len, List.length_nil]; omega)
  have HS3 : Hid (∀ p w, RL w p 4096 ((([] ++ nbL 4 (rx : Int).toNat) ++ nbL 4 (1 : Int).toNat) ++ nbL 4 (1 : Int).toNat) → Calls Tryz.prog 23 #[.pointer (some ⟨p, 0, none⟩), .int .i64 1] w (LPost p 4096 (((([] ++ nbL 4 (rx : Int).toNat) ++ nbL 4 (1 : Int).toNat) ++ nbL 4 (1 : Int).toNat) ++ nbL 4 (1 : Int).toNat) w)) := fun p w h => l_uint p 1 4096 _ w h (by decide) (by decide) (by simp only [List.length_append, nbL_len, List.length_nil]; omega)
  have HS4 : Hid (∀ p w, RL w p 4096 (((([] ++ nbL 4 (rx : Int).toNat) ++ nbL 4 (1 : Int).toNat) ++ nbL 4 (1 : Int).toNat) ++ nbL 4 (1 : Int).toNat) → Calls Tryz.prog 23 #[.pointer (some ⟨p, 0, none⟩), .int .i64 rw_] w (LPost p 4096 ((((([] ++ nbL 4 (rx : Int).toNat) ++ nbL 4 (1 : Int).toNat) ++ nbL 4 (1 : Int).toNat) ++ nbL 4 (1 : Int).toNat) ++ nbL 4 (rw_ : Int).toNat) w)) := fun p w h => l_uint p rw_ 4096 _ w h (ww) (by decide) (by simp only [List.length_append, nbL_len, List.length_nil]; omega)
  have HY : Hid ((⟨(((((([] ++ nbL 4 (rx : Int).toNat) ++ nbL 4 (1 : Int).toNat) ++ nbL 4 (1 : Int).toNat) ++ nbL 4 (1 : Int).toNat) ++ nbL 4 (rw_ : Int).toNat) : List UInt8).toArray⟩ : ByteArray) = ⟨(ReplyP.lay ⟨rx, true, nulA, 0, 0, 0, [], 1, rw_⟩).toArray⟩) := by
    show _ = _
    unfold ReplyP.lay
    simp [List.append_assoc]
  generalize hLAY : (⟨(ReplyP.lay ⟨rx, true, nulA, 0, 0, 0, [], 1, rw_⟩).toArray⟩ : ByteArray) = LAY at *
  clear hLAY
  go_enter Tryz.func9, Tryz.ntmps9
  go_wp2_with fail
  refine (H1.out _).mono ?_
  rintro e w1 ⟨rfl, hB1⟩
  have HB1 : Hid (Below w.heap.size w w1) := HB.out.trans (hB1.mono HB.out.size)
  have HK1 := hid (HK.out.below hB1 HK.out.lt)
  have HN := hid (l_new w1)
  clear hB1 H1 HK a0 a1 a2 a3 a4 a5 a6 a7 a8 a9
  go_wp2_with fail
  refine HN.out.mono ?_
  rintro e w2 ⟨rfl, hR2, hB2, hz2⟩
  have HB2 : Hid (Below w.heap.size w w2) := HB1.out.trans (hB2.mono HB1.out.size)
  have HKs0 := hid (HK1.out.below hB2 HK1.out.lt)
  have HNE : Hid (w.heap.size < w1.heap.size) := HK1.out.lt
  have HRs := hid hR2
  have HOs0 : Hid (Only w1.heap.size w2 w2) := Only.refl _ _
  clear hR2 hB2 hz2 HN
  have HX0 := hid (HS0.out _ w2 HRs.out)
  have b0 := HKs0.out.cell 0 rfl
  have b1 := HKs0.out.cell 1 rfl
  have b2 := HKs0.out.cell 2 rfl
  have b3 := HKs0.out.cell 3 rfl
  have b4 := HKs0.out.cell 4 rfl
  have b5 := HKs0.out.cell 5 rfl
  have b6 := HKs0.out.cell 6 rfl
  have b7 := HKs0.out.cell 7 rfl
  have b8 := HKs0.out.cell 8 rfl
  have b9 := HKs0.out.cell 9 rfl
  clear HRs
  go_wp2_with fail
  refine HX0.out.mono ?_
  rintro e v1 ⟨rfl, hR, hO⟩
  have HRs := hid hR
  have HKs1 := hid (HKs0.out.only hO (by have := HNE.out; omega))
  have HOs1 := hid (HOs0.out.trans hO)
  clear hR hO HX0 HKs0 HOs0 b0 b1 b2 b3 b4 b5 b6 b7 b8 b9
  have HX1 := hid (HS1.out _ v1 HRs.out)
  have b0 := HKs1.out.cell 0 rfl
  have b1 := HKs1.out.cell 1 rfl
  have b2 := HKs1.out.cell 2 rfl
  have b3 := HKs1.out.cell 3 rfl
  have b4 := HKs1.out.cell 4 rfl
  have b5 := HKs1.out.cell 5 rfl
  have b6 := HKs1.out.cell 6 rfl
  have b7 := HKs1.out.cell 7 rfl
  have b8 := HKs1.out.cell 8 rfl
  have b9 := HKs1.out.cell 9 rfl
  clear HRs
  go_wp2_with fail
  refine HX1.out.mono ?_
  rintro e v2 ⟨rfl, hR, hO⟩
  have HRs := hid hR
  have HKs2 := hid (HKs1.out.only hO (by have := HNE.out; omega))
  have HOs2 := hid (HOs1.out.trans hO)
  clear hR hO HX1 HKs1 HOs1 b0 b1 b2 b3 b4 b5 b6 b7 b8 b9
  have HX2 := hid (HS2.out _ v2 HRs.out)
  have b0 := HKs2.out.cell 0 rfl
  have b1 := HKs2.out.cell 1 rfl
  have b2 := HKs2.out.cell 2 rfl
  have b3 := HKs2.out.cell 3 rfl
  have b4 := HKs2.out.cell 4 rfl
  have b5 := HKs2.out.cell 5 rfl
  have b6 := HKs2.out.cell 6 rfl
  have b7 := HKs2.out.cell 7 rfl
  have b8 := HKs2.out.cell 8 rfl
  have b9 := HKs2.out.cell 9 rfl
  clear HRs
  go_wp2_with fail
  refine HX2.out.mono ?_
  rintro e v3 ⟨rfl, hR, hO⟩
  have HRs := hid hR
  have HKs3 := hid (HKs2.out.only hO (by have := HNE.out; omega))
  have HOs3 := hid (HOs2.out.trans hO)
  clear hR hO HX2 HKs2 HOs2 b0 b1 b2 b3 b4 b5 b6 b7 b8 b9
  have HX3 := hid (HS3.out _ v3 HRs.out)
  have b0 := HKs3.out.cell 0 rfl
  have b1 := HKs3.out.cell 1 rfl
  have b2 := HKs3.out.cell 2 rfl
  have b3 := HKs3.out.cell 3 rfl
  have b4 := HKs3.out.cell 4 rfl
  have b5 := HKs3.out.cell 5 rfl
  have b6 := HKs3.out.cell 6 rfl
  have b7 := HKs3.out.cell 7 rfl
  have b8 := HKs3.out.cell 8 rfl
  have b9 := HKs3.out.cell 9 rfl
  clear HRs
  go_wp2_with fail
  refine HX3.out.mono ?_
  rintro e v4 ⟨rfl, hR, hO⟩
  have HRs := hid hR
  have HKs4 := hid (HKs3.out.only hO (by have := HNE.out; omega))
  have HOs4 := hid (HOs3.out.trans hO)
  clear hR hO HX3 HKs3 HOs3 b0 b1 b2 b3 b4 b5 b6 b7 b8 b9
  have HX4 := hid (HS4.out _ v4 HRs.out)
  have b0 := HKs4.out.cell 0 rfl
  have b1 := HKs4.out.cell 1 rfl
  have b2 := HKs4.out.cell 2 rfl
  have b3 := HKs4.out.cell 3 rfl
  have b4 := HKs4.out.cell 4 rfl
  have b5 := HKs4.out.cell 5 rfl
  have b6 := HKs4.out.cell 6 rfl
  have b7 := HKs4.out.cell 7 rfl
  have b8 := HKs4.out.cell 8 rfl
  have b9 := HKs4.out.cell 9 rfl
  clear HRs
  go_wp2_with fail
  refine HX4.out.mono ?_
  rintro e v5 ⟨rfl, hR, hO⟩
  have HRs := hid hR
  have HKs5 := hid (HKs4.out.only hO (by have := HNE.out; omega))
  have HOs5 := hid (HOs4.out.trans hO)
  clear hR hO HX4 HKs4 HOs4 b0 b1 b2 b3 b4 b5 b6 b7 b8 b9
  have HD := hid (l_done _ _ _ v5 HRs.out)
  have b0 := HKs5.out.cell 0 rfl
  have b1 := HKs5.out.cell 1 rfl
  have b2 := HKs5.out.cell 2 rfl
  have b3 := HKs5.out.cell 3 rfl
  have b4 := HKs5.out.cell 4 rfl
  have b5 := HKs5.out.cell 5 rfl
  have b6 := HKs5.out.cell 6 rfl
  have b7 := HKs5.out.cell 7 rfl
  have b8 := HKs5.out.cell 8 rfl
  have b9 := HKs5.out.cell 9 rfl
  go_wp2_with fail
  refine HD.out.mono ?_
  rintro e w9 ⟨rfl, hw9⟩
  have hw10 := hw9.symm
  clear hw9
  subst hw10
  have HBE : Hid (Below w.heap.size w v5) := HB2.out.trans ⟨HOs5.out.os, HOs5.out.tape, HOs5.out.output, HOs5.out.size, fun k hk => HOs5.out.block k (by have := HB2.out.size; omega) (by have := HNE.out; omega)⟩
  have hY := HY.out
  clear HY HD HRs
  generalize (⟨(((((([] ++ nbL 4 (rx : Int).toNat) ++ nbL 4 (1 : Int).toNat) ++ nbL 4 (1 : Int).toNat) ++ nbL 4 (1 : Int).toNat) ++ nbL 4 (rw_ : Int).toNat) : List UInt8).toArray⟩ : ByteArray) = S3 at *
  subst hY
  go_wp2
  refine bodyPost_ret (v := .tuple #[.string S3, .int .i64 0]) (by simp [results, Tryz.results9, go_sem]) rfl ⟨rfl, HBE.out⟩
end Go.Proofs.YtebjheaohichpaaGreatDoor
namespace Go.Proofs.YtebjheaohichpaaGreatDoor
open Go.RowKit
set_option maxRecDepth 8000 in
set_option maxHeartbeats 4000000 in
theorem dpr_a2 (rx rl rh : Int) (rv : AuthP) (w : World) (hm : ReplyP.may ⟨rx, false, rv, 2, rl, rh, [], 0, 0⟩) (wx : isW rx) (wl : isW rl) (wh : isW rh) (wv : rv.may) :
    Calls Tryz.prog 9 #[.agg #[.int .i64 rx, .bool false, .int .i64 rv.flavor, .string ⟨rv.body.toArray⟩, .int .i64 2, .int .i64 0, .int .i64 0, .int .i64 rl, .int .i64 rh, .string ⟨#[]⟩]] w fun e w' => e = .returned (.tuple #[.string ⟨(ReplyP.lay ⟨rx, false, rv, 2, rl, rh, [], 0, 0⟩).toArray⟩, .int .i64 0]) ∧ Below w.heap.size w w' := by
  have H1 : Hid (∀ w, Calls Tryz.prog 29 #[.agg #[.int .i64 rx, .bool false, .int .i64 rv.flavor, .string ⟨rv.body.toArray⟩, .int .i64 2, .int .i64 0, .int .i64 0, .int .i64 rl, .int .i64 rh, .string ⟨#[]⟩]] w fun e w' => e = .returned (.bool true) ∧ Below w.heap.size w w') := fun w => by
    have := dreplyMay_any ⟨rx, false, rv, 2, rl, rh, [], 0, 0⟩ w (reply_len hm)
    rw [decide_eq_true hm] at this
    exact this
  obtain ⟨wa, hwa⟩ : ∃ x, w.alloc (.cells #[.int .i64 rx, .bool false, .int .i64 rv.flavor, .string ⟨rv.body.toArray⟩, .int .i64 2, .int .i64 0, .int .i64 0, .int .i64 rl, .int .i64 rh, .string ⟨#[]⟩] 27) = x := ⟨_, rfl⟩
  obtain ⟨hk, hB, hz⟩ := boxed w wa _ _ hwa
  have HB := hid hB
  have HK : Hid (Bk wa w.heap.size [.int .i64 rx, .bool false, .int .i64 rv.flavor, .string ⟨rv.body.toArray⟩, .int .i64 2, .int .i64 0, .int .i64 0, .int .i64 rl, .int .i64 rh, .string ⟨#[]⟩] 27) := hk
  have a0 := hk.cell 0 rfl
  have a1 := hk.cell 1 rfl
  have a2 := hk.cell 2 rfl
  have a3 := hk.cell 3 rfl
  have a4 := hk.cell 4 rfl
  have a5 := hk.cell 5 rfl
  have a6 := hk.cell 6 rfl
  have a7 := hk.cell 7 rfl
  have a8 := hk.cell 8 rfl
  have a9 := hk.cell 9 rfl
  clear hk hB hz hm
  have al := auth_len rv wv
  have HS0 : Hid (∀ p w, RL w p 4096 [] → Calls Tryz.prog 23 #[.pointer (some ⟨p, 0, none⟩), .int .i64 rx] w (LPost p 4096 ([] ++ nbL 4 (rx : Int).toNat) w)) := fun p w h => l_uint p rx 4096 _ w h (wx) (by decide) (by decide)
  have HS1 : Hid (∀ p w, RL w p 4096 ([] ++ nbL 4 (rx : Int).toNat) → Calls Tryz.prog 23 #[.pointer (some ⟨p, 0, none⟩), .int .i64 1] w (LPost p 4096 (([] ++ nbL 4 (rx : Int).toNat) ++ nbL 4 (1 : Int).toNat) w)) := fun p w h => l_uint p 1 4096 _ w h (by decide) (by decide) (by simp only [List.length_append, nbL_len, List.length_nil]; omega)
  have HS2 : Hid (∀ p w, RL w p 4096 (([] ++ nbL 4 (rx : Int).toNat) ++ nbL 4 (1 : Int).toNat) → Calls Tryz.prog 23 #[.pointer (some ⟨p, 0, none⟩), .int .i64 0] w (LPost p 4096 ((([] ++ nbL 4 (rx : Int).toNat) ++ nbL 4 (1 : Int).toNat) ++ nbL 4 (0 : Int).toNat) w)) := fun p w h => l_uint p 0 4096 _ w h (by decide) (by decide) (by simp only [List.length_append, nbL_len, List.length_nil]; omega)
  have HS3 : Hid (∀ p w, RL w p 4096 ((([] ++ nbL 4 (rx : Int).toNat) ++ nbL 4 (1 : Int).toNat) ++ nbL 4 (0 : Int).toNat) → Calls Tryz.prog 24 #[.pointer (some ⟨p, 0, none⟩), .agg #[.int .i64 rv.flavor, .string ⟨rv.body.toArray⟩]] w (LPost p 4096 (((([] ++ nbL 4 (rx : Int).toNat) ++ nbL 4 (1 : Int).toNat) ++ nbL 4 (0 : Int).toNat) ++ rv.lay) w)) := fun p w h => dauth_any p rv 4096 _ w h wv (by decide) (by simp only [List.length_append, nbL_len, List.length_nil]; omega)
  have HS4 : Hid (∀ p w, RL w p 4096 (((([] ++ nbL 4 (rx : Int).toNat) ++ nbL 4 (1 : Int).toNat) ++ nbL 4 (0 : Int).toNat) ++ rv.lay) → Calls Tryz.prog 23 #[.pointer (some ⟨p, 0, none⟩), .int .i64 2] w (LPost p 4096 ((((([] ++ nbL 4 (rx : Int).toNat) ++ nbL 4 (1 : Int).toNat) ++ nbL 4 (0 : Int).toNat) ++ rv.lay) ++ nbL 4 (2 : Int).toNat) w)) := fun p w h => l_uint p 2 4096 _ w h (by decide) (by decide) (by simp only [List.length_append, nbL_len, List.length_nil]; omega)
  have HS5 : Hid (∀ p w, RL w p 4096 ((((([] ++ nbL 4 (rx : Int).toNat) ++ nbL 4 (1 : Int).toNat) ++ nbL 4 (0 : Int).toNat) ++ rv.lay) ++ nbL 4 (2 : Int).toNat) → Calls Tryz.prog 23 #[.pointer (some ⟨p, 0, none⟩), .int .i64 rl] w (LPost p 4096 (((((([] ++ nbL 4 (rx : Int).toNat) ++ nbL 4 (1 : Int).toNat) ++ nbL 4 (0 : Int).toNat) ++ rv.lay) ++ nbL 4 (2 : Int).toNat) ++ nbL 4 (rl : Int).toNat) w)) := fun p w h => l_uint p rl 4096 _ w h (wl) (by decide) (by simp only [List.length_append, nbL_len, List.length_nil]; omega)
  have HS6 : Hid (∀ p w, RL w p 4096 (((((([] ++ nbL 4 (rx : Int).toNat) ++ nbL 4 (1 : Int).toNat) ++ nbL 4 (0 : Int).toNat) ++ rv.lay) ++ nbL 4 (2 : Int).toNat) ++ nbL 4 (rl : Int).toNat) → Calls Tryz.prog 23 #[.pointer (some ⟨p, 0, none⟩), .int .i64 rh] w (LPost p 4096 ((((((([] ++ nbL 4 (rx : Int).toNat) ++ nbL 4 (1 : Int).toNat) ++ nbL 4 (0 : Int).toNat) ++ rv.lay) ++ nbL 4 (2 : Int).toNat) ++ nbL 4 (rl : Int).toNat) ++ nbL 4 (rh : Int).toNat) w)) := fun p w h => l_uint p rh 4096 _ w h (wh) (by decide) (by simp only [List.length_append, nbL_len, List.length_nil]; omega)
  have HY : Hid ((⟨(((((((([] ++ nbL 4 (rx : Int).toNat) ++ nbL 4 (1 : Int).toNat) ++ nbL 4 (0 : Int).toNat) ++ rv.lay) ++ nbL 4 (2 : Int).toNat) ++ nbL 4 (rl : Int).toNat) ++ nbL 4 (rh : Int).toNat) : List UInt8).toArray⟩ : ByteArray) ++ ⟨#[]⟩ = ⟨(ReplyP.lay ⟨rx, false, rv, 2, rl, rh, [], 0, 0⟩).toArray⟩) := by
    show (⟨(((((((([] ++ nbL 4 (rx : Int).toNat) ++ nbL 4 (1 : Int).toNat) ++ nbL 4 (0 : Int).toNat) ++ rv.lay) ++ nbL 4 (2 : Int).toNat) ++ nbL 4 (rl : Int).toNat) ++ nbL 4 (rh : Int).toNat) : List UInt8).toArray⟩ : ByteArray) ++ ⟨([] : List UInt8).toArray⟩ = _
    rw [bapp]
    unfold ReplyP.lay
    simp [List.append_assoc]
  have s1 : (⟨(((((((([] ++ nbL 4 (rx : Int).toNat) ++ nbL 4 (1 : Int).toNat) ++ nbL 4 (0 : Int).toNat) ++ rv.lay) ++ nbL 4 (2 : Int).toNat) ++ nbL 4 (rl : Int).toNat) ++ nbL 4 (rh : Int).toNat) : List UInt8).toArray⟩ : ByteArray).size ≤ 2000 := by
    rw [ba_size]
    simp only [List.length_append, nbL_len, List.length_nil]
    omega
  generalize hLAY : (⟨(ReplyP.lay ⟨rx, false, rv, 2, rl, rh, [], 0, 0⟩).toArray⟩ : ByteArray) = LAY at *
  clear hLAY
  go_enter Tryz.func9, Tryz.ntmps9
  go_wp2_with fail
  refine (H1.out _).mono ?_
  rintro e w1 ⟨rfl, hB1⟩
  have HB1 : Hid (Below w.heap.size w w1) := HB.out.trans (hB1.mono HB.out.size)
  have HK1 := hid (HK.out.below hB1 HK.out.lt)
  have HN := hid (l_new w1)
  clear hB1 H1 HK a0 a1 a2 a3 a4 a5 a6 a7 a8 a9
  go_wp2_with fail
  refine HN.out.mono ?_
  rintro e w2 ⟨rfl, hR2, hB2, hz2⟩
  have HB2 : Hid (Below w.heap.size w w2) := HB1.out.trans (hB2.mono HB1.out.size)
  have HKs0 := hid (HK1.out.below hB2 HK1.out.lt)
  have HNE : Hid (w.heap.size < w1.heap.size) := HK1.out.lt
  have HRs := hid hR2
  have HOs0 : Hid (Only w1.heap.size w2 w2) := Only.refl _ _
  clear hR2 hB2 hz2 HN
  have HX0 := hid (HS0.out _ w2 HRs.out)
  have b0 := HKs0.out.cell 0 rfl
  have b1 := HKs0.out.cell 1 rfl
  have b2 := HKs0.out.cell 2 rfl
  have b3 := HKs0.out.cell 3 rfl
  have b4 := HKs0.out.cell 4 rfl
  have b5 := HKs0.out.cell 5 rfl
  have b6 := HKs0.out.cell 6 rfl
  have b7 := HKs0.out.cell 7 rfl
  have b8 := HKs0.out.cell 8 rfl
  have b9 := HKs0.out.cell 9 rfl
  clear HRs
  go_wp2_with fail
  refine HX0.out.mono ?_
  rintro e v1 ⟨rfl, hR, hO⟩
  have HRs := hid hR
  have HKs1 := hid (HKs0.out.only hO (by have := HNE.out; omega))
  have HOs1 := hid (HOs0.out.trans hO)
  clear hR hO HX0 HKs0 HOs0 b0 b1 b2 b3 b4 b5 b6 b7 b8 b9
  have HX1 := hid (HS1.out _ v1 HRs.out)
  have b0 := HKs1.out.cell 0 rfl
  have b1 := HKs1.out.cell 1 rfl
  have b2 := HKs1.out.cell 2 rfl
  have b3 := HKs1.out.cell 3 rfl
  have b4 := HKs1.out.cell 4 rfl
  have b5 := HKs1.out.cell 5 rfl
  have b6 := HKs1.out.cell 6 rfl
  have b7 := HKs1.out.cell 7 rfl
  have b8 := HKs1.out.cell 8 rfl
  have b9 := HKs1.out.cell 9 rfl
  clear HRs
  go_wp2_with fail
  refine HX1.out.mono ?_
  rintro e v2 ⟨rfl, hR, hO⟩
  have HRs := hid hR
  have HKs2 := hid (HKs1.out.only hO (by have := HNE.out; omega))
  have HOs2 := hid (HOs1.out.trans hO)
  clear hR hO HX1 HKs1 HOs1 b0 b1 b2 b3 b4 b5 b6 b7 b8 b9
  have HX2 := hid (HS2.out _ v2 HRs.out)
  have b0 := HKs2.out.cell 0 rfl
  have b1 := HKs2.out.cell 1 rfl
  have b2 := HKs2.out.cell 2 rfl
  have b3 := HKs2.out.cell 3 rfl
  have b4 := HKs2.out.cell 4 rfl
  have b5 := HKs2.out.cell 5 rfl
  have b6 := HKs2.out.cell 6 rfl
  have b7 := HKs2.out.cell 7 rfl
  have b8 := HKs2.out.cell 8 rfl
  have b9 := HKs2.out.cell 9 rfl
  clear HRs
  go_wp2_with fail
  refine HX2.out.mono ?_
  rintro e v3 ⟨rfl, hR, hO⟩
  have HRs := hid hR
  have HKs3 := hid (HKs2.out.only hO (by have := HNE.out; omega))
  have HOs3 := hid (HOs2.out.trans hO)
  clear hR hO HX2 HKs2 HOs2 b0 b1 b2 b3 b4 b5 b6 b7 b8 b9
  have HX3 := hid (HS3.out _ v3 HRs.out)
  have b0 := HKs3.out.cell 0 rfl
  have b1 := HKs3.out.cell 1 rfl
  have b2 := HKs3.out.cell 2 rfl
  have b3 := HKs3.out.cell 3 rfl
  have b4 := HKs3.out.cell 4 rfl
  have b5 := HKs3.out.cell 5 rfl
  have b6 := HKs3.out.cell 6 rfl
  have b7 := HKs3.out.cell 7 rfl
  have b8 := HKs3.out.cell 8 rfl
  have b9 := HKs3.out.cell 9 rfl
  clear HRs
  go_wp2_with fail
  refine HX3.out.mono ?_
  rintro e v4 ⟨rfl, hR, hO⟩
  have HRs := hid hR
  have HKs4 := hid (HKs3.out.only hO (by have := HNE.out; omega))
  have HOs4 := hid (HOs3.out.trans hO)
  clear hR hO HX3 HKs3 HOs3 b0 b1 b2 b3 b4 b5 b6 b7 b8 b9
  have HX4 := hid (HS4.out _ v4 HRs.out)
  have b0 := HKs4.out.cell 0 rfl
  have b1 := HKs4.out.cell 1 rfl
  have b2 := HKs4.out.cell 2 rfl
  have b3 := HKs4.out.cell 3 rfl
  have b4 := HKs4.out.cell 4 rfl
  have b5 := HKs4.out.cell 5 rfl
  have b6 := HKs4.out.cell 6 rfl
  have b7 := HKs4.out.cell 7 rfl
  have b8 := HKs4.out.cell 8 rfl
  have b9 := HKs4.out.cell 9 rfl
  clear HRs
  go_wp2_with fail
  refine HX4.out.mono ?_
  rintro e v5 ⟨rfl, hR, hO⟩
  have HRs := hid hR
  have HKs5 := hid (HKs4.out.only hO (by have := HNE.out; omega))
  have HOs5 := hid (HOs4.out.trans hO)
  clear hR hO HX4 HKs4 HOs4 b0 b1 b2 b3 b4 b5 b6 b7 b8 b9
  have HX5 := hid (HS5.out _ v5 HRs.out)
  have b0 := HKs5.out.cell 0 rfl
  have b1 := HKs5.out.cell 1 rfl
  have b2 := HKs5.out.cell 2 rfl
  have b3 := HKs5.out.cell 3 rfl
  have b4 := HKs5.out.cell 4 rfl
  have b5 := HKs5.out.cell 5 rfl
  have b6 := HKs5.out.cell 6 rfl
  have b7 := HKs5.out.cell 7 rfl
  have b8 := HKs5.out.cell 8 rfl
  have b9 := HKs5.out.cell 9 rfl
  clear HRs
  go_wp2_with fail
  refine HX5.out.mono ?_
  rintro e v6 ⟨rfl, hR, hO⟩
  have HRs := hid hR
  have HKs6 := hid (HKs5.out.only hO (by have := HNE.out; omega))
  have HOs6 := hid (HOs5.out.trans hO)
  clear hR hO HX5 HKs5 HOs5 b0 b1 b2 b3 b4 b5 b6 b7 b8 b9
  have HX6 := hid (HS6.out _ v6 HRs.out)
  have b0 := HKs6.out.cell 0 rfl
  have b1 := HKs6.out.cell 1 rfl
  have b2 := HKs6.out.cell 2 rfl
  have b3 := HKs6.out.cell 3 rfl
  have b4 := HKs6.out.cell 4 rfl
  have b5 := HKs6.out.cell 5 rfl
  have b6 := HKs6.out.cell 6 rfl
  have b7 := HKs6.out.cell 7 rfl
  have b8 := HKs6.out.cell 8 rfl
  have b9 := HKs6.out.cell 9 rfl
  clear HRs
  go_wp2_with fail
  refine HX6.out.mono ?_
  rintro e v7 ⟨rfl, hR, hO⟩
  have HRs := hid hR
  have HKs7 := hid (HKs6.out.only hO (by have := HNE.out; omega))
  have HOs7 := hid (HOs6.out.trans hO)
  clear hR hO HX6 HKs6 HOs6 b0 b1 b2 b3 b4 b5 b6 b7 b8 b9
  have HD := hid (l_done _ _ _ v7 HRs.out)
  have b0 := HKs7.out.cell 0 rfl
  have b1 := HKs7.out.cell 1 rfl
  have b2 := HKs7.out.cell 2 rfl
  have b3 := HKs7.out.cell 3 rfl
  have b4 := HKs7.out.cell 4 rfl
  have b5 := HKs7.out.cell 5 rfl
  have b6 := HKs7.out.cell 6 rfl
  have b7 := HKs7.out.cell 7 rfl
  have b8 := HKs7.out.cell 8 rfl
  have b9 := HKs7.out.cell 9 rfl
  go_wp2_with fail
  refine HD.out.mono ?_
  rintro e w9 ⟨rfl, hw9⟩
  have hw10 := hw9.symm
  clear hw9
  subst hw10
  have HBE : Hid (Below w.heap.size w v7) := HB2.out.trans ⟨HOs7.out.os, HOs7.out.tape, HOs7.out.output, HOs7.out.size, fun k hk => HOs7.out.block k (by have := HB2.out.size; omega) (by have := HNE.out; omega)⟩
  have hY := HY.out
  clear HY HD HRs
  generalize (⟨(((((((([] ++ nbL 4 (rx : Int).toNat) ++ nbL 4 (1 : Int).toNat) ++ nbL 4 (0 : Int).toNat) ++ rv.lay) ++ nbL 4 (2 : Int).toNat) ++ nbL 4 (rl : Int).toNat) ++ nbL 4 (rh : Int).toNat) : List UInt8).toArray⟩ : ByteArray) = S3 at *
  go_wp2
  refine bodyPost_ret (v := .tuple #[.string LAY, .int .i64 0]) (by simp [results, Tryz.results9, go_sem]) rfl ⟨rfl, HBE.out⟩
end Go.Proofs.YtebjheaohichpaaGreatDoor
namespace Go.Proofs.YtebjheaohichpaaGreatDoor
open Go.RowKit
set_option maxRecDepth 8000 in
set_option maxHeartbeats 4000000 in
theorem dpr_an (rx ra : Int) (rv : AuthP) (rr : List UInt8) (w : World) (hm : ReplyP.may ⟨rx, false, rv, ra, 0, 0, rr, 0, 0⟩) (wx : isW rx) (wa_ : isW ra) (wv : rv.may) (wr : rr.length ≤ 1000) (hn : ra ≠ 2) :
    Calls Tryz.prog 9 #[.agg #[.int .i64 rx, .bool false, .int .i64 rv.flavor, .string ⟨rv.body.toArray⟩, .int .i64 ra, .int .i64 0, .int .i64 0, .int .i64 0, .int .i64 0, .string ⟨rr.toArray⟩]] w fun e w' => e = .returned (.tuple #[.string ⟨(ReplyP.lay ⟨rx, false, rv, ra, 0, 0, rr, 0, 0⟩).toArray⟩, .int .i64 0]) ∧ Below w.heap.size w w' := by
  have H1 : Hid (∀ w, Calls Tryz.prog 29 #[.agg #[.int .i64 rx, .bool false, .int .i64 rv.flavor, .string ⟨rv.body.toArray⟩, .int .i64 ra, .int .i64 0, .int .i64 0, .int .i64 0, .int .i64 0, .string ⟨rr.toArray⟩]] w fun e w' => e = .returned (.bool true) ∧ Below w.heap.size w w') := fun w => by
    have := dreplyMay_any ⟨rx, false, rv, ra, 0, 0, rr, 0, 0⟩ w (reply_len hm)
    rw [decide_eq_true hm] at this
    exact this
  obtain ⟨wa, hwa⟩ : ∃ x, w.alloc (.cells #[.int .i64 rx, .bool false, .int .i64 rv.flavor, .string ⟨rv.body.toArray⟩, .int .i64 ra, .int .i64 0, .int .i64 0, .int .i64 0, .int .i64 0, .string ⟨rr.toArray⟩] 27) = x := ⟨_, rfl⟩
  obtain ⟨hk, hB, hz⟩ := boxed w wa _ _ hwa
  have HB := hid hB
  have HK : Hid (Bk wa w.heap.size [.int .i64 rx, .bool false, .int .i64 rv.flavor, .string ⟨rv.body.toArray⟩, .int .i64 ra, .int .i64 0, .int .i64 0, .int .i64 0, .int .i64 0, .string ⟨rr.toArray⟩] 27) := hk
  have a0 := hk.cell 0 rfl
  have a1 := hk.cell 1 rfl
  have a2 := hk.cell 2 rfl
  have a3 := hk.cell 3 rfl
  have a4 := hk.cell 4 rfl
  have a5 := hk.cell 5 rfl
  have a6 := hk.cell 6 rfl
  have a7 := hk.cell 7 rfl
  have a8 := hk.cell 8 rfl
  have a9 := hk.cell 9 rfl
  clear hk hB hz hm
  have hn2 : (ra == 2) = false := beq_eq_false_iff_ne.2 hn
  have al := auth_len rv wv
  have HS0 : Hid (∀ p w, RL w p 4096 [] → Calls Tryz.prog 23 #[.pointer (some ⟨p, 0, none⟩), .int .i64 rx] w (LPost p 4096 ([] ++ nbL 4 (rx : Int).toNat) w)) := fun p w h => l_uint p rx 4096 _ w h (wx) (by decide) (by decide)
  have HS1 : Hid (∀ p w, RL w p 4096 ([] ++ nbL 4 (rx : Int).toNat) → Calls Tryz.prog 23 #[.pointer (some ⟨p, 0, none⟩), .int .i64 1] w (LPost p 4096 (([] ++ nbL 4 (rx : Int).toNat) ++ nbL 4 (1 : Int).toNat) w)) := fun p w h => l_uint p 1 4096 _ w h (by decide) (by decide) (by simp only [List.length_append, nbL_len, List.length_nil]; omega)
  have HS2 : Hid (∀ p w, RL w p 4096 (([] ++ nbL 4 (rx : Int).toNat) ++ nbL 4 (1 : Int).toNat) → Calls Tryz.prog 23 #[.pointer (some ⟨p, 0, none⟩), .int .i64 0] w (LPost p 4096 ((([] ++ nbL 4 (rx : Int).toNat) ++ nbL 4 (1 : Int).toNat) ++ nbL 4 (0 : Int).toNat) w)) := fun p w h => l_uint p 0 4096 _ w h (by decide) (by decide) (by simp only [List.length_append, nbL_len, List.length_nil]; omega)
  have HS3 : Hid (∀ p w, RL w p 4096 ((([] ++ nbL 4 (rx : Int).toNat) ++ nbL 4 (1 : Int).toNat) ++ nbL 4 (0 : Int).toNat) → Calls Tryz.prog 24 #[.pointer (some ⟨p, 0, none⟩), .agg #[.int .i64 rv.flavor, .string ⟨rv.body.toArray⟩]] w (LPost p 4096 (((([] ++ nbL 4 (rx : Int).toNat) ++ nbL 4 (1 : Int).toNat) ++ nbL 4 (0 : Int).toNat) ++ rv.lay) w)) := fun p w h => dauth_any p rv 4096 _ w h wv (by decide) (by simp only [List.length_append, nbL_len, List.length_nil]; omega)
  have HS4 : Hid (∀ p w, RL w p 4096 (((([] ++ nbL 4 (rx : Int).toNat) ++ nbL 4 (1 : Int).toNat) ++ nbL 4 (0 : Int).toNat) ++ rv.lay) → Calls Tryz.prog 23 #[.pointer (some ⟨p, 0, none⟩), .int .i64 ra] w (LPost p 4096 ((((([] ++ nbL 4 (rx : Int).toNat) ++ nbL 4 (1 : Int).toNat) ++ nbL 4 (0 : Int).toNat) ++ rv.lay) ++ nbL 4 (ra : Int).toNat) w)) := fun p w h => l_uint p ra 4096 _ w h (wa_) (by decide) (by simp only [List.length_append, nbL_len, List.length_nil]; omega)
  have HY : Hid ((⟨(((((([] ++ nbL 4 (rx : Int).toNat) ++ nbL 4 (1 : Int).toNat) ++ nbL 4 (0 : Int).toNat) ++ rv.lay) ++ nbL 4 (ra : Int).toNat) : List UInt8).toArray⟩ : ByteArray) ++ ⟨rr.toArray⟩ = ⟨(ReplyP.lay ⟨rx, false, rv, ra, 0, 0, rr, 0, 0⟩).toArray⟩) := by
    show (⟨(((((([] ++ nbL 4 (rx : Int).toNat) ++ nbL 4 (1 : Int).toNat) ++ nbL 4 (0 : Int).toNat) ++ rv.lay) ++ nbL 4 (ra : Int).toNat) : List UInt8).toArray⟩ : ByteArray) ++ ⟨(rr : List UInt8).toArray⟩ = _
    rw [bapp]
    unfold ReplyP.lay
    simp [List.append_assoc, hn]
  have s1 : (⟨(((((([] ++ nbL 4 (rx : Int).toNat) ++ nbL 4 (1 : Int).toNat) ++ nbL 4 (0 : Int).toNat) ++ rv.lay) ++ nbL 4 (ra : Int).toNat) : List UInt8).toArray⟩ : ByteArray).size ≤ 2000 := by
    rw [ba_size]
    simp only [List.length_append, nbL_len, List.length_nil]
    omega
  have s2 : (⟨rr.toArray⟩ : ByteArray).size ≤ 1000 := by rw [ba_size]; exact wr
  generalize hLAY : (⟨(ReplyP.lay ⟨rx, false, rv, ra, 0, 0, rr, 0, 0⟩).toArray⟩ : ByteArray) = LAY at *
  clear hLAY
  go_enter Tryz.func9, Tryz.ntmps9
  go_wp2_with fail
  refine (H1.out _).mono ?_
  rintro e w1 ⟨rfl, hB1⟩
  have HB1 : Hid (Below w.heap.size w w1) := HB.out.trans (hB1.mono HB.out.size)
  have HK1 := hid (HK.out.below hB1 HK.out.lt)
  have HN := hid (l_new w1)
  clear hB1 H1 HK a0 a1 a2 a3 a4 a5 a6 a7 a8 a9
  go_wp2_with fail
  refine HN.out.mono ?_
  rintro e w2 ⟨rfl, hR2, hB2, hz2⟩
  have HB2 : Hid (Below w.heap.size w w2) := HB1.out.trans (hB2.mono HB1.out.size)
  have HKs0 := hid (HK1.out.below hB2 HK1.out.lt)
  have HNE : Hid (w.heap.size < w1.heap.size) := HK1.out.lt
  have HRs := hid hR2
  have HOs0 : Hid (Only w1.heap.size w2 w2) := Only.refl _ _
  clear hR2 hB2 hz2 HN
  have HX0 := hid (HS0.out _ w2 HRs.out)
  have b0 := HKs0.out.cell 0 rfl
  have b1 := HKs0.out.cell 1 rfl
  have b2 := HKs0.out.cell 2 rfl
  have b3 := HKs0.out.cell 3 rfl
  have b4 := HKs0.out.cell 4 rfl
  have b5 := HKs0.out.cell 5 rfl
  have b6 := HKs0.out.cell 6 rfl
  have b7 := HKs0.out.cell 7 rfl
  have b8 := HKs0.out.cell 8 rfl
  have b9 := HKs0.out.cell 9 rfl
  clear HRs
  go_wp2_with fail
  refine HX0.out.mono ?_
  rintro e v1 ⟨rfl, hR, hO⟩
  have HRs := hid hR
  have HKs1 := hid (HKs0.out.only hO (by have := HNE.out; omega))
  have HOs1 := hid (HOs0.out.trans hO)
  clear hR hO HX0 HKs0 HOs0 b0 b1 b2 b3 b4 b5 b6 b7 b8 b9
  have HX1 := hid (HS1.out _ v1 HRs.out)
  have b0 := HKs1.out.cell 0 rfl
  have b1 := HKs1.out.cell 1 rfl
  have b2 := HKs1.out.cell 2 rfl
  have b3 := HKs1.out.cell 3 rfl
  have b4 := HKs1.out.cell 4 rfl
  have b5 := HKs1.out.cell 5 rfl
  have b6 := HKs1.out.cell 6 rfl
  have b7 := HKs1.out.cell 7 rfl
  have b8 := HKs1.out.cell 8 rfl
  have b9 := HKs1.out.cell 9 rfl
  clear HRs
  go_wp2_with fail
  refine HX1.out.mono ?_
  rintro e v2 ⟨rfl, hR, hO⟩
  have HRs := hid hR
  have HKs2 := hid (HKs1.out.only hO (by have := HNE.out; omega))
  have HOs2 := hid (HOs1.out.trans hO)
  clear hR hO HX1 HKs1 HOs1 b0 b1 b2 b3 b4 b5 b6 b7 b8 b9
  have HX2 := hid (HS2.out _ v2 HRs.out)
  have b0 := HKs2.out.cell 0 rfl
  have b1 := HKs2.out.cell 1 rfl
  have b2 := HKs2.out.cell 2 rfl
  have b3 := HKs2.out.cell 3 rfl
  have b4 := HKs2.out.cell 4 rfl
  have b5 := HKs2.out.cell 5 rfl
  have b6 := HKs2.out.cell 6 rfl
  have b7 := HKs2.out.cell 7 rfl
  have b8 := HKs2.out.cell 8 rfl
  have b9 := HKs2.out.cell 9 rfl
  clear HRs
  go_wp2_with fail
  refine HX2.out.mono ?_
  rintro e v3 ⟨rfl, hR, hO⟩
  have HRs := hid hR
  have HKs3 := hid (HKs2.out.only hO (by have := HNE.out; omega))
  have HOs3 := hid (HOs2.out.trans hO)
  clear hR hO HX2 HKs2 HOs2 b0 b1 b2 b3 b4 b5 b6 b7 b8 b9
  have HX3 := hid (HS3.out _ v3 HRs.out)
  have b0 := HKs3.out.cell 0 rfl
  have b1 := HKs3.out.cell 1 rfl
  have b2 := HKs3.out.cell 2 rfl
  have b3 := HKs3.out.cell 3 rfl
  have b4 := HKs3.out.cell 4 rfl
  have b5 := HKs3.out.cell 5 rfl
  have b6 := HKs3.out.cell 6 rfl
  have b7 := HKs3.out.cell 7 rfl
  have b8 := HKs3.out.cell 8 rfl
  have b9 := HKs3.out.cell 9 rfl
  clear HRs
  go_wp2_with fail
  refine HX3.out.mono ?_
  rintro e v4 ⟨rfl, hR, hO⟩
  have HRs := hid hR
  have HKs4 := hid (HKs3.out.only hO (by have := HNE.out; omega))
  have HOs4 := hid (HOs3.out.trans hO)
  clear hR hO HX3 HKs3 HOs3 b0 b1 b2 b3 b4 b5 b6 b7 b8 b9
  have HX4 := hid (HS4.out _ v4 HRs.out)
  have b0 := HKs4.out.cell 0 rfl
  have b1 := HKs4.out.cell 1 rfl
  have b2 := HKs4.out.cell 2 rfl
  have b3 := HKs4.out.cell 3 rfl
  have b4 := HKs4.out.cell 4 rfl
  have b5 := HKs4.out.cell 5 rfl
  have b6 := HKs4.out.cell 6 rfl
  have b7 := HKs4.out.cell 7 rfl
  have b8 := HKs4.out.cell 8 rfl
  have b9 := HKs4.out.cell 9 rfl
  clear HRs
  go_wp2_with fail
  refine HX4.out.mono ?_
  rintro e v5 ⟨rfl, hR, hO⟩
  have HRs := hid hR
  have HKs5 := hid (HKs4.out.only hO (by have := HNE.out; omega))
  have HOs5 := hid (HOs4.out.trans hO)
  clear hR hO HX4 HKs4 HOs4 b0 b1 b2 b3 b4 b5 b6 b7 b8 b9
  have HD := hid (l_done _ _ _ v5 HRs.out)
  have b0 := HKs5.out.cell 0 rfl
  have b1 := HKs5.out.cell 1 rfl
  have b2 := HKs5.out.cell 2 rfl
  have b3 := HKs5.out.cell 3 rfl
  have b4 := HKs5.out.cell 4 rfl
  have b5 := HKs5.out.cell 5 rfl
  have b6 := HKs5.out.cell 6 rfl
  have b7 := HKs5.out.cell 7 rfl
  have b8 := HKs5.out.cell 8 rfl
  have b9 := HKs5.out.cell 9 rfl
  go_wp2_with fail
  refine HD.out.mono ?_
  rintro e w9 ⟨rfl, hw9⟩
  have hw10 := hw9.symm
  clear hw9
  subst hw10
  have HBE : Hid (Below w.heap.size w v5) := HB2.out.trans ⟨HOs5.out.os, HOs5.out.tape, HOs5.out.output, HOs5.out.size, fun k hk => HOs5.out.block k (by have := HB2.out.size; omega) (by have := HNE.out; omega)⟩
  have hY := HY.out
  clear HY HD HRs
  generalize (⟨(((((([] ++ nbL 4 (rx : Int).toNat) ++ nbL 4 (1 : Int).toNat) ++ nbL 4 (0 : Int).toNat) ++ rv.lay) ++ nbL 4 (ra : Int).toNat) : List UInt8).toArray⟩ : ByteArray) = S3 at *
  generalize (⟨rr.toArray⟩ : ByteArray) = AR at *
  go_wp2
  refine bodyPost_ret (v := .tuple #[.string LAY, .int .i64 0]) (by simp [results, Tryz.results9, go_sem]) rfl ⟨rfl, HBE.out⟩
end Go.Proofs.YtebjheaohichpaaGreatDoor
namespace Go.Proofs.YtebjheaohichpaaGreatDoor
open Go.RowKit
set_option maxRecDepth 4000 in
theorem dprintReply_bad (r : ReplyP) (w : World) (hm : ¬ r.may) (hl : r.results.length ≤ 140737488355328) :
    Calls Tryz.prog 9 #[.agg (replyV r).toArray] w fun e w' => e = .returned (.tuple #[.string ⟨#[]⟩, .int .i64 120]) ∧ Below w.heap.size w w' := by
  have H1 := hid (fun w => dreplyMay_any r w hl)
  rw [decide_eq_false hm] at H1
  simp only [replyV] at H1 ⊢
  obtain ⟨wa, hwa⟩ : ∃ x, w.alloc (.cells #[.int .i64 r.xid, .bool r.denied, .int .i64 r.verf.flavor, .string ⟨r.verf.body.toArray⟩, .int .i64 r.accept, .int .i64 r.reject, .int .i64 r.why, .int .i64 r.low, .int .i64 r.high, .string ⟨r.results.toArray⟩] 27) = x := ⟨_, rfl⟩
  obtain ⟨hk, hB, hz⟩ := boxed w wa _ _ hwa
  have HB := hid hB
  have a0 := hk.cell 0 rfl
  have a1 := hk.cell 1 rfl
  have a2 := hk.cell 2 rfl
  have a3 := hk.cell 3 rfl
  have a4 := hk.cell 4 rfl
  have a5 := hk.cell 5 rfl
  have a6 := hk.cell 6 rfl
  have a7 := hk.cell 7 rfl
  have a8 := hk.cell 8 rfl
  have a9 := hk.cell 9 rfl
  clear hk hB hz hm hl
  go_enter Tryz.func9, Tryz.ntmps9
  go_wp2_with fail
  refine (H1.out _).mono ?_
  rintro e w1 ⟨rfl, hB1⟩
  have HB1 : Hid (Below w.heap.size w w1) := HB.out.trans (hB1.mono HB.out.size)
  clear hB1
  go_wp2
  refine bodyPost_ret (v := .tuple #[.string ⟨#[]⟩, .int .i64 120]) (by simp [results, Tryz.results9, go_sem]) rfl ⟨rfl, HB1.out⟩
theorem dprintReply_any (r : ReplyP) (w : World) (hl : r.results.length ≤ 140737488355328) :
    Calls Tryz.prog 9 #[.agg (replyV r).toArray] w fun e w' => e = .returned (.tuple #[.string ⟨(prP r).1.toArray⟩, .int .i64 (prP r).2]) ∧ Below w.heap.size w w' := by
  unfold prP prM
  by_cases hm : r.may
  · rw [if_pos hm]
    obtain ⟨rx, rd, rv, ra, rl, rh, rr, rj, rw_⟩ := r
    have hm0 := hm
    obtain ⟨h1, h2⟩ := hm
    cases rd
    · simp only [Bool.false_eq_true, if_false] at h2
      obtain ⟨hv, rfl, rfl, ha0, ha5, h7⟩ := h2
      rcases h7 with ⟨rfl, a1, rfl, rfl⟩ | ⟨rfl, a1, a2, rfl⟩ | ⟨a0, a1, rfl, rfl, rfl⟩
      · exact dpr_an rx 0 rv rr w hm0 h1 (by decide) hv a1.1 (by decide)
      · exact dpr_a2 rx rl rh rv w hm0 h1 a1 a2 hv
      · exact dpr_an rx ra rv [] w hm0 h1 ⟨ha0, by omega⟩ hv (Nat.zero_le _) a1
    · simp only [if_true] at h2
      obtain ⟨rfl, rfl, rfl, h5⟩ := h2
      rcases h5 with ⟨rfl, a1, a2, rfl⟩ | ⟨rfl, rfl, rfl, a3, a4⟩
      · exact dpr_d0 rx rl rh w hm0 h1 a1 a2
      · exact dpr_d1 rx rw_ w hm0 h1 ⟨a3, by omega⟩
  · rw [if_neg hm]; exact dprintReply_bad r w hm hl
end Go.Proofs.YtebjheaohichpaaGreatDoor
