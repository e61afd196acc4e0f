/- The document prints a call. -/
import Derived.Test.YtebjheaohichpaaGreatDoorQd
import Derived.Test.YtebjheaohichpaaGreatDoorQe
namespace Go.Proofs.YtebjheaohichpaaGreatDoor
open Go.RowKit
theorem empty_dec (l : List UInt8) : (⟨l.toArray⟩ : ByteArray).toList.isEmpty = decide (l = []) := by
  rw [ba_toList]
  cases l <;> rfl
theorem dreplyMay_any (r : ReplyP) (w : World) (hl : r.results.length ≤ 140737488355328) :
    Calls Tryz.prog 29 #[.agg (replyV r).toArray] w fun e w' => e = .returned (.bool (decide r.may)) ∧ Below w.heap.size w w' := by
  by_cases hd : r.denied = true
  · rw [den_dec r hd]
    have hV : ∀ w, (binOp .neq 23 (.agg #[.int .i64 r.verf.flavor, .string ⟨r.verf.body.toArray⟩]) (.agg #[.int .i64 0, .string ⟨#[]⟩])).run Tryz.prog w = .ok (.bool (!(r.verf.flavor == 0 && decide (r.verf.body = [])))) w := fun w => by
      have := neqA w r.verf.flavor 0 ⟨r.verf.body.toArray⟩ ⟨#[]⟩
      rw [nil_dec] at this
      exact this
    have := dreply_den r.xid r.verf.flavor r.accept r.reject r.why r.low r.high ⟨r.verf.body.toArray⟩ ⟨r.results.toArray⟩ _ _ _ _ _ w (disWord_any r.xid) (disWord_any r.low) (disWord_any r.high) hV (empty_dec r.results)
    unfold replyV
    rw [hd]
    exact this
  · have hd : r.denied = false := by simpa using hd
    rw [acc_dec r hd]
    have := dreply_acc r.xid r.verf.flavor r.accept r.reject r.why r.low r.high ⟨r.verf.body.toArray⟩ ⟨r.results.toArray⟩ _ _ _ _ _ _ w (disWord_any r.xid) (disWord_any r.low) (disWord_any r.high) (dauthMay_any r.verf) (fun w => dplain_any r.results w hl) (empty_dec r.results)
    unfold replyV
    rw [hd]
    exact this
theorem layGs_snoc (gs : List Int) (k : Nat) (h : k < gs.length) : layGs (gs.take (k + 1)) = layGs (gs.take k) ++ nbL 4 (gs.getD k 0).toNat := by
  induction gs generalizing k with
  | nil => simp at h
  | cons g gs ih =>
    cases k with
    | zero => simp [layGs]
    | succ k =>
      simp only [List.take_succ_cons, layGs, List.append_assoc]
      rw [ih k (by simpa using h)]
      simp
theorem ints_at (gs : List Int) (j : Nat) (h : j < gs.length) : (gs.map fun g => Value.int .i64 g)[j]? = some (.int .i64 (gs.getD j 0)) := by
  rw [List.getElem?_map, List.getElem?_eq_getElem h, List.getD_eq_getElem?_getD, List.getElem?_eq_getElem h]
  rfl
theorem getD_all {gs : List Int} (h : ∀ g ∈ gs, isW g) (j : Nat) (hj : j < gs.length) : isW (gs.getD j 0) := by
  rw [List.getD_eq_getElem?_getD, List.getElem?_eq_getElem hj]
  exact h _ (List.getElem_mem hj)
def gsC (c : CallP) : List Int := [c.xid, 0, c.rpc, c.prog, c.vers, c.proc]
theorem gsC_lay (c : CallP) : layGs (gsC c) ++ c.cred.lay ++ c.verf.lay ++ c.args = c.lay := by
  unfold gsC CallP.lay
  simp only [layGs, List.append_assoc, List.nil_append]
  rfl
set_option maxRecDepth 4000 in
theorem dprintCall_bad (c : CallP) (w : World) (hm : ¬ c.may) (hl : c.args.length ≤ 140737488355328) :
    Calls Tryz.prog 7 #[.agg (callV c).toArray] w fun e w' => e = .returned (.tuple #[.string ⟨#[]⟩, .int .i64 120]) ∧ Below w.heap.size w w' := by
  have H1 := hid (fun w => dcallMay_any c w hl)
  rw [decide_eq_false hm] at H1
  simp only [callV] at H1 ⊢
  obtain ⟨wa, hwa⟩ : ∃ x, w.alloc (.cells #[.int .i64 c.xid, .int .i64 c.rpc, .int .i64 c.prog, .int .i64 c.vers, .int .i64 c.proc, .int .i64 c.cred.flavor, .string ⟨c.cred.body.toArray⟩, .int .i64 c.verf.flavor, .string ⟨c.verf.body.toArray⟩, .string ⟨c.args.toArray⟩] 25) = x := ⟨_, rfl⟩
  obtain ⟨hk, hB, hz⟩ := boxed w wa _ _ hwa
  have HB := hid hB
  have a0 := hk.cell 0 rfl
  have a1 := hk.cell 1 rfl
  have a2 := hk.cell 2 rfl
  have a3 := hk.cell 3 rfl
  have a4 := hk.cell 4 rfl
  have a5 := hk.cell 5 rfl
  have a6 := hk.cell 6 rfl
  have a7 := hk.cell 7 rfl
  have a8 := hk.cell 8 rfl
  have a9 := hk.cell 9 rfl
  clear hk hB hz hm hl
  go_enter Tryz.func7, Tryz.ntmps7
  go_wp2_with fail
  refine (H1.out _).mono ?_
  rintro e w1 ⟨rfl, hB1⟩
  have HB1 : Hid (Below w.heap.size w w1) := HB.out.trans (hB1.mono HB.out.size)
  clear hB1
  go_wp2
  refine bodyPost_ret (v := .tuple #[.string ⟨#[]⟩, .int .i64 120]) (by simp [results, Tryz.results7, go_sem]) rfl ⟨rfl, HB1.out⟩
set_option maxRecDepth 8000 in
set_option maxHeartbeats 4000000 in
theorem dprintCall_ok (c : CallP) (w : World) (hm : c.may) :
    Calls Tryz.prog 7 #[.agg (callV c).toArray] w fun e w' => e = .returned (.tuple #[.string ⟨c.lay.toArray⟩, .int .i64 0]) ∧ Below w.heap.size w w' := by
  have H1 := hid (fun w => dcallMay_any c w (Nat.le_trans hm.2.2.2.2.2.2.2.1 (by decide)))
  rw [decide_eq_true hm] at H1
  obtain ⟨gs, hgs⟩ : ∃ g, gsC c = g := ⟨_, rfl⟩
  have hg6 : gs.length = 6 := by rw [← hgs]; rfl
  have hgw : ∀ g ∈ gs, isW g := by
    rw [← hgs]
    intro g hg
    simp only [gsC, List.mem_cons, List.not_mem_nil, or_false] at hg
    rcases hg with rfl | rfl | rfl | rfl | rfl | rfl
    · exact hm.1
    · decide
    · rw [hm.2.1]; decide
    · exact hm.2.2.1
    · exact hm.2.2.2.1
    · exact hm.2.2.2.2.1
  have au1 := auth_len _ hm.2.2.2.2.2.1
  have au2 := auth_len _ hm.2.2.2.2.2.2.1
  have hmc := hm.2.2.2.2.2.1
  have hmv := hm.2.2.2.2.2.2.1
  have hpl := hm.2.2.2.2.2.2.2
  have hgl : (layGs gs).length = 24 := by rw [layGs_len, hg6]
  have HA1 : Hid (∀ p w, RL w p 4096 (layGs gs) → Calls Tryz.prog 24 #[.pointer (some ⟨p, 0, none⟩), .agg #[.int .i64 c.cred.flavor, .string ⟨c.cred.body.toArray⟩]] w (LPost p 4096 (layGs gs ++ c.cred.lay) w)) := fun p w h => dauth_any p c.cred 4096 _ w h hmc (by decide) (by omega)
  have HA2 : Hid (∀ p w, RL w p 4096 (layGs gs ++ c.cred.lay) → Calls Tryz.prog 24 #[.pointer (some ⟨p, 0, none⟩), .agg #[.int .i64 c.verf.flavor, .string ⟨c.verf.body.toArray⟩]] w (LPost p 4096 (layGs gs ++ c.cred.lay ++ c.verf.lay) w)) := fun p w h => dauth_any p c.verf 4096 _ w h hmv (by decide) (by rw [List.length_append]; omega)
  have HU : Hid (∀ p j w, j < 6 → RL w p 4096 (layGs (gs.take j)) → Calls Tryz.prog 23 #[.pointer (some ⟨p, 0, none⟩), .int .i64 (gs.getD j 0)] w (LPost p 4096 (layGs (gs.take (j + 1))) w)) := fun p j w hj h => by
    rw [layGs_snoc gs j (by omega)]
    exact l_uint p _ 4096 _ w h (getD_all hgw j (by omega)) (by decide) (by rw [layGs_len, List.length_take]; omega)
  have HY : Hid ((⟨(layGs gs ++ c.cred.lay ++ c.verf.lay).toArray⟩ : ByteArray) ++ ⟨c.args.toArray⟩ = ⟨c.lay.toArray⟩) := by
    show _ = _
    rw [bapp, ← hgs, gsC_lay]
  have s1 : (⟨(layGs gs ++ c.cred.lay ++ c.verf.lay).toArray⟩ : ByteArray).size ≤ 2000 := by
    rw [ba_size, List.length_append, List.length_append]; omega
  have s2 : (⟨c.args.toArray⟩ : ByteArray).size ≤ 1000 := by rw [ba_size]; exact hpl.1
  have HT6 : Hid (gs.take 6 = gs) := List.take_of_length_le (by omega)
  have HGV : Hid ((gs.map fun g => Value.int .i64 g) = [.int .i64 c.xid, .int .i64 0, .int .i64 c.rpc, .int .i64 c.prog, .int .i64 c.vers, .int .i64 c.proc]) := by rw [← hgs]; rfl
  have HG6 := hid hg6
  simp only [callV] at H1 ⊢
  obtain ⟨wa, hwa⟩ : ∃ x, w.alloc (.cells #[.int .i64 c.xid, .int .i64 c.rpc, .int .i64 c.prog, .int .i64 c.vers, .int .i64 c.proc, .int .i64 c.cred.flavor, .string ⟨c.cred.body.toArray⟩, .int .i64 c.verf.flavor, .string ⟨c.verf.body.toArray⟩, .string ⟨c.args.toArray⟩] 25) = x := ⟨_, rfl⟩
  obtain ⟨hk, hB, hz⟩ := boxed w wa _ _ hwa
  have HB := hid hB
  have HK := hid hk
  have a0 := hk.cell 0 rfl
  have a1 := hk.cell 1 rfl
  have a2 := hk.cell 2 rfl
  have a3 := hk.cell 3 rfl
  have a4 := hk.cell 4 rfl
  have a5 := hk.cell 5 rfl
  have a6 := hk.cell 6 rfl
  have a7 := hk.cell 7 rfl
  have a8 := hk.cell 8 rfl
  have a9 := hk.cell 9 rfl
  clear hk hB hz hm hgs hgw hg6 au1 au2 hmc hmv hpl hgl
  generalize hLAY : (⟨c.lay.toArray⟩ : ByteArray) = LAY at *
  clear hLAY
  go_enter Tryz.func7, Tryz.ntmps7
  go_wp2_with fail
  refine (H1.out _).mono ?_
  rintro e w1 ⟨rfl, hB1⟩
  have HB1 : Hid (Below w.heap.size w w1) := HB.out.trans (hB1.mono HB.out.size)
  have HK1 := hid (HK.out.below hB1 HK.out.lt)
  have HN := hid (l_new w1)
  clear hB1 H1 HK a0 a1 a2 a3 a4 a5 a6 a7 a8 a9
  go_wp2_with fail
  refine HN.out.mono ?_
  rintro e w2 ⟨rfl, hR2, hB2, hz2⟩
  have HB2 : Hid (Below w.heap.size w w2) := HB1.out.trans (hB2.mono HB1.out.size)
  have HK2 := hid (HK1.out.below hB2 HK1.out.lt)
  have b0 := HK2.out.cell 0 rfl
  have b1 := HK2.out.cell 1 rfl
  have b2 := HK2.out.cell 2 rfl
  have b3 := HK2.out.cell 3 rfl
  have b4 := HK2.out.cell 4 rfl
  obtain ⟨w3, hw3⟩ : ∃ x, w2.alloc (.cells #[.int .i64 c.xid, .int .i64 0, .int .i64 c.rpc, .int .i64 c.prog, .int .i64 c.vers, .int .i64 c.proc] 3) = x := ⟨_, rfl⟩
  obtain ⟨hk3, hB3, hz3⟩ := boxed w2 w3 _ _ hw3
  have HR3 := hid (RL.below hR2 hB3)
  have HK3 := hid (HK2.out.below hB3 HK2.out.lt)
  have HQ3 : Hid (Bk w3 w2.heap.size (gs.map fun g => Value.int .i64 g) 3) := by rw [HGV.out]; exact hk3
  have HB3 : Hid (Below w.heap.size w w3) := HB2.out.trans (hB3.mono HB2.out.size)
  have HNE : Hid (w.heap.size < w1.heap.size ∧ w1.heap.size < w2.heap.size) := ⟨HK1.out.lt, by omega⟩
  clear hR2 hB2 hz2 hk3 hB3 hz3 HN
  go_wp2_with fail
  go_loopw [7] (fun ix wr => ∃ j : Nat, ix = .int .i64 j ∧ j ≤ 6 ∧ Hid (RL wr w1.heap.size 4096 (layGs (gs.take j))) ∧ Hid (Only w1.heap.size w3 wr)) (fun ix _ => 200 - (intOf ix).toNat)
  case atStart => exact ⟨0, rfl, by omega, HR3, Only.refl _ _⟩
  case round =>
    obtain ⟨j, rfl, hj, HW, HO⟩ := hrel
    by_cases hlt : j < 6
    · have q0 := (HQ3.out.only HO.out (by have := HNE.out; omega)).cell j (ints_at gs j (by have := HG6.out; omega))
      have HU2 := hid (HU.out w1.heap.size j wr hlt HW.out)
      generalize gs.getD j 0 = G at *
      go_wp2_with fail
      refine HU2.out.mono ?_
      rintro e w6 ⟨rfl, h6, hO6⟩
      have HW6 := hid h6
      have HO6 := hid (HO.out.trans hO6)
      clear h6 hO6 HU2
      go_wp2
      go_roundw
      case rel => exact ⟨j + 1, by go_num, by omega, HW6, HO6⟩
      case measure => simp [intOf]; omega
    · obtain rfl : j = 6 := by omega
      have hW := HW.out
      rw [HT6.out] at hW
      have HK4 := hid (HK3.out.only HO.out (by have := HNE.out; omega))
      have b5 := HK4.out.cell 5 rfl
      have b6 := HK4.out.cell 6 rfl
      have HX1 := hid (HA1.out _ wr hW)
      clear hW
      go_wp2_with fail
      refine HX1.out.mono ?_
      rintro e w7 ⟨rfl, h7, hO7⟩
      have HO7 := hid (HO.out.trans hO7)
      have HK5 := hid (HK4.out.only hO7 (by have := HNE.out; omega))
      have HX2 := hid (HA2.out _ w7 h7)
      clear b5 b6 h7 hO7 HX1
      have b7 := HK5.out.cell 7 rfl
      have b8 := HK5.out.cell 8 rfl
      go_wp2_with fail
      refine HX2.out.mono ?_
      rintro e w8 ⟨rfl, h8, hO8⟩
      have HO8 := hid (HO7.out.trans hO8)
      have HK6 := hid (HK5.out.only hO8 (by have := HNE.out; omega))
      have HX3 := hid (l_done _ _ _ w8 h8)
      clear b7 b8 h8 hO8 HX2
      have b9 := HK6.out.cell 9 rfl
      go_wp2_with fail
      refine HX3.out.mono ?_
      rintro e w9 ⟨rfl, hw9⟩
      have hw10 := hw9.symm
      clear hw9
      subst hw10
      have HBE : Hid (Below w.heap.size w w8) := HB3.out.trans ⟨HO8.out.os, HO8.out.tape, HO8.out.output, HO8.out.size, fun k hk => HO8.out.block k (by have := HB3.out.size; omega) (by have := HNE.out; omega)⟩
      have hY := HY.out
      clear HY
      generalize (⟨(layGs gs ++ c.cred.lay ++ c.verf.lay).toArray⟩ : ByteArray) = S3 at *
      generalize (⟨c.args.toArray⟩ : ByteArray) = AR at *
      go_wp2
      refine bodyPost_ret (v := .tuple #[.string LAY, .int .i64 0]) (by simp [results, Tryz.results7, go_sem]) rfl ⟨rfl, HBE.out⟩
theorem dprintCall_any (c : CallP) (w : World) (hl : c.args.length ≤ 140737488355328) :
    Calls Tryz.prog 7 #[.agg (callV c).toArray] w fun e w' => e = .returned (.tuple #[.string ⟨(pcP c).1.toArray⟩, .int .i64 (pcP c).2]) ∧ Below w.heap.size w w' := by
  unfold pcP prM
  by_cases hm : c.may
  · rw [if_pos hm]; exact dprintCall_ok c w hm
  · rw [if_neg hm]; exact dprintCall_bad c w hm hl
end Go.Proofs.YtebjheaohichpaaGreatDoor
