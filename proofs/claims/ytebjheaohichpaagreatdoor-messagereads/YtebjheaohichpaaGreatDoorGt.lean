/- told told told: whatever the reply. -/
import Derived.Test.YtebjheaohichpaaGreatDoorGz
import Derived.Deep.CutBlock
import Derived.Deep.DeepCutAuto
import Derived.Test.YtebjheaohichpaaGreatDoorGs
namespace Go.Proofs.YtebjheaohichpaaGreatDoor
open Go.RowKit
set_option maxRecDepth 8000 in
set_option maxHeartbeats 4000000 in
theorem told_acc2 (rx ra rl rh rj rw_ vf : Int) (vb rr : List UInt8) (w : World) (h : Reply64 ⟨rx, false, ⟨vf, vb⟩, ra, rl, rh, rr, rj, rw_⟩) (hj : pickP ra 6 = 2) :
    Calls Tryz.prog 12 #[.agg #[.int .i64 rx, .bool false, .int .i64 vf, .string ⟨vb.toArray⟩, .int .i64 ra, .int .i64 rj, .int .i64 rw_, .int .i64 rl, .int .i64 rh, .string ⟨rr.toArray⟩]] w fun e w' => e = .returned (.agg (replyV (tolP ⟨rx, false, ⟨vf, vb⟩, ra, rl, rh, rr, rj, rw_⟩)).toArray) ∧ Below w.heap.size w w' := by
  obtain ⟨wa, hwa⟩ : ∃ x, w.alloc (.cells #[.int .i64 rx, .bool false, .int .i64 vf, .string ⟨vb.toArray⟩, .int .i64 ra, .int .i64 rj, .int .i64 rw_, .int .i64 rl, .int .i64 rh, .string ⟨rr.toArray⟩] 27) = x := ⟨_, rfl⟩
  obtain ⟨hk, hB, hz⟩ := boxed w wa _ _ hwa
  obtain ⟨wb, hwb⟩ : ∃ x, wa.alloc (.cells #[.int .i64 0, .bool false, .int .i64 0, .string ⟨#[]⟩, .int .i64 0, .int .i64 0, .int .i64 0, .int .i64 0, .int .i64 0, .string ⟨#[]⟩] 27) = x := ⟨_, rfl⟩
  obtain ⟨hk2, hB2, hz2⟩ := boxed wa wb _ _ hwb
  rw [hz] at hk2 hz2
  have hP : ∀ n, 1 ≤ n → n ≤ 9223372036854775807 → ∀ x, In64 x → ∀ w, Calls Tryz.prog 14 #[.int .i64 x, .int .i64 n] w fun e w' => e = .returned (.int .i64 (pickP x n)) ∧ w' = w := fun n n0 n1 x h1 w => pick_any x _ w h1.1 h1.2 n0 n1
  have HP0 := hid (hP 4294967296 (by decide) (by decide) rx h.xid)
  have HPL := hid (hP 4294967296 (by decide) (by decide) rl h.lo)
  have HPH := hid (hP 4294967296 (by decide) (by decide) rh h.hi)
  have HPA := hid (hP 6 (by decide) (by decide) ra h.ac)
  have HAU := hid (fun w => auth_any ⟨vf, vb⟩ w h.vf (Nat.le_trans h.vb (by decide)))
  have HFO := hid (fun w => four_any rr w (Nat.le_trans h.rs (by decide)))
  rw [hj] at HPA
  have hkd : Bk wb w.heap.size [.int .i64 rx, .bool false, .int .i64 vf, .string ⟨vb.toArray⟩, .int .i64 ra, .int .i64 rj, .int .i64 rw_, .int .i64 rl, .int .i64 rh, .string ⟨rr.toArray⟩] 27 := hk.below hB2 (by omega)
  unfold tolP
  simp only [Bool.false_eq_true, if_false]
  rw [if_neg (show ¬ pickP ra 6 = 0 by omega), if_pos hj]
  generalize pickP rx 4294967296 = XI at *
  generalize pickP rl 4294967296 = LO at *
  generalize pickP rh 4294967296 = HI at *
  generalize autP ⟨vf, vb⟩ = A at *
  generalize fourP rr = T at *
  have HTR : Hid (∀ k wx, wx = (wb.drewN k).alloc (.cells #[.int .i64 0, .bool false, .int .i64 0, .string ⟨#[]⟩, .int .i64 0, .int .i64 0, .int .i64 0, .int .i64 0, .int .i64 0, .string ⟨#[]⟩] 27) → Tri w wx w.heap.size [.int .i64 rx, .bool false, .int .i64 vf, .string ⟨vb.toArray⟩, .int .i64 ra, .int .i64 rj, .int .i64 rw_, .int .i64 rl, .int .i64 rh, .string ⟨rr.toArray⟩] [.int .i64 0, .bool false, .int .i64 0, .string ⟨#[]⟩, .int .i64 0, .int .i64 0, .int .i64 0, .int .i64 0, .int .i64 0, .string ⟨#[]⟩] ∧ wx.heap.size = w.heap.size + 1 + 1 + 1) := fun k wx hx => by
    have hBx : Below wb.heap.size wb wx := by rw [hx]; exact (below_drew (Below.refl _ _) k).trans (below_new (wb.drewN k) _)
    refine ⟨⟨hkd.below hBx (by omega), hk2.below hBx (by omega), ?_, (hB.trans (hB2.mono (by omega))).trans (hBx.mono (by omega))⟩, ?_⟩
    · have := Bk.new (wb.drewN k) [.int .i64 0, .bool false, .int .i64 0, .string ⟨#[]⟩, .int .i64 0, .int .i64 0, .int .i64 0, .int .i64 0, .int .i64 0, .string ⟨#[]⟩] 27
      rw [← hx] at this
      rwa [show (wb.drewN k).heap.size = w.heap.size + 1 + 1 from hz2] at this
    · rw [hx]
      simp [hz2]
  have a0 := hkd.cell 0 rfl
  have a1 := hkd.cell 1 rfl
  obtain ⟨wx, hwx⟩ : ∃ x, (wb.drew).alloc (.cells #[.int .i64 0, .bool false, .int .i64 0, .string ⟨#[]⟩, .int .i64 0, .int .i64 0, .int .i64 0, .int .i64 0, .int .i64 0, .string ⟨#[]⟩] 27) = x := ⟨_, rfl⟩
  obtain ⟨hT, hzx⟩ := HTR.out 1 wx hwx.symm
  obtain ⟨hx1, hx2, hx3, _⟩ := id hT
  have c0 := hx1.cell 0 rfl
  have c1 := hx1.cell 1 rfl
  have x0 := hx3.cell 0 rfl
  have g0 := hx3.frozen 0
  have x1 := hx3.cell 1 rfl
  have g1 := hx3.frozen 1
  have x2 := hx3.cell 2 rfl
  have g2 := hx3.frozen 2
  have x3 := hx3.cell 3 rfl
  have g3 := hx3.frozen 3
  have x4 := hx3.cell 4 rfl
  have g4 := hx3.frozen 4
  have x5 := hx3.cell 5 rfl
  have g5 := hx3.frozen 5
  have x6 := hx3.cell 6 rfl
  have g6 := hx3.frozen 6
  have x7 := hx3.cell 7 rfl
  have g7 := hx3.frozen 7
  have x8 := hx3.cell 8 rfl
  have g8 := hx3.frozen 8
  have x9 := hx3.cell 9 rfl
  have g9 := hx3.frozen 9
  have HT := hid hT
  have hT2 : Tri w ((((((((((wx.setCell ⟨w.heap.size + 1 + 1, 0, none⟩ (.int .i64 XI)).setCell ⟨w.heap.size + 1 + 1, 1, none⟩ (.bool false)).setCell ⟨w.heap.size + 1 + 1, 2, none⟩ (.int .i64 0)).setCell ⟨w.heap.size + 1 + 1, 3, none⟩ (.string ⟨#[]⟩)).setCell ⟨w.heap.size + 1 + 1, 4, none⟩ (.int .i64 0)).setCell ⟨w.heap.size + 1 + 1, 5, none⟩ (.int .i64 0)).setCell ⟨w.heap.size + 1 + 1, 6, none⟩ (.int .i64 0)).setCell ⟨w.heap.size + 1 + 1, 7, none⟩ (.int .i64 0)).setCell ⟨w.heap.size + 1 + 1, 8, none⟩ (.int .i64 0)).setCell ⟨w.heap.size + 1 + 1, 9, none⟩ (.string ⟨#[]⟩)) w.heap.size [.int .i64 rx, .bool false, .int .i64 vf, .string ⟨vb.toArray⟩, .int .i64 ra, .int .i64 rj, .int .i64 rw_, .int .i64 rl, .int .i64 rh, .string ⟨rr.toArray⟩] [.int .i64 XI, .bool false, .int .i64 0, .string ⟨#[]⟩, .int .i64 0, .int .i64 0, .int .i64 0, .int .i64 0, .int .i64 0, .string ⟨#[]⟩] := (((((((((hT.set 0 (.int .i64 XI)).set 1 (.bool false)).set 2 (.int .i64 0)).set 3 (.string ⟨#[]⟩)).set 4 (.int .i64 0)).set 5 (.int .i64 0)).set 6 (.int .i64 0)).set 7 (.int .i64 0)).set 8 (.int .i64 0)).set 9 (.string ⟨#[]⟩)
  have HT2 := hid hT2
  clear hk hk2 hB hB2 hkd hP h hx1 hx2 hx3 hT hT2 HTR
  have hza := hz
  clear hz
  go_enter Tryz.func12, Tryz.ntmps12
  go_wp2_with fail
  go_cut [3] from 3 (fun v wy => v = .pointer (some ⟨w.heap.size + 1 + 1, 0, none⟩) ∧ Hid (Tri w wy w.heap.size [.int .i64 rx, .bool false, .int .i64 vf, .string ⟨vb.toArray⟩, .int .i64 ra, .int .i64 rj, .int .i64 rw_, .int .i64 rl, .int .i64 rh, .string ⟨rr.toArray⟩] [.int .i64 XI, .bool false, .int .i64 0, .string ⟨#[]⟩, .int .i64 0, .int .i64 0, .int .i64 0, .int .i64 0, .int .i64 0, .string ⟨#[]⟩]))
  case first =>
    go_region_with (first | (go_at_call 14; refine (HP0.out _).mono ?_; rintro e w9 ⟨rfl, hw⟩; rw [hw]; clear hw))
    all_goals (
      go_wp2_with fail
      go_meet
      exact ⟨rfl, HT2⟩)
  case rest =>
    obtain ⟨hv, HX⟩ := hcut
    subst hv
    clear HT HT2 hwx c0 c1 x0 x1 x2 x3 x4 x5 x6 x7 x8 x9 g0 g1 g2 g3 g4 g5 g6 g7 g8 g9 hwa hwb
    obtain ⟨ha, hr, hx, _⟩ := id HX.out
    have a0 := ha.cell 0 rfl
    have a1 := ha.cell 1 rfl
    have a2 := ha.cell 2 rfl
    have a3 := ha.cell 3 rfl
    have a4 := ha.cell 4 rfl
    have a5 := ha.cell 5 rfl
    have a6 := ha.cell 6 rfl
    have a7 := ha.cell 7 rfl
    have a8 := ha.cell 8 rfl
    have a9 := ha.cell 9 rfl
    have x0 := hx.cell 0 rfl
    have g0 := hx.frozen 0
    have x1 := hx.cell 1 rfl
    have g1 := hx.frozen 1
    have x2 := hx.cell 2 rfl
    have g2 := hx.frozen 2
    have x3 := hx.cell 3 rfl
    have g3 := hx.frozen 3
    have x4 := hx.cell 4 rfl
    have g4 := hx.frozen 4
    have x5 := hx.cell 5 rfl
    have g5 := hx.frozen 5
    have x6 := hx.cell 6 rfl
    have g6 := hx.frozen 6
    have x7 := hx.cell 7 rfl
    have g7 := hx.frozen 7
    have x8 := hx.cell 8 rfl
    have g8 := hx.frozen 8
    have x9 := hx.cell 9 rfl
    have g9 := hx.frozen 9
    clear ha hr hx
    go_wp2_with fail
    refine (HPL.out _).mono ?_
    rintro e w9 ⟨rfl, hw⟩
    have hw2 := hw.symm
    clear hw
    subst hw2
    go_wp2_with fail
    refine (HPH.out _).mono ?_
    rintro e w9 ⟨rfl, hw⟩
    have hw2 := hw.symm
    clear hw
    subst hw2
    go_wp2_with fail
    refine (HAU.out _).mono ?_
    rintro e wv ⟨rfl, hBn⟩
    have Hwv : Hid (Tri w wv w.heap.size [.int .i64 rx, .bool false, .int .i64 vf, .string ⟨vb.toArray⟩, .int .i64 ra, .int .i64 rj, .int .i64 rw_, .int .i64 rl, .int .i64 rh, .string ⟨rr.toArray⟩] [.int .i64 XI, .bool false, .int .i64 0, .string ⟨#[]⟩, .int .i64 0, .int .i64 0, .int .i64 0, .int .i64 0, .int .i64 0, .string ⟨#[]⟩]) := HX.out.below hBn
    clear hBn
    obtain ⟨ha, hr, hx, _⟩ := id Hwv.out
    have a0 := ha.cell 0 rfl
    have a1 := ha.cell 1 rfl
    have a2 := ha.cell 2 rfl
    have a3 := ha.cell 3 rfl
    have a4 := ha.cell 4 rfl
    have a5 := ha.cell 5 rfl
    have a6 := ha.cell 6 rfl
    have a7 := ha.cell 7 rfl
    have a8 := ha.cell 8 rfl
    have a9 := ha.cell 9 rfl
    have x0 := hx.cell 0 rfl
    have g0 := hx.frozen 0
    have x1 := hx.cell 1 rfl
    have g1 := hx.frozen 1
    have x2 := hx.cell 2 rfl
    have g2 := hx.frozen 2
    have x3 := hx.cell 3 rfl
    have g3 := hx.frozen 3
    have x4 := hx.cell 4 rfl
    have g4 := hx.frozen 4
    have x5 := hx.cell 5 rfl
    have g5 := hx.frozen 5
    have x6 := hx.cell 6 rfl
    have g6 := hx.frozen 6
    have x7 := hx.cell 7 rfl
    have g7 := hx.frozen 7
    have x8 := hx.cell 8 rfl
    have g8 := hx.frozen 8
    have x9 := hx.cell 9 rfl
    have g9 := hx.frozen 9
    clear ha hr hx
    obtain ⟨wd, hwd⟩ : ∃ x, wv.setCell ⟨w.heap.size + 1 + 1, 2, none⟩ (.int .i64 A.flavor) = x := ⟨_, rfl⟩
    have Hwd : Hid (Tri w wd w.heap.size [.int .i64 rx, .bool false, .int .i64 vf, .string ⟨vb.toArray⟩, .int .i64 ra, .int .i64 rj, .int .i64 rw_, .int .i64 rl, .int .i64 rh, .string ⟨rr.toArray⟩] [.int .i64 XI, .bool false, .int .i64 A.flavor, .string ⟨#[]⟩, .int .i64 0, .int .i64 0, .int .i64 0, .int .i64 0, .int .i64 0, .string ⟨#[]⟩]) := by rw [← hwd]; exact Hwv.out.set 2 _
    obtain ⟨ha, hr, hx, _⟩ := id Hwd.out
    have a0 := ha.cell 0 rfl
    have a1 := ha.cell 1 rfl
    have a2 := ha.cell 2 rfl
    have a3 := ha.cell 3 rfl
    have a4 := ha.cell 4 rfl
    have a5 := ha.cell 5 rfl
    have a6 := ha.cell 6 rfl
    have a7 := ha.cell 7 rfl
    have a8 := ha.cell 8 rfl
    have a9 := ha.cell 9 rfl
    have x0 := hx.cell 0 rfl
    have g0 := hx.frozen 0
    have x1 := hx.cell 1 rfl
    have g1 := hx.frozen 1
    have x2 := hx.cell 2 rfl
    have g2 := hx.frozen 2
    have x3 := hx.cell 3 rfl
    have g3 := hx.frozen 3
    have x4 := hx.cell 4 rfl
    have g4 := hx.frozen 4
    have x5 := hx.cell 5 rfl
    have g5 := hx.frozen 5
    have x6 := hx.cell 6 rfl
    have g6 := hx.frozen 6
    have x7 := hx.cell 7 rfl
    have g7 := hx.frozen 7
    have x8 := hx.cell 8 rfl
    have g8 := hx.frozen 8
    have x9 := hx.cell 9 rfl
    have g9 := hx.frozen 9
    clear ha hr hx
    obtain ⟨we, hwe⟩ : ∃ x, wd.setCell ⟨w.heap.size + 1 + 1, 3, none⟩ (.string ⟨A.body.toArray⟩) = x := ⟨_, rfl⟩
    have Hwe : Hid (Tri w we w.heap.size [.int .i64 rx, .bool false, .int .i64 vf, .string ⟨vb.toArray⟩, .int .i64 ra, .int .i64 rj, .int .i64 rw_, .int .i64 rl, .int .i64 rh, .string ⟨rr.toArray⟩] [.int .i64 XI, .bool false, .int .i64 A.flavor, .string ⟨A.body.toArray⟩, .int .i64 0, .int .i64 0, .int .i64 0, .int .i64 0, .int .i64 0, .string ⟨#[]⟩]) := by rw [← hwe]; exact Hwd.out.set 3 _
    obtain ⟨ha, hr, hx, _⟩ := id Hwe.out
    have a0 := ha.cell 0 rfl
    have a1 := ha.cell 1 rfl
    have a2 := ha.cell 2 rfl
    have a3 := ha.cell 3 rfl
    have a4 := ha.cell 4 rfl
    have a5 := ha.cell 5 rfl
    have a6 := ha.cell 6 rfl
    have a7 := ha.cell 7 rfl
    have a8 := ha.cell 8 rfl
    have a9 := ha.cell 9 rfl
    have x0 := hx.cell 0 rfl
    have g0 := hx.frozen 0
    have x1 := hx.cell 1 rfl
    have g1 := hx.frozen 1
    have x2 := hx.cell 2 rfl
    have g2 := hx.frozen 2
    have x3 := hx.cell 3 rfl
    have g3 := hx.frozen 3
    have x4 := hx.cell 4 rfl
    have g4 := hx.frozen 4
    have x5 := hx.cell 5 rfl
    have g5 := hx.frozen 5
    have x6 := hx.cell 6 rfl
    have g6 := hx.frozen 6
    have x7 := hx.cell 7 rfl
    have g7 := hx.frozen 7
    have x8 := hx.cell 8 rfl
    have g8 := hx.frozen 8
    have x9 := hx.cell 9 rfl
    have g9 := hx.frozen 9
    clear ha hr hx
    go_wp2_with fail
    refine (HPA.out _).mono ?_
    rintro e w9 ⟨rfl, hw⟩
    have hw2 := hw.symm
    clear hw
    subst hw2
    obtain ⟨wf, hwf⟩ : ∃ x, we.setCell ⟨w.heap.size + 1 + 1, 4, none⟩ (.int .i64 2) = x := ⟨_, rfl⟩
    have Hwf : Hid (Tri w wf w.heap.size [.int .i64 rx, .bool false, .int .i64 vf, .string ⟨vb.toArray⟩, .int .i64 ra, .int .i64 rj, .int .i64 rw_, .int .i64 rl, .int .i64 rh, .string ⟨rr.toArray⟩] [.int .i64 XI, .bool false, .int .i64 A.flavor, .string ⟨A.body.toArray⟩, .int .i64 2, .int .i64 0, .int .i64 0, .int .i64 0, .int .i64 0, .string ⟨#[]⟩]) := by rw [← hwf]; exact Hwe.out.set 4 _
    obtain ⟨ha, hr, hx, _⟩ := id Hwf.out
    have a0 := ha.cell 0 rfl
    have a1 := ha.cell 1 rfl
    have a2 := ha.cell 2 rfl
    have a3 := ha.cell 3 rfl
    have a4 := ha.cell 4 rfl
    have a5 := ha.cell 5 rfl
    have a6 := ha.cell 6 rfl
    have a7 := ha.cell 7 rfl
    have a8 := ha.cell 8 rfl
    have a9 := ha.cell 9 rfl
    have x0 := hx.cell 0 rfl
    have g0 := hx.frozen 0
    have x1 := hx.cell 1 rfl
    have g1 := hx.frozen 1
    have x2 := hx.cell 2 rfl
    have g2 := hx.frozen 2
    have x3 := hx.cell 3 rfl
    have g3 := hx.frozen 3
    have x4 := hx.cell 4 rfl
    have g4 := hx.frozen 4
    have x5 := hx.cell 5 rfl
    have g5 := hx.frozen 5
    have x6 := hx.cell 6 rfl
    have g6 := hx.frozen 6
    have x7 := hx.cell 7 rfl
    have g7 := hx.frozen 7
    have x8 := hx.cell 8 rfl
    have g8 := hx.frozen 8
    have x9 := hx.cell 9 rfl
    have g9 := hx.frozen 9
    clear ha hr hx
    obtain ⟨wg, hwg⟩ : ∃ x, wf.setCell ⟨w.heap.size + 1 + 1, 7, none⟩ (.int .i64 LO) = x := ⟨_, rfl⟩
    have Hwg : Hid (Tri w wg w.heap.size [.int .i64 rx, .bool false, .int .i64 vf, .string ⟨vb.toArray⟩, .int .i64 ra, .int .i64 rj, .int .i64 rw_, .int .i64 rl, .int .i64 rh, .string ⟨rr.toArray⟩] [.int .i64 XI, .bool false, .int .i64 A.flavor, .string ⟨A.body.toArray⟩, .int .i64 2, .int .i64 0, .int .i64 0, .int .i64 LO, .int .i64 0, .string ⟨#[]⟩]) := by rw [← hwg]; exact Hwf.out.set 7 _
    obtain ⟨ha, hr, hx, _⟩ := id Hwg.out
    have a0 := ha.cell 0 rfl
    have a1 := ha.cell 1 rfl
    have a2 := ha.cell 2 rfl
    have a3 := ha.cell 3 rfl
    have a4 := ha.cell 4 rfl
    have a5 := ha.cell 5 rfl
    have a6 := ha.cell 6 rfl
    have a7 := ha.cell 7 rfl
    have a8 := ha.cell 8 rfl
    have a9 := ha.cell 9 rfl
    have x0 := hx.cell 0 rfl
    have g0 := hx.frozen 0
    have x1 := hx.cell 1 rfl
    have g1 := hx.frozen 1
    have x2 := hx.cell 2 rfl
    have g2 := hx.frozen 2
    have x3 := hx.cell 3 rfl
    have g3 := hx.frozen 3
    have x4 := hx.cell 4 rfl
    have g4 := hx.frozen 4
    have x5 := hx.cell 5 rfl
    have g5 := hx.frozen 5
    have x6 := hx.cell 6 rfl
    have g6 := hx.frozen 6
    have x7 := hx.cell 7 rfl
    have g7 := hx.frozen 7
    have x8 := hx.cell 8 rfl
    have g8 := hx.frozen 8
    have x9 := hx.cell 9 rfl
    have g9 := hx.frozen 9
    clear ha hr hx
    obtain ⟨wh, hwh⟩ : ∃ x, wg.setCell ⟨w.heap.size + 1 + 1, 8, none⟩ (.int .i64 HI) = x := ⟨_, rfl⟩
    have Hwh : Hid (Tri w wh w.heap.size [.int .i64 rx, .bool false, .int .i64 vf, .string ⟨vb.toArray⟩, .int .i64 ra, .int .i64 rj, .int .i64 rw_, .int .i64 rl, .int .i64 rh, .string ⟨rr.toArray⟩] [.int .i64 XI, .bool false, .int .i64 A.flavor, .string ⟨A.body.toArray⟩, .int .i64 2, .int .i64 0, .int .i64 0, .int .i64 LO, .int .i64 HI, .string ⟨#[]⟩]) := by rw [← hwh]; exact Hwg.out.set 8 _
    obtain ⟨ha, hr, hx, _⟩ := id Hwh.out
    have a0 := ha.cell 0 rfl
    have a1 := ha.cell 1 rfl
    have a2 := ha.cell 2 rfl
    have a3 := ha.cell 3 rfl
    have a4 := ha.cell 4 rfl
    have a5 := ha.cell 5 rfl
    have a6 := ha.cell 6 rfl
    have a7 := ha.cell 7 rfl
    have a8 := ha.cell 8 rfl
    have a9 := ha.cell 9 rfl
    have x0 := hx.cell 0 rfl
    have g0 := hx.frozen 0
    have x1 := hx.cell 1 rfl
    have g1 := hx.frozen 1
    have x2 := hx.cell 2 rfl
    have g2 := hx.frozen 2
    have x3 := hx.cell 3 rfl
    have g3 := hx.frozen 3
    have x4 := hx.cell 4 rfl
    have g4 := hx.frozen 4
    have x5 := hx.cell 5 rfl
    have g5 := hx.frozen 5
    have x6 := hx.cell 6 rfl
    have g6 := hx.frozen 6
    have x7 := hx.cell 7 rfl
    have g7 := hx.frozen 7
    have x8 := hx.cell 8 rfl
    have g8 := hx.frozen 8
    have x9 := hx.cell 9 rfl
    have g9 := hx.frozen 9
    clear ha hr hx
    have hr := Hwh.out.2.1
    have k0 := hr.cell 0 rfl
    have f0 := hr.frozen 0
    have k1 := hr.cell 1 rfl
    have f1 := hr.frozen 1
    have k2 := hr.cell 2 rfl
    have f2 := hr.frozen 2
    have k3 := hr.cell 3 rfl
    have f3 := hr.frozen 3
    have k4 := hr.cell 4 rfl
    have f4 := hr.frozen 4
    have k5 := hr.cell 5 rfl
    have f5 := hr.frozen 5
    have k6 := hr.cell 6 rfl
    have f6 := hr.frozen 6
    have k7 := hr.cell 7 rfl
    have f7 := hr.frozen 7
    have k8 := hr.cell 8 rfl
    have f8 := hr.frozen 8
    have k9 := hr.cell 9 rfl
    have f9 := hr.frozen 9
    have HZ9 := hr.set10 (.int .i64 XI) (.bool false) (.int .i64 A.flavor) (.string ⟨A.body.toArray⟩) (.int .i64 2) (.int .i64 0) (.int .i64 0) (.int .i64 LO) (.int .i64 HI) (.string ⟨#[]⟩)
    have q0 := HZ9.cell 0 rfl
    have q1 := HZ9.cell 1 rfl
    have q2 := HZ9.cell 2 rfl
    have q3 := HZ9.cell 3 rfl
    have q4 := HZ9.cell 4 rfl
    have q5 := HZ9.cell 5 rfl
    have q6 := HZ9.cell 6 rfl
    have q7 := HZ9.cell 7 rfl
    have q8 := HZ9.cell 8 rfl
    have q9 := HZ9.cell 9 rfl
    have HB9 := hid (below_set10 (b := w.heap.size + 1) Hwh.out.2.2.2 (by omega) (.int .i64 XI) (.bool false) (.int .i64 A.flavor) (.string ⟨A.body.toArray⟩) (.int .i64 2) (.int .i64 0) (.int .i64 0) (.int .i64 LO) (.int .i64 HI) (.string ⟨#[]⟩))
    clear HZ9 hr
    go_wp2
    refine bodyPost_ret (v := .agg #[.int .i64 XI, .bool false, .int .i64 A.flavor, .string ⟨A.body.toArray⟩, .int .i64 2, .int .i64 0, .int .i64 0, .int .i64 LO, .int .i64 HI, .string ⟨#[]⟩]) (by simp [results, Tryz.results12, go_sem, q0, q1, q2, q3, q4, q5, q6, q7, q8, q9]) rfl ⟨rfl, HB9.out⟩
end Go.Proofs.YtebjheaohichpaaGreatDoor
namespace Go.Proofs.YtebjheaohichpaaGreatDoor
open Go.RowKit
set_option maxRecDepth 8000 in
set_option maxHeartbeats 4000000 in
theorem told_accn (rx ra rl rh rj rw_ vf : Int) (vb rr : List UInt8) (w : World) (h : Reply64 ⟨rx, false, ⟨vf, vb⟩, ra, rl, rh, rr, rj, rw_⟩) (hj : pickP ra 6 ≠ 0 ∧ pickP ra 6 ≠ 2) :
    Calls Tryz.prog 12 #[.agg #[.int .i64 rx, .bool false, .int .i64 vf, .string ⟨vb.toArray⟩, .int .i64 ra, .int .i64 rj, .int .i64 rw_, .int .i64 rl, .int .i64 rh, .string ⟨rr.toArray⟩]] w fun e w' => e = .returned (.agg (replyV (tolP ⟨rx, false, ⟨vf, vb⟩, ra, rl, rh, rr, rj, rw_⟩)).toArray) ∧ Below w.heap.size w w' := by
  obtain ⟨wa, hwa⟩ : ∃ x, w.alloc (.cells #[.int .i64 rx, .bool false, .int .i64 vf, .string ⟨vb.toArray⟩, .int .i64 ra, .int .i64 rj, .int .i64 rw_, .int .i64 rl, .int .i64 rh, .string ⟨rr.toArray⟩] 27) = x := ⟨_, rfl⟩
  obtain ⟨hk, hB, hz⟩ := boxed w wa _ _ hwa
  obtain ⟨wb, hwb⟩ : ∃ x, wa.alloc (.cells #[.int .i64 0, .bool false, .int .i64 0, .string ⟨#[]⟩, .int .i64 0, .int .i64 0, .int .i64 0, .int .i64 0, .int .i64 0, .string ⟨#[]⟩] 27) = x := ⟨_, rfl⟩
  obtain ⟨hk2, hB2, hz2⟩ := boxed wa wb _ _ hwb
  rw [hz] at hk2 hz2
  have hP : ∀ n, 1 ≤ n → n ≤ 9223372036854775807 → ∀ x, In64 x → ∀ w, Calls Tryz.prog 14 #[.int .i64 x, .int .i64 n] w fun e w' => e = .returned (.int .i64 (pickP x n)) ∧ w' = w := fun n n0 n1 x h1 w => pick_any x _ w h1.1 h1.2 n0 n1
  have HP0 := hid (hP 4294967296 (by decide) (by decide) rx h.xid)
  have HPL := hid (hP 4294967296 (by decide) (by decide) rl h.lo)
  have HPH := hid (hP 4294967296 (by decide) (by decide) rh h.hi)
  have HPA := hid (hP 6 (by decide) (by decide) ra h.ac)
  have HAU := hid (fun w => auth_any ⟨vf, vb⟩ w h.vf (Nat.le_trans h.vb (by decide)))
  have HFO := hid (fun w => four_any rr w (Nat.le_trans h.rs (by decide)))
  have hkd : Bk wb w.heap.size [.int .i64 rx, .bool false, .int .i64 vf, .string ⟨vb.toArray⟩, .int .i64 ra, .int .i64 rj, .int .i64 rw_, .int .i64 rl, .int .i64 rh, .string ⟨rr.toArray⟩] 27 := hk.below hB2 (by omega)
  unfold tolP
  simp only [Bool.false_eq_true, if_false]
  rw [if_neg hj.1, if_neg hj.2]
  have e0 : (pickP ra 6 == 0) = false := beq_eq_false_iff_ne.2 hj.1
  have e2 : (pickP ra 6 == 2) = false := beq_eq_false_iff_ne.2 hj.2
  generalize pickP rx 4294967296 = XI at *
  generalize pickP rl 4294967296 = LO at *
  generalize pickP rh 4294967296 = HI at *
  generalize autP ⟨vf, vb⟩ = A at *
  generalize fourP rr = T at *
  generalize pickP ra 6 = AC at *
  have HTR : Hid (∀ k wx, wx = (wb.drewN k).alloc (.cells #[.int .i64 0, .bool false, .int .i64 0, .string ⟨#[]⟩, .int .i64 0, .int .i64 0, .int .i64 0, .int .i64 0, .int .i64 0, .string ⟨#[]⟩] 27) → Tri w wx w.heap.size [.int .i64 rx, .bool false, .int .i64 vf, .string ⟨vb.toArray⟩, .int .i64 ra, .int .i64 rj, .int .i64 rw_, .int .i64 rl, .int .i64 rh, .string ⟨rr.toArray⟩] [.int .i64 0, .bool false, .int .i64 0, .string ⟨#[]⟩, .int .i64 0, .int .i64 0, .int .i64 0, .int .i64 0, .int .i64 0, .string ⟨#[]⟩] ∧ wx.heap.size = w.heap.size + 1 + 1 + 1) := fun k wx hx => by
    have hBx : Below wb.heap.size wb wx := by rw [hx]; exact (below_drew (Below.refl _ _) k).trans (below_new (wb.drewN k) _)
    refine ⟨⟨hkd.below hBx (by omega), hk2.below hBx (by omega), ?_, (hB.trans (hB2.mono (by omega))).trans (hBx.mono (by omega))⟩, ?_⟩
    · have := Bk.new (wb.drewN k) [.int .i64 0, .bool false, .int .i64 0, .string ⟨#[]⟩, .int .i64 0, .int .i64 0, .int .i64 0, .int .i64 0, .int .i64 0, .string ⟨#[]⟩] 27
      rw [← hx] at this
      rwa [show (wb.drewN k).heap.size = w.heap.size + 1 + 1 from hz2] at this
    · rw [hx]
      simp [hz2]
  have a0 := hkd.cell 0 rfl
  have a1 := hkd.cell 1 rfl
  obtain ⟨wx, hwx⟩ : ∃ x, (wb.drew).alloc (.cells #[.int .i64 0, .bool false, .int .i64 0, .string ⟨#[]⟩, .int .i64 0, .int .i64 0, .int .i64 0, .int .i64 0, .int .i64 0, .string ⟨#[]⟩] 27) = x := ⟨_, rfl⟩
  obtain ⟨hT, hzx⟩ := HTR.out 1 wx hwx.symm
  obtain ⟨hx1, hx2, hx3, _⟩ := id hT
  have c0 := hx1.cell 0 rfl
  have c1 := hx1.cell 1 rfl
  have x0 := hx3.cell 0 rfl
  have g0 := hx3.frozen 0
  have x1 := hx3.cell 1 rfl
  have g1 := hx3.frozen 1
  have x2 := hx3.cell 2 rfl
  have g2 := hx3.frozen 2
  have x3 := hx3.cell 3 rfl
  have g3 := hx3.frozen 3
  have x4 := hx3.cell 4 rfl
  have g4 := hx3.frozen 4
  have x5 := hx3.cell 5 rfl
  have g5 := hx3.frozen 5
  have x6 := hx3.cell 6 rfl
  have g6 := hx3.frozen 6
  have x7 := hx3.cell 7 rfl
  have g7 := hx3.frozen 7
  have x8 := hx3.cell 8 rfl
  have g8 := hx3.frozen 8
  have x9 := hx3.cell 9 rfl
  have g9 := hx3.frozen 9
  have HT := hid hT
  have hT2 : Tri w ((((((((((wx.setCell ⟨w.heap.size + 1 + 1, 0, none⟩ (.int .i64 XI)).setCell ⟨w.heap.size + 1 + 1, 1, none⟩ (.bool false)).setCell ⟨w.heap.size + 1 + 1, 2, none⟩ (.int .i64 0)).setCell ⟨w.heap.size + 1 + 1, 3, none⟩ (.string ⟨#[]⟩)).setCell ⟨w.heap.size + 1 + 1, 4, none⟩ (.int .i64 0)).setCell ⟨w.heap.size + 1 + 1, 5, none⟩ (.int .i64 0)).setCell ⟨w.heap.size + 1 + 1, 6, none⟩ (.int .i64 0)).setCell ⟨w.heap.size + 1 + 1, 7, none⟩ (.int .i64 0)).setCell ⟨w.heap.size + 1 + 1, 8, none⟩ (.int .i64 0)).setCell ⟨w.heap.size + 1 + 1, 9, none⟩ (.string ⟨#[]⟩)) w.heap.size [.int .i64 rx, .bool false, .int .i64 vf, .string ⟨vb.toArray⟩, .int .i64 ra, .int .i64 rj, .int .i64 rw_, .int .i64 rl, .int .i64 rh, .string ⟨rr.toArray⟩] [.int .i64 XI, .bool false, .int .i64 0, .string ⟨#[]⟩, .int .i64 0, .int .i64 0, .int .i64 0, .int .i64 0, .int .i64 0, .string ⟨#[]⟩] := (((((((((hT.set 0 (.int .i64 XI)).set 1 (.bool false)).set 2 (.int .i64 0)).set 3 (.string ⟨#[]⟩)).set 4 (.int .i64 0)).set 5 (.int .i64 0)).set 6 (.int .i64 0)).set 7 (.int .i64 0)).set 8 (.int .i64 0)).set 9 (.string ⟨#[]⟩)
  have HT2 := hid hT2
  clear hk hk2 hB hB2 hkd hP h hx1 hx2 hx3 hT hT2 HTR
  have hza := hz
  clear hz
  go_enter Tryz.func12, Tryz.ntmps12
  go_wp2_with fail
  go_cut [3] from 3 (fun v wy => v = .pointer (some ⟨w.heap.size + 1 + 1, 0, none⟩) ∧ Hid (Tri w wy w.heap.size [.int .i64 rx, .bool false, .int .i64 vf, .string ⟨vb.toArray⟩, .int .i64 ra, .int .i64 rj, .int .i64 rw_, .int .i64 rl, .int .i64 rh, .string ⟨rr.toArray⟩] [.int .i64 XI, .bool false, .int .i64 0, .string ⟨#[]⟩, .int .i64 0, .int .i64 0, .int .i64 0, .int .i64 0, .int .i64 0, .string ⟨#[]⟩]))
  case first =>
    go_region_with (first | (go_at_call 14; refine (HP0.out _).mono ?_; rintro e w9 ⟨rfl, hw⟩; rw [hw]; clear hw))
    all_goals (
      go_wp2_with fail
      go_meet
      exact ⟨rfl, HT2⟩)
  case rest =>
    obtain ⟨hv, HX⟩ := hcut
    subst hv
    clear HT HT2 hwx c0 c1 x0 x1 x2 x3 x4 x5 x6 x7 x8 x9 g0 g1 g2 g3 g4 g5 g6 g7 g8 g9 hwa hwb
    obtain ⟨ha, hr, hx, _⟩ := id HX.out
    have a0 := ha.cell 0 rfl
    have a1 := ha.cell 1 rfl
    have a2 := ha.cell 2 rfl
    have a3 := ha.cell 3 rfl
    have a4 := ha.cell 4 rfl
    have a5 := ha.cell 5 rfl
    have a6 := ha.cell 6 rfl
    have a7 := ha.cell 7 rfl
    have a8 := ha.cell 8 rfl
    have a9 := ha.cell 9 rfl
    have x0 := hx.cell 0 rfl
    have g0 := hx.frozen 0
    have x1 := hx.cell 1 rfl
    have g1 := hx.frozen 1
    have x2 := hx.cell 2 rfl
    have g2 := hx.frozen 2
    have x3 := hx.cell 3 rfl
    have g3 := hx.frozen 3
    have x4 := hx.cell 4 rfl
    have g4 := hx.frozen 4
    have x5 := hx.cell 5 rfl
    have g5 := hx.frozen 5
    have x6 := hx.cell 6 rfl
    have g6 := hx.frozen 6
    have x7 := hx.cell 7 rfl
    have g7 := hx.frozen 7
    have x8 := hx.cell 8 rfl
    have g8 := hx.frozen 8
    have x9 := hx.cell 9 rfl
    have g9 := hx.frozen 9
    clear ha hr hx
    go_wp2_with fail
    refine (HPL.out _).mono ?_
    rintro e w9 ⟨rfl, hw⟩
    have hw2 := hw.symm
    clear hw
    subst hw2
    go_wp2_with fail
    refine (HPH.out _).mono ?_
    rintro e w9 ⟨rfl, hw⟩
    have hw2 := hw.symm
    clear hw
    subst hw2
    go_wp2_with fail
    refine (HAU.out _).mono ?_
    rintro e wv ⟨rfl, hBn⟩
    have Hwv : Hid (Tri w wv w.heap.size [.int .i64 rx, .bool false, .int .i64 vf, .string ⟨vb.toArray⟩, .int .i64 ra, .int .i64 rj, .int .i64 rw_, .int .i64 rl, .int .i64 rh, .string ⟨rr.toArray⟩] [.int .i64 XI, .bool false, .int .i64 0, .string ⟨#[]⟩, .int .i64 0, .int .i64 0, .int .i64 0, .int .i64 0, .int .i64 0, .string ⟨#[]⟩]) := HX.out.below hBn
    clear hBn
    obtain ⟨ha, hr, hx, _⟩ := id Hwv.out
    have a0 := ha.cell 0 rfl
    have a1 := ha.cell 1 rfl
    have a2 := ha.cell 2 rfl
    have a3 := ha.cell 3 rfl
    have a4 := ha.cell 4 rfl
    have a5 := ha.cell 5 rfl
    have a6 := ha.cell 6 rfl
    have a7 := ha.cell 7 rfl
    have a8 := ha.cell 8 rfl
    have a9 := ha.cell 9 rfl
    have x0 := hx.cell 0 rfl
    have g0 := hx.frozen 0
    have x1 := hx.cell 1 rfl
    have g1 := hx.frozen 1
    have x2 := hx.cell 2 rfl
    have g2 := hx.frozen 2
    have x3 := hx.cell 3 rfl
    have g3 := hx.frozen 3
    have x4 := hx.cell 4 rfl
    have g4 := hx.frozen 4
    have x5 := hx.cell 5 rfl
    have g5 := hx.frozen 5
    have x6 := hx.cell 6 rfl
    have g6 := hx.frozen 6
    have x7 := hx.cell 7 rfl
    have g7 := hx.frozen 7
    have x8 := hx.cell 8 rfl
    have g8 := hx.frozen 8
    have x9 := hx.cell 9 rfl
    have g9 := hx.frozen 9
    clear ha hr hx
    obtain ⟨wd, hwd⟩ : ∃ x, wv.setCell ⟨w.heap.size + 1 + 1, 2, none⟩ (.int .i64 A.flavor) = x := ⟨_, rfl⟩
    have Hwd : Hid (Tri w wd w.heap.size [.int .i64 rx, .bool false, .int .i64 vf, .string ⟨vb.toArray⟩, .int .i64 ra, .int .i64 rj, .int .i64 rw_, .int .i64 rl, .int .i64 rh, .string ⟨rr.toArray⟩] [.int .i64 XI, .bool false, .int .i64 A.flavor, .string ⟨#[]⟩, .int .i64 0, .int .i64 0, .int .i64 0, .int .i64 0, .int .i64 0, .string ⟨#[]⟩]) := by rw [← hwd]; exact Hwv.out.set 2 _
    obtain ⟨ha, hr, hx, _⟩ := id Hwd.out
    have a0 := ha.cell 0 rfl
    have a1 := ha.cell 1 rfl
    have a2 := ha.cell 2 rfl
    have a3 := ha.cell 3 rfl
    have a4 := ha.cell 4 rfl
    have a5 := ha.cell 5 rfl
    have a6 := ha.cell 6 rfl
    have a7 := ha.cell 7 rfl
    have a8 := ha.cell 8 rfl
    have a9 := ha.cell 9 rfl
    have x0 := hx.cell 0 rfl
    have g0 := hx.frozen 0
    have x1 := hx.cell 1 rfl
    have g1 := hx.frozen 1
    have x2 := hx.cell 2 rfl
    have g2 := hx.frozen 2
    have x3 := hx.cell 3 rfl
    have g3 := hx.frozen 3
    have x4 := hx.cell 4 rfl
    have g4 := hx.frozen 4
    have x5 := hx.cell 5 rfl
    have g5 := hx.frozen 5
    have x6 := hx.cell 6 rfl
    have g6 := hx.frozen 6
    have x7 := hx.cell 7 rfl
    have g7 := hx.frozen 7
    have x8 := hx.cell 8 rfl
    have g8 := hx.frozen 8
    have x9 := hx.cell 9 rfl
    have g9 := hx.frozen 9
    clear ha hr hx
    obtain ⟨we, hwe⟩ : ∃ x, wd.setCell ⟨w.heap.size + 1 + 1, 3, none⟩ (.string ⟨A.body.toArray⟩) = x := ⟨_, rfl⟩
    have Hwe : Hid (Tri w we w.heap.size [.int .i64 rx, .bool false, .int .i64 vf, .string ⟨vb.toArray⟩, .int .i64 ra, .int .i64 rj, .int .i64 rw_, .int .i64 rl, .int .i64 rh, .string ⟨rr.toArray⟩] [.int .i64 XI, .bool false, .int .i64 A.flavor, .string ⟨A.body.toArray⟩, .int .i64 0, .int .i64 0, .int .i64 0, .int .i64 0, .int .i64 0, .string ⟨#[]⟩]) := by rw [← hwe]; exact Hwd.out.set 3 _
    obtain ⟨ha, hr, hx, _⟩ := id Hwe.out
    have a0 := ha.cell 0 rfl
    have a1 := ha.cell 1 rfl
    have a2 := ha.cell 2 rfl
    have a3 := ha.cell 3 rfl
    have a4 := ha.cell 4 rfl
    have a5 := ha.cell 5 rfl
    have a6 := ha.cell 6 rfl
    have a7 := ha.cell 7 rfl
    have a8 := ha.cell 8 rfl
    have a9 := ha.cell 9 rfl
    have x0 := hx.cell 0 rfl
    have g0 := hx.frozen 0
    have x1 := hx.cell 1 rfl
    have g1 := hx.frozen 1
    have x2 := hx.cell 2 rfl
    have g2 := hx.frozen 2
    have x3 := hx.cell 3 rfl
    have g3 := hx.frozen 3
    have x4 := hx.cell 4 rfl
    have g4 := hx.frozen 4
    have x5 := hx.cell 5 rfl
    have g5 := hx.frozen 5
    have x6 := hx.cell 6 rfl
    have g6 := hx.frozen 6
    have x7 := hx.cell 7 rfl
    have g7 := hx.frozen 7
    have x8 := hx.cell 8 rfl
    have g8 := hx.frozen 8
    have x9 := hx.cell 9 rfl
    have g9 := hx.frozen 9
    clear ha hr hx
    go_wp2_with fail
    refine (HPA.out _).mono ?_
    rintro e w9 ⟨rfl, hw⟩
    have hw2 := hw.symm
    clear hw
    subst hw2
    obtain ⟨wf, hwf⟩ : ∃ x, we.setCell ⟨w.heap.size + 1 + 1, 4, none⟩ (.int .i64 AC) = x := ⟨_, rfl⟩
    have Hwf : Hid (Tri w wf w.heap.size [.int .i64 rx, .bool false, .int .i64 vf, .string ⟨vb.toArray⟩, .int .i64 ra, .int .i64 rj, .int .i64 rw_, .int .i64 rl, .int .i64 rh, .string ⟨rr.toArray⟩] [.int .i64 XI, .bool false, .int .i64 A.flavor, .string ⟨A.body.toArray⟩, .int .i64 AC, .int .i64 0, .int .i64 0, .int .i64 0, .int .i64 0, .string ⟨#[]⟩]) := by rw [← hwf]; exact Hwe.out.set 4 _
    obtain ⟨ha, hr, hx, _⟩ := id Hwf.out
    have a0 := ha.cell 0 rfl
    have a1 := ha.cell 1 rfl
    have a2 := ha.cell 2 rfl
    have a3 := ha.cell 3 rfl
    have a4 := ha.cell 4 rfl
    have a5 := ha.cell 5 rfl
    have a6 := ha.cell 6 rfl
    have a7 := ha.cell 7 rfl
    have a8 := ha.cell 8 rfl
    have a9 := ha.cell 9 rfl
    have x0 := hx.cell 0 rfl
    have g0 := hx.frozen 0
    have x1 := hx.cell 1 rfl
    have g1 := hx.frozen 1
    have x2 := hx.cell 2 rfl
    have g2 := hx.frozen 2
    have x3 := hx.cell 3 rfl
    have g3 := hx.frozen 3
    have x4 := hx.cell 4 rfl
    have g4 := hx.frozen 4
    have x5 := hx.cell 5 rfl
    have g5 := hx.frozen 5
    have x6 := hx.cell 6 rfl
    have g6 := hx.frozen 6
    have x7 := hx.cell 7 rfl
    have g7 := hx.frozen 7
    have x8 := hx.cell 8 rfl
    have g8 := hx.frozen 8
    have x9 := hx.cell 9 rfl
    have g9 := hx.frozen 9
    clear ha hr hx
    have hr := Hwf.out.2.1
    have k0 := hr.cell 0 rfl
    have f0 := hr.frozen 0
    have k1 := hr.cell 1 rfl
    have f1 := hr.frozen 1
    have k2 := hr.cell 2 rfl
    have f2 := hr.frozen 2
    have k3 := hr.cell 3 rfl
    have f3 := hr.frozen 3
    have k4 := hr.cell 4 rfl
    have f4 := hr.frozen 4
    have k5 := hr.cell 5 rfl
    have f5 := hr.frozen 5
    have k6 := hr.cell 6 rfl
    have f6 := hr.frozen 6
    have k7 := hr.cell 7 rfl
    have f7 := hr.frozen 7
    have k8 := hr.cell 8 rfl
    have f8 := hr.frozen 8
    have k9 := hr.cell 9 rfl
    have f9 := hr.frozen 9
    have HZ9 := hr.set10 (.int .i64 XI) (.bool false) (.int .i64 A.flavor) (.string ⟨A.body.toArray⟩) (.int .i64 AC) (.int .i64 0) (.int .i64 0) (.int .i64 0) (.int .i64 0) (.string ⟨#[]⟩)
    have q0 := HZ9.cell 0 rfl
    have q1 := HZ9.cell 1 rfl
    have q2 := HZ9.cell 2 rfl
    have q3 := HZ9.cell 3 rfl
    have q4 := HZ9.cell 4 rfl
    have q5 := HZ9.cell 5 rfl
    have q6 := HZ9.cell 6 rfl
    have q7 := HZ9.cell 7 rfl
    have q8 := HZ9.cell 8 rfl
    have q9 := HZ9.cell 9 rfl
    have HB9 := hid (below_set10 (b := w.heap.size + 1) Hwf.out.2.2.2 (by omega) (.int .i64 XI) (.bool false) (.int .i64 A.flavor) (.string ⟨A.body.toArray⟩) (.int .i64 AC) (.int .i64 0) (.int .i64 0) (.int .i64 0) (.int .i64 0) (.string ⟨#[]⟩))
    clear HZ9 hr
    go_wp2
    refine bodyPost_ret (v := .agg #[.int .i64 XI, .bool false, .int .i64 A.flavor, .string ⟨A.body.toArray⟩, .int .i64 AC, .int .i64 0, .int .i64 0, .int .i64 0, .int .i64 0, .string ⟨#[]⟩]) (by simp [results, Tryz.results12, go_sem, q0, q1, q2, q3, q4, q5, q6, q7, q8, q9]) rfl ⟨rfl, HB9.out⟩
end Go.Proofs.YtebjheaohichpaaGreatDoor
namespace Go.Proofs.YtebjheaohichpaaGreatDoor
open Go.RowKit
theorem told_any (r : ReplyP) (w : World) (h : Reply64 r) :
    Calls Tryz.prog 12 #[.agg (replyV r).toArray] w fun e w' => e = .returned (.agg (replyV (tolP r)).toArray) ∧ Below w.heap.size w w' := by
  obtain ⟨rx, rd, ⟨vf, vb⟩, ra, rl, rh, rr, rj, rw_⟩ := r
  cases rd
  · by_cases h0 : pickP ra 6 = 0
    · exact told_acc0 rx ra rl rh rj rw_ vf vb rr w h h0
    · by_cases h2 : pickP ra 6 = 2
      · exact told_acc2 rx ra rl rh rj rw_ vf vb rr w h h2
      · exact told_accn rx ra rl rh rj rw_ vf vb rr w h ⟨h0, h2⟩
  · have := pick_range rj 2 (by decide)
    by_cases h1 : pickP rj 2 = 1
    · exact told_den1 rx ra rl rh rj rw_ vf vb rr w h h1
    · exact told_den0 rx ra rl rh rj rw_ vf vb rr w h (by omega)
end Go.Proofs.YtebjheaohichpaaGreatDoor
