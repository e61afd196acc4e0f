/- The document's question: may a reply be? The walks. -/
import Derived.Test.YtebjheaohichpaaGreatDoorGo
namespace Go.Proofs.YtebjheaohichpaaGreatDoor
open Go.RowKit
set_option maxRecDepth 8000 in
set_option maxHeartbeats 8000000 in
theorem dreply_acc (rx vf ra rj rw_ rl rh : Int) (VB RR : ByteArray) (A LO HI eS V P : Bool) (w : World)
    (H1 : Hid (∀ w, Calls Tryz.prog 47 #[.int .i64 rx] w fun e w' => e = .returned (.bool A) ∧ w' = w))
    (H2 : Hid (∀ w, Calls Tryz.prog 47 #[.int .i64 rl] w fun e w' => e = .returned (.bool LO) ∧ w' = w))
    (H3 : Hid (∀ w, Calls Tryz.prog 47 #[.int .i64 rh] w fun e w' => e = .returned (.bool HI) ∧ w' = w))
    (H4 : Hid (∀ w, Calls Tryz.prog 48 #[.agg #[.int .i64 vf, .string VB]] w fun e w' => e = .returned (.bool V) ∧ Below w.heap.size w w'))
    (H5 : Hid (∀ w, Calls Tryz.prog 49 #[.string RR] w fun e w' => e = .returned (.bool P) ∧ w' = w))
    (hS : RR.toList.isEmpty = eS) :
    Calls Tryz.prog 29 #[.agg #[.int .i64 rx, .bool false, .int .i64 vf, .string VB, .int .i64 ra, .int .i64 rj, .int .i64 rw_, .int .i64 rl, .int .i64 rh, .string RR]] w fun e w' => e = .returned (.bool (A && V && (rj == 0) && (rw_ == 0) && decide (0 ≤ ra) && decide (ra ≤ 5) && (if ra == 0 then P && (rl == 0 && rh == 0) else if ra == 2 then LO && HI && eS else (rl == 0 && rh == 0) && eS))) ∧ Below w.heap.size w w' := by
  obtain ⟨wa, hwa⟩ : ∃ x, w.alloc (.cells #[.int .i64 rx, .bool false, .int .i64 vf, .string VB, .int .i64 ra, .int .i64 rj, .int .i64 rw_, .int .i64 rl, .int .i64 rh, .string RR] 27) = x := ⟨_, rfl⟩
  obtain ⟨hk, hB, hz⟩ := boxed w wa _ _ hwa
  have HK : Hid (Bk wa w.heap.size [.int .i64 rx, .bool false, .int .i64 vf, .string VB, .int .i64 ra, .int .i64 rj, .int .i64 rw_, .int .i64 rl, .int .i64 rh, .string RR] 27) := hk
  have HB := hid hB
  have a0 := hk.cell 0 rfl
  have a1 := hk.cell 1 rfl
  have a2 := hk.cell 2 rfl
  have a3 := hk.cell 3 rfl
  have a4 := hk.cell 4 rfl
  have a5 := hk.cell 5 rfl
  have a6 := hk.cell 6 rfl
  have a7 := hk.cell 7 rfl
  have a8 := hk.cell 8 rfl
  have a9 := hk.cell 9 rfl
  clear hk hB hz
  go_enter Tryz.func29, Tryz.ntmps29
  go_wp2_with fail
  refine (H1.out _).mono ?_
  rintro e w0 ⟨rfl, hw0⟩
  have hw1 := hw0.symm
  clear hw0
  subst hw1
  go_wp2_with fail
  refine (H2.out _).mono ?_
  rintro e w0 ⟨rfl, hw0⟩
  have hw1 := hw0.symm
  clear hw0
  subst hw1
  go_wp2_with fail
  refine (H3.out _).mono ?_
  rintro e w0 ⟨rfl, hw0⟩
  have hw1 := hw0.symm
  clear hw0
  subst hw1
  by_cases hl0 : rl = 0
  · subst hl0
    by_cases hh0 : rh = 0
    · subst hh0
      go_wp2_with fail
      refine (H4.out _).mono ?_
      rintro e wu ⟨rfl, hBn⟩
      have HKu := hid (HK.out.below hBn HK.out.lt)
      have HBu : Hid (Below w.heap.size w wu) := HB.out.trans (hBn.mono HB.out.size)
      clear hBn a0 a1 a2 a3 a4 a5 a6 a7 a8 a9
      have a0 := HKu.out.cell 0 rfl
      have a1 := HKu.out.cell 1 rfl
      have a2 := HKu.out.cell 2 rfl
      have a3 := HKu.out.cell 3 rfl
      have a4 := HKu.out.cell 4 rfl
      have a5 := HKu.out.cell 5 rfl
      have a6 := HKu.out.cell 6 rfl
      have a7 := HKu.out.cell 7 rfl
      have a8 := HKu.out.cell 8 rfl
      have a9 := HKu.out.cell 9 rfl
      go_wp2_with fail
      refine (H5.out _).mono ?_
      rintro e w0 ⟨rfl, hw0⟩
      have hw1 := hw0.symm
      clear hw0
      subst hw1
      cases A
      · go_wp2
        all_goals (go_ret; exact ⟨by first | rfl | (simp_all; done) | (simp_all; intros; omega), HBu.out⟩)
      cases V
      · go_wp2
        all_goals (go_ret; exact ⟨by first | rfl | (simp_all; done) | (simp_all; intros; omega), HBu.out⟩)
      by_cases h4 : rj = 0
      rotate_left
      · have h5 : (rj == 0) = false := beq_eq_false_iff_ne.2 h4
        skip
        go_wp2
        all_goals (go_ret; exact ⟨by first | rfl | (simp_all; done) | (simp_all; intros; omega), HBu.out⟩)
      subst h4
      by_cases h4 : rw_ = 0
      rotate_left
      · have h5 : (rw_ == 0) = false := beq_eq_false_iff_ne.2 h4
        skip
        go_wp2
        all_goals (go_ret; exact ⟨by first | rfl | (simp_all; done) | (simp_all; intros; omega), HBu.out⟩)
      subst h4
      by_cases h4 : 0 ≤ ra
      rotate_left
      · skip
        go_wp2
        all_goals (go_ret; exact ⟨by first | rfl | (simp_all; done) | (simp_all; intros; omega), HBu.out⟩)
      by_cases h5 : ra ≤ 5
      rotate_left
      · skip
        go_wp2
        all_goals (go_ret; exact ⟨by first | rfl | (simp_all; done) | (simp_all; intros; omega), HBu.out⟩)
      by_cases h6 : ra = 0
      · subst h6
        cases P
        · go_wp2
          all_goals (go_ret; exact ⟨by first | rfl | (simp_all; done) | (simp_all; intros; omega), HBu.out⟩)
        go_wp2
        all_goals (go_ret; exact ⟨by first | rfl | (simp_all; done) | (simp_all; intros; omega), HBu.out⟩)
      · have h7 : (ra == 0) = false := beq_eq_false_iff_ne.2 h6
        skip
        by_cases h8 : ra = 2
        · subst h8
          cases LO
          · go_wp2
            all_goals (go_ret; exact ⟨by first | rfl | (simp_all; done) | (simp_all; intros; omega), HBu.out⟩)
          cases HI
          · go_wp2
            all_goals (go_ret; exact ⟨by first | rfl | (simp_all; done) | (simp_all; intros; omega), HBu.out⟩)
          cases eS
          · go_wp2
            all_goals (go_ret; exact ⟨by first | rfl | (simp_all; done) | (simp_all; intros; omega), HBu.out⟩)
          go_wp2
          all_goals (go_ret; exact ⟨by first | rfl | (simp_all; done) | (simp_all; intros; omega), HBu.out⟩)
        · have h9 : (ra == 2) = false := beq_eq_false_iff_ne.2 h8
          skip
          cases eS
          · go_wp2
            all_goals (go_ret; exact ⟨by first | rfl | (simp_all; done) | (simp_all; intros; omega), HBu.out⟩)
          go_wp2
          all_goals (go_ret; exact ⟨by first | rfl | (simp_all; done) | (simp_all; intros; omega), HBu.out⟩)
    · have hh1 : (rh == 0) = false := beq_eq_false_iff_ne.2 hh0
      skip
      go_wp2_with fail
      refine (H4.out _).mono ?_
      rintro e wu ⟨rfl, hBn⟩
      have HKu := hid (HK.out.below hBn HK.out.lt)
      have HBu : Hid (Below w.heap.size w wu) := HB.out.trans (hBn.mono HB.out.size)
      clear hBn a0 a1 a2 a3 a4 a5 a6 a7 a8 a9
      have a0 := HKu.out.cell 0 rfl
      have a1 := HKu.out.cell 1 rfl
      have a2 := HKu.out.cell 2 rfl
      have a3 := HKu.out.cell 3 rfl
      have a4 := HKu.out.cell 4 rfl
      have a5 := HKu.out.cell 5 rfl
      have a6 := HKu.out.cell 6 rfl
      have a7 := HKu.out.cell 7 rfl
      have a8 := HKu.out.cell 8 rfl
      have a9 := HKu.out.cell 9 rfl
      go_wp2_with fail
      refine (H5.out _).mono ?_
      rintro e w0 ⟨rfl, hw0⟩
      have hw1 := hw0.symm
      clear hw0
      subst hw1
      cases A
      · go_wp2
        all_goals (go_ret; exact ⟨by first | rfl | (simp_all; done) | (simp_all; intros; omega), HBu.out⟩)
      cases V
      · go_wp2
        all_goals (go_ret; exact ⟨by first | rfl | (simp_all; done) | (simp_all; intros; omega), HBu.out⟩)
      by_cases h4 : rj = 0
      rotate_left
      · have h5 : (rj == 0) = false := beq_eq_false_iff_ne.2 h4
        skip
        go_wp2
        all_goals (go_ret; exact ⟨by first | rfl | (simp_all; done) | (simp_all; intros; omega), HBu.out⟩)
      subst h4
      by_cases h4 : rw_ = 0
      rotate_left
      · have h5 : (rw_ == 0) = false := beq_eq_false_iff_ne.2 h4
        skip
        go_wp2
        all_goals (go_ret; exact ⟨by first | rfl | (simp_all; done) | (simp_all; intros; omega), HBu.out⟩)
      subst h4
      by_cases h4 : 0 ≤ ra
      rotate_left
      · skip
        go_wp2
        all_goals (go_ret; exact ⟨by first | rfl | (simp_all; done) | (simp_all; intros; omega), HBu.out⟩)
      by_cases h5 : ra ≤ 5
      rotate_left
      · skip
        go_wp2
        all_goals (go_ret; exact ⟨by first | rfl | (simp_all; done) | (simp_all; intros; omega), HBu.out⟩)
      by_cases h6 : ra = 0
      · subst h6
        cases P
        · go_wp2
          all_goals (go_ret; exact ⟨by first | rfl | (simp_all; done) | (simp_all; intros; omega), HBu.out⟩)
        go_wp2
        all_goals (go_ret; exact ⟨by first | rfl | (simp_all; done) | (simp_all; intros; omega), HBu.out⟩)
      · have h7 : (ra == 0) = false := beq_eq_false_iff_ne.2 h6
        skip
        by_cases h8 : ra = 2
        · subst h8
          cases LO
          · go_wp2
            all_goals (go_ret; exact ⟨by first | rfl | (simp_all; done) | (simp_all; intros; omega), HBu.out⟩)
          cases HI
          · go_wp2
            all_goals (go_ret; exact ⟨by first | rfl | (simp_all; done) | (simp_all; intros; omega), HBu.out⟩)
          cases eS
          · go_wp2
            all_goals (go_ret; exact ⟨by first | rfl | (simp_all; done) | (simp_all; intros; omega), HBu.out⟩)
          go_wp2
          all_goals (go_ret; exact ⟨by first | rfl | (simp_all; done) | (simp_all; intros; omega), HBu.out⟩)
        · have h9 : (ra == 2) = false := beq_eq_false_iff_ne.2 h8
          skip
          cases eS
          · go_wp2
            all_goals (go_ret; exact ⟨by first | rfl | (simp_all; done) | (simp_all; intros; omega), HBu.out⟩)
          go_wp2
          all_goals (go_ret; exact ⟨by first | rfl | (simp_all; done) | (simp_all; intros; omega), HBu.out⟩)
  · have hl1 : (rl == 0) = false := beq_eq_false_iff_ne.2 hl0
    skip
    go_wp2_with fail
    refine (H4.out _).mono ?_
    rintro e wu ⟨rfl, hBn⟩
    have HKu := hid (HK.out.below hBn HK.out.lt)
    have HBu : Hid (Below w.heap.size w wu) := HB.out.trans (hBn.mono HB.out.size)
    clear hBn a0 a1 a2 a3 a4 a5 a6 a7 a8 a9
    have a0 := HKu.out.cell 0 rfl
    have a1 := HKu.out.cell 1 rfl
    have a2 := HKu.out.cell 2 rfl
    have a3 := HKu.out.cell 3 rfl
    have a4 := HKu.out.cell 4 rfl
    have a5 := HKu.out.cell 5 rfl
    have a6 := HKu.out.cell 6 rfl
    have a7 := HKu.out.cell 7 rfl
    have a8 := HKu.out.cell 8 rfl
    have a9 := HKu.out.cell 9 rfl
    go_wp2_with fail
    refine (H5.out _).mono ?_
    rintro e w0 ⟨rfl, hw0⟩
    have hw1 := hw0.symm
    clear hw0
    subst hw1
    cases A
    · go_wp2
      all_goals (go_ret; exact ⟨by first | rfl | (simp_all; done) | (simp_all; intros; omega), HBu.out⟩)
    cases V
    · go_wp2
      all_goals (go_ret; exact ⟨by first | rfl | (simp_all; done) | (simp_all; intros; omega), HBu.out⟩)
    by_cases h4 : rj = 0
    rotate_left
    · have h5 : (rj == 0) = false := beq_eq_false_iff_ne.2 h4
      skip
      go_wp2
      all_goals (go_ret; exact ⟨by first | rfl | (simp_all; done) | (simp_all; intros; omega), HBu.out⟩)
    subst h4
    by_cases h4 : rw_ = 0
    rotate_left
    · have h5 : (rw_ == 0) = false := beq_eq_false_iff_ne.2 h4
      skip
      go_wp2
      all_goals (go_ret; exact ⟨by first | rfl | (simp_all; done) | (simp_all; intros; omega), HBu.out⟩)
    subst h4
    by_cases h4 : 0 ≤ ra
    rotate_left
    · skip
      go_wp2
      all_goals (go_ret; exact ⟨by first | rfl | (simp_all; done) | (simp_all; intros; omega), HBu.out⟩)
    by_cases h5 : ra ≤ 5
    rotate_left
    · skip
      go_wp2
      all_goals (go_ret; exact ⟨by first | rfl | (simp_all; done) | (simp_all; intros; omega), HBu.out⟩)
    by_cases h6 : ra = 0
    · subst h6
      cases P
      · go_wp2
        all_goals (go_ret; exact ⟨by first | rfl | (simp_all; done) | (simp_all; intros; omega), HBu.out⟩)
      go_wp2
      all_goals (go_ret; exact ⟨by first | rfl | (simp_all; done) | (simp_all; intros; omega), HBu.out⟩)
    · have h7 : (ra == 0) = false := beq_eq_false_iff_ne.2 h6
      skip
      by_cases h8 : ra = 2
      · subst h8
        cases LO
        · go_wp2
          all_goals (go_ret; exact ⟨by first | rfl | (simp_all; done) | (simp_all; intros; omega), HBu.out⟩)
        cases HI
        · go_wp2
          all_goals (go_ret; exact ⟨by first | rfl | (simp_all; done) | (simp_all; intros; omega), HBu.out⟩)
        cases eS
        · go_wp2
          all_goals (go_ret; exact ⟨by first | rfl | (simp_all; done) | (simp_all; intros; omega), HBu.out⟩)
        go_wp2
        all_goals (go_ret; exact ⟨by first | rfl | (simp_all; done) | (simp_all; intros; omega), HBu.out⟩)
      · have h9 : (ra == 2) = false := beq_eq_false_iff_ne.2 h8
        skip
        cases eS
        · go_wp2
          all_goals (go_ret; exact ⟨by first | rfl | (simp_all; done) | (simp_all; intros; omega), HBu.out⟩)
        go_wp2
        all_goals (go_ret; exact ⟨by first | rfl | (simp_all; done) | (simp_all; intros; omega), HBu.out⟩)
end Go.Proofs.YtebjheaohichpaaGreatDoor
