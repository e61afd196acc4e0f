/- The document's question: may a reply be? The walks. -/
import Derived.Test.YtebjheaohichpaaGreatDoorGo
namespace Go.Proofs.YtebjheaohichpaaGreatDoor
open Go.RowKit
set_option maxRecDepth 8000 in
set_option maxHeartbeats 8000000 in
theorem dreply_den (rx vf ra rj rw_ rl rh : Int) (VB RR : ByteArray) (A LO HI eV eS : Bool) (w : World)
    (H1 : Hid (∀ w, Calls Tryz.prog 47 #[.int .i64 rx] w fun e w' => e = .returned (.bool A) ∧ w' = w))
    (H2 : Hid (∀ w, Calls Tryz.prog 47 #[.int .i64 rl] w fun e w' => e = .returned (.bool LO) ∧ w' = w))
    (H3 : Hid (∀ w, Calls Tryz.prog 47 #[.int .i64 rh] w fun e w' => e = .returned (.bool HI) ∧ w' = w))
    (hV : ∀ w, (binOp .neq 23 (.agg #[.int .i64 vf, .string VB]) (.agg #[.int .i64 0, .string ⟨#[]⟩])).run Tryz.prog w = .ok (.bool (!eV)) w)
    (hS : RR.toList.isEmpty = eS) :
    Calls Tryz.prog 29 #[.agg #[.int .i64 rx, .bool true, .int .i64 vf, .string VB, .int .i64 ra, .int .i64 rj, .int .i64 rw_, .int .i64 rl, .int .i64 rh, .string RR]] w fun e w' => e = .returned (.bool (A && eV && (ra == 0) && eS && (if rj == 0 then LO && HI && (rw_ == 0) else if rj == 1 then (rl == 0 && rh == 0) && decide (0 ≤ rw_) && decide (rw_ ≤ 14) else false))) ∧ Below w.heap.size w w' := by
  obtain ⟨wa, hwa⟩ : ∃ x, w.alloc (.cells #[.int .i64 rx, .bool true, .int .i64 vf, .string VB, .int .i64 ra, .int .i64 rj, .int .i64 rw_, .int .i64 rl, .int .i64 rh, .string RR] 27) = x := ⟨_, rfl⟩
  obtain ⟨hk, hB, hz⟩ := boxed w wa _ _ hwa
  have HK : Hid (Bk wa w.heap.size [.int .i64 rx, .bool true, .int .i64 vf, .string VB, .int .i64 ra, .int .i64 rj, .int .i64 rw_, .int .i64 rl, .int .i64 rh, .string RR] 27) := hk
  have HB := hid hB
  have a0 := hk.cell 0 rfl
  have a1 := hk.cell 1 rfl
  have a2 := hk.cell 2 rfl
  have a3 := hk.cell 3 rfl
  have a4 := hk.cell 4 rfl
  have a5 := hk.cell 5 rfl
  have a6 := hk.cell 6 rfl
  have a7 := hk.cell 7 rfl
  have a8 := hk.cell 8 rfl
  have a9 := hk.cell 9 rfl
  clear hk hB hz
  go_enter Tryz.func29, Tryz.ntmps29
  have gA := guardAn
  go_wp2_with fail
  refine (H1.out _).mono ?_
  rintro e w0 ⟨rfl, hw0⟩
  have hw1 := hw0.symm
  clear hw0
  subst hw1
  go_wp2_with fail
  refine (H2.out _).mono ?_
  rintro e w0 ⟨rfl, hw0⟩
  have hw1 := hw0.symm
  clear hw0
  subst hw1
  go_wp2_with fail
  refine (H3.out _).mono ?_
  rintro e w0 ⟨rfl, hw0⟩
  have hw1 := hw0.symm
  clear hw0
  subst hw1
  by_cases hl0 : rl = 0
  · subst hl0
    by_cases hh0 : rh = 0
    · subst hh0
      cases A
      · go_wp2
        all_goals (go_ret; exact ⟨by first | rfl | (simp_all; done) | (simp_all; intros; omega), HB.out⟩)
      cases eV
      · go_wp2
        all_goals (go_ret; exact ⟨by first | rfl | (simp_all; done) | (simp_all; intros; omega), HB.out⟩)
      by_cases h4 : ra = 0
      rotate_left
      · have h5 : (ra == 0) = false := beq_eq_false_iff_ne.2 h4
        skip
        go_wp2
        all_goals (go_ret; exact ⟨by first | rfl | (simp_all; done) | (simp_all; intros; omega), HB.out⟩)
      subst h4
      cases eS
      · go_wp2
        all_goals (go_ret; exact ⟨by first | rfl | (simp_all; done) | (simp_all; intros; omega), HB.out⟩)
      by_cases h6 : rj = 0
      · subst h6
        cases LO
        · go_wp2
          all_goals (go_ret; exact ⟨by first | rfl | (simp_all; done) | (simp_all; intros; omega), HB.out⟩)
        cases HI
        · go_wp2
          all_goals (go_ret; exact ⟨by first | rfl | (simp_all; done) | (simp_all; intros; omega), HB.out⟩)
        go_wp2
        all_goals (go_ret; exact ⟨by first | rfl | (simp_all; done) | (simp_all; intros; omega), HB.out⟩)
      · have h7 : (rj == 0) = false := beq_eq_false_iff_ne.2 h6
        skip
        by_cases h8 : rj = 1
        · subst h8
          by_cases h9 : 0 ≤ rw_
          · skip
            go_wp2
            all_goals (go_ret; exact ⟨by first | rfl | (simp_all; done) | (simp_all; intros; omega), HB.out⟩)
          · skip
            go_wp2
            all_goals (go_ret; exact ⟨by first | rfl | (simp_all; done) | (simp_all; intros; omega), HB.out⟩)
        · have h9 : (rj == 1) = false := beq_eq_false_iff_ne.2 h8
          skip
          go_wp2
          all_goals (go_ret; exact ⟨by first | rfl | (simp_all; done) | (simp_all; intros; omega), HB.out⟩)
    · have hh1 : (rh == 0) = false := beq_eq_false_iff_ne.2 hh0
      skip
      cases A
      · go_wp2
        all_goals (go_ret; exact ⟨by first | rfl | (simp_all; done) | (simp_all; intros; omega), HB.out⟩)
      cases eV
      · go_wp2
        all_goals (go_ret; exact ⟨by first | rfl | (simp_all; done) | (simp_all; intros; omega), HB.out⟩)
      by_cases h4 : ra = 0
      rotate_left
      · have h5 : (ra == 0) = false := beq_eq_false_iff_ne.2 h4
        skip
        go_wp2
        all_goals (go_ret; exact ⟨by first | rfl | (simp_all; done) | (simp_all; intros; omega), HB.out⟩)
      subst h4
      cases eS
      · go_wp2
        all_goals (go_ret; exact ⟨by first | rfl | (simp_all; done) | (simp_all; intros; omega), HB.out⟩)
      by_cases h6 : rj = 0
      · subst h6
        cases LO
        · go_wp2
          all_goals (go_ret; exact ⟨by first | rfl | (simp_all; done) | (simp_all; intros; omega), HB.out⟩)
        cases HI
        · go_wp2
          all_goals (go_ret; exact ⟨by first | rfl | (simp_all; done) | (simp_all; intros; omega), HB.out⟩)
        go_wp2
        all_goals (go_ret; exact ⟨by first | rfl | (simp_all; done) | (simp_all; intros; omega), HB.out⟩)
      · have h7 : (rj == 0) = false := beq_eq_false_iff_ne.2 h6
        skip
        by_cases h8 : rj = 1
        · subst h8
          by_cases h9 : 0 ≤ rw_
          · skip
            go_wp2
            all_goals (go_ret; exact ⟨by first | rfl | (simp_all; done) | (simp_all; intros; omega), HB.out⟩)
          · skip
            go_wp2
            all_goals (go_ret; exact ⟨by first | rfl | (simp_all; done) | (simp_all; intros; omega), HB.out⟩)
        · have h9 : (rj == 1) = false := beq_eq_false_iff_ne.2 h8
          skip
          go_wp2
          all_goals (go_ret; exact ⟨by first | rfl | (simp_all; done) | (simp_all; intros; omega), HB.out⟩)
  · have hl1 : (rl == 0) = false := beq_eq_false_iff_ne.2 hl0
    skip
    cases A
    · go_wp2
      all_goals (go_ret; exact ⟨by first | rfl | (simp_all; done) | (simp_all; intros; omega), HB.out⟩)
    cases eV
    · go_wp2
      all_goals (go_ret; exact ⟨by first | rfl | (simp_all; done) | (simp_all; intros; omega), HB.out⟩)
    by_cases h4 : ra = 0
    rotate_left
    · have h5 : (ra == 0) = false := beq_eq_false_iff_ne.2 h4
      skip
      go_wp2
      all_goals (go_ret; exact ⟨by first | rfl | (simp_all; done) | (simp_all; intros; omega), HB.out⟩)
    subst h4
    cases eS
    · go_wp2
      all_goals (go_ret; exact ⟨by first | rfl | (simp_all; done) | (simp_all; intros; omega), HB.out⟩)
    by_cases h6 : rj = 0
    · subst h6
      cases LO
      · go_wp2
        all_goals (go_ret; exact ⟨by first | rfl | (simp_all; done) | (simp_all; intros; omega), HB.out⟩)
      cases HI
      · go_wp2
        all_goals (go_ret; exact ⟨by first | rfl | (simp_all; done) | (simp_all; intros; omega), HB.out⟩)
      go_wp2
      all_goals (go_ret; exact ⟨by first | rfl | (simp_all; done) | (simp_all; intros; omega), HB.out⟩)
    · have h7 : (rj == 0) = false := beq_eq_false_iff_ne.2 h6
      skip
      by_cases h8 : rj = 1
      · subst h8
        by_cases h9 : 0 ≤ rw_
        · skip
          go_wp2
          all_goals (go_ret; exact ⟨by first | rfl | (simp_all; done) | (simp_all; intros; omega), HB.out⟩)
        · skip
          go_wp2
          all_goals (go_ret; exact ⟨by first | rfl | (simp_all; done) | (simp_all; intros; omega), HB.out⟩)
      · have h9 : (rj == 1) = false := beq_eq_false_iff_ne.2 h8
        skip
        go_wp2
        all_goals (go_ret; exact ⟨by first | rfl | (simp_all; done) | (simp_all; intros; omega), HB.out⟩)
end Go.Proofs.YtebjheaohichpaaGreatDoor
