/- The numbers of a mark. A mark, laid down; PrintMark. -/
import Derived.Test.YtfcbjcebkahehaaGreatDoorCd
namespace Go.Proofs.YtfcbjcebkahehaaGreatDoor
open Go.RowKit
def from1 (m n : Int) : Bool := decide (1 ≤ n) && decide (n ≤ m)
theorem isFrom1To_any (m n : Int) (w : World) : Calls Tryz.prog 182 #[.int .i64 m, .int .i64 n] w fun e w' => e = .returned (.bool (from1 m n)) ∧ w' = w := by
  unfold from1
  by_cases h0 : 1 ≤ n
  · by_cases h1 : n ≤ m
    · rw [decide_eq_true h0, decide_eq_true h1]
      have h2 : decide (1 ≤ n) = true := decide_eq_true h0
      have h3 : decide (n ≤ m) = true := decide_eq_true h1
      go_enter Tryz.func182, Tryz.ntmps182
      go_wp2
      go_ret
      exact ⟨rfl, rfl⟩
    · rw [decide_eq_true h0, decide_eq_false h1]
      have h2 : decide (1 ≤ n) = true := decide_eq_true h0
      have h3 : decide (n ≤ m) = false := decide_eq_false h1
      go_enter Tryz.func182, Tryz.ntmps182
      go_wp2
      go_ret
      exact ⟨rfl, rfl⟩
  · rw [decide_eq_false h0]
    have h2 : decide (1 ≤ n) = false := decide_eq_false h0
    go_enter Tryz.func182, Tryz.ntmps182
    go_wp2
    go_ret
    exact ⟨rfl, rfl⟩
def numsB (i q u : Int) : Bool := from1 4611686018427387904 i && (from1 4294967295 q && from1 4294967295 u)
theorem numsB_iff (i q u : Int) : numsB i q u = true ↔ (1 ≤ i ∧ i ≤ 4611686018427387904) ∧ (1 ≤ q ∧ q ≤ 4294967295) ∧ (1 ≤ u ∧ u ≤ 4294967295) := by
  unfold numsB from1
  simp only [Bool.and_eq_true, decide_eq_true_eq]
set_option maxRecDepth 4000 in
theorem nums_core (b : Nat) (i q u : Int) (x y z : Bool) (w : World) (c5 : w.cell? ⟨b, 5, none⟩ = some (.int .i64 i)) (c6 : w.cell? ⟨b, 6, none⟩ = some (.int .i64 q)) (c7 : w.cell? ⟨b, 7, none⟩ = some (.int .i64 u))
    (H1 : Hid (Calls Tryz.prog 182 #[.int .i64 4611686018427387904, .int .i64 i] w fun e w' => e = .returned (.bool x) ∧ w' = w)) (H2 : Hid (Calls Tryz.prog 182 #[.int .i64 4294967295, .int .i64 q] w fun e w' => e = .returned (.bool y) ∧ w' = w))
    (H3 : Hid (Calls Tryz.prog 182 #[.int .i64 4294967295, .int .i64 u] w fun e w' => e = .returned (.bool z) ∧ w' = w)) :
    Calls Tryz.prog 167 #[.pointer (some ⟨b, 0, none⟩)] w fun e w' => e = .returned (.bool (x && (y && z))) ∧ w' = w := by
  cases x
  · go_enter Tryz.func167, Tryz.ntmps167
    go_wp2_with fail
    refine H1.out.mono ?_
    rintro e w1 ⟨rfl, hw⟩
    rw [hw]
    clear hw
    go_wp2
    go_ret
    exact ⟨rfl, rfl⟩
  · cases y
    · go_enter Tryz.func167, Tryz.ntmps167
      go_wp2_with fail
      refine H1.out.mono ?_
      rintro e w1 ⟨rfl, hw⟩
      rw [hw]
      clear hw
      go_wp2_with fail
      refine H2.out.mono ?_
      rintro e w1 ⟨rfl, hw⟩
      rw [hw]
      clear hw
      go_wp2
      go_ret
      exact ⟨rfl, rfl⟩
    · go_enter Tryz.func167, Tryz.ntmps167
      go_wp2_with fail
      refine H1.out.mono ?_
      rintro e w1 ⟨rfl, hw⟩
      rw [hw]
      clear hw
      go_wp2_with fail
      refine H2.out.mono ?_
      rintro e w1 ⟨rfl, hw⟩
      rw [hw]
      clear hw
      go_wp2_with fail
      refine H3.out.mono ?_
      rintro e w1 ⟨rfl, hw⟩
      rw [hw]
      clear hw
      go_wp2
      go_ret
      exact ⟨by cases z <;> rfl, rfl⟩
theorem nums_any (b : Nat) (i q u : Int) (w : World) (c5 : w.cell? ⟨b, 5, none⟩ = some (.int .i64 i)) (c6 : w.cell? ⟨b, 6, none⟩ = some (.int .i64 q)) (c7 : w.cell? ⟨b, 7, none⟩ = some (.int .i64 u)) :
    Calls Tryz.prog 167 #[.pointer (some ⟨b, 0, none⟩)] w fun e w' => e = .returned (.bool (numsB i q u)) ∧ w' = w :=
  nums_core b i q u _ _ _ w c5 c6 c7 (isFrom1To_any _ _ w) (isFrom1To_any _ _ w) (isFrom1To_any _ _ w)
end Go.Proofs.YtfcbjcebkahehaaGreatDoor
namespace Go.Proofs.YtfcbjcebkahehaaGreatDoor
open Go.RowKit
theorem mark_body (l : List UInt8) (m : MarkP) (h : m.may) : l ++ byL 8 m.inst ++ byL 8 m.seq ++ byL 8 m.water ++ m.sys.body = l ++ m.body := by
  obtain ⟨h1, h2, h3, _⟩ := h
  unfold MarkP.body
  rw [byL_nbL 8 m.inst (by omega) (by simp; omega), byL_nbL 8 m.seq (by omega) (by simp; omega), byL_nbL 8 m.water (by omega) (by simp; omega)]
  simp only [List.append_assoc]
theorem may_iff (m : MarkP) : m.may ↔ (numsB m.inst m.seq m.water = true ∧ m.sys.may) := by
  unfold MarkP.may
  rw [numsB_iff]
  constructor
  · rintro ⟨a, b, c, d⟩; exact ⟨⟨a, b, c⟩, d⟩
  · rintro ⟨⟨a, b, c⟩, d⟩; exact ⟨a, b, c, d⟩
set_option maxRecDepth 4000 in
set_option maxHeartbeats 2000000 in
theorem mlay_any (b p : Nat) (m : MarkP) (oa : Option Addr) (cap : Nat) (M : Int) (P : Prop) (l : List UInt8) (w : World) (h : WrP w p M P l) (hM0 : 0 ≤ M) (hM1 : M ≤ 2147483647) (hb : b < p)
    (c0 : w.cell? ⟨b, 0, none⟩ = some (.int .i64 m.sys.stamp)) (c1 : w.cell? ⟨b, 1, none⟩ = some (.string ⟨m.sys.machine.toArray⟩)) (c2 : w.cell? ⟨b, 2, none⟩ = some (.int .i64 m.sys.user)) (c3 : w.cell? ⟨b, 3, none⟩ = some (.int .i64 m.sys.group))
    (c4 : w.cell? ⟨b, 4, none⟩ = some (.slice oa m.sys.groups.length cap)) (c5 : w.cell? ⟨b, 5, none⟩ = some (.int .i64 m.inst)) (c6 : w.cell? ⟨b, 6, none⟩ = some (.int .i64 m.seq)) (c7 : w.cell? ⟨b, 7, none⟩ = some (.int .i64 m.water))
    (hg : GsAt w p oa m.sys.groups) (hcap : m.sys.groups.length ≤ cap) (hlen : (m.sys.groups.length : Int) ≤ 9223372036854775807) (hr : P → (l.length : Int) + 364 ≤ M) :
    Calls Tryz.prog 137 #[.pointer (some ⟨b, 0, none⟩), .pointer (some ⟨p, 0, none⟩)] w (WPost p M (P ∧ m.may) (l ++ m.body) w) := by
  have HF0 : Hid (∀ w4, WrP w4 p M ((P ∧ numsB m.inst m.seq m.water = true) ∧ m.sys.may) (l ++ byL 8 m.inst ++ byL 8 m.seq ++ byL 8 m.water ++ m.sys.body) → WrP w4 p M (P ∧ m.may) (l ++ m.body)) := fun w4 h4 =>
    h4.iff (by rw [may_iff]; exact ⟨fun x => ⟨⟨x.1, x.2.1⟩, x.2.2⟩, fun x => ⟨x.1.1, x.1.2, x.2⟩⟩) (fun x => mark_body l m ((may_iff m).2 ⟨x.1.2, x.2⟩))
  obtain ⟨i, q, u, s⟩ := m
  simp only at c0 c1 c2 c3 c4 c5 c6 c7 hg hcap hlen HF0
  have K : Hid (∀ w1 : World, Below p w w1 → ∀ o, w1.cell? ⟨b, o, none⟩ = w.cell? ⟨b, o, none⟩) := fun w1 hB o => (cells_of_block (hB.block b hb) o).1
  have HL : Hid (∀ w3 l3, Below p w w3 → WrP w3 p M (P ∧ numsB i q u = true) l3 → ((P ∧ numsB i q u = true) → (l3.length : Int) + 340 ≤ M) → Calls Tryz.prog 112 #[.pointer (some ⟨b, 0, none⟩), .pointer (some ⟨p, 0, none⟩)] w3 (WPost p M ((P ∧ numsB i q u = true) ∧ s.may) (l3 ++ s.body) w3)) := fun w3 l3 hB h3 hr3 =>
    layWho_any b p s oa cap M _ l3 w3 h3 hM0 hM1 hb ((K.out w3 hB 0).trans c0) ((K.out w3 hB 1).trans c1) ((K.out w3 hB 2).trans c2) ((K.out w3 hB 3).trans c3) ((K.out w3 hB 4).trans c4) (hg.below hB) hcap hlen hr3
  have HR : Hid ((P ∧ numsB i q u = true) → (l.length : Int) + 364 ≤ M) := fun x => hr x.1
  have HM : Hid (0 ≤ M ∧ M ≤ 2147483647) := ⟨hM0, hM1⟩
  have HNU := hid (nums_any b i q u w c5 c6 c7)
  have HFA : Hid (Calls Tryz.prog 115 #[.pointer (some ⟨p, 0, none⟩), .int .i64 110] w (WPost p M (P ∧ False) l w)) := w_fail p M 110 P l w h (by decide)
  have HWW := hid h
  have HF := HF0
  clear HF0 h hg hr c0 c1 c2 c3 c4 hM0 hM1 hcap hlen
  cases hnb : numsB i q u
  · rw [hnb] at HNU
    have HNB := hid hnb
    go_enter Tryz.func137, Tryz.ntmps137
    go_wp2_with fail
    refine HNU.out.mono ?_
    rintro e w9 ⟨rfl, hw⟩
    rw [hw]
    clear hw
    go_wp2_with fail
    refine HFA.out.mono ?_
    rintro e W0 ⟨rfl, hw0, hB0⟩
    have HB0 : Hid (Below p w W0) := hB0
    have HW0 : Hid (WrP W0 p M (P ∧ numsB i q u = true) l) := hw0.iff (by rw [HNB.out]; simp) (fun _ => rfl)
    have c5 := (K.out W0 hB0 5).trans c5
    generalize hP0 : (P ∧ numsB i q u = true) = P0 at HL HF HR HW0
    clear hP0 hB0 hw0 hnb HNB
    have S1 : Hid (Calls Tryz.prog 168 #[.pointer (some ⟨p, 0, none⟩), .int .i64 i] W0 (WPost p M P0 (l ++ byL 8 i) W0)) := w_hyper p i M P0 l W0 HW0.out HM.out.1 HM.out.2 (fun x => by have := HR.out x; omega)
    go_wp2_with fail
    refine S1.out.mono ?_
    rintro e w1 ⟨rfl, hw1, hB1⟩
    have HB1 : Hid (Below p w w1) := HB0.out.trans hB1
    have d6 := (K.out w1 HB1.out 6).trans c6
    have d7 := (K.out w1 HB1.out 7).trans c7
    have S2 : Hid (Calls Tryz.prog 168 #[.pointer (some ⟨p, 0, none⟩), .int .i64 q] w1 (WPost p M P0 (l ++ byL 8 i ++ byL 8 q) w1)) := w_hyper p q M P0 _ w1 hw1 HM.out.1 HM.out.2 (fun x => by have := HR.out x; rw [List.length_append, byL_len]; omega)
    clear hB1 hw1 S1
    go_wp2_with fail
    refine S2.out.mono ?_
    rintro e w2 ⟨rfl, hw2, hB2⟩
    have HB2 : Hid (Below p w w2) := HB1.out.trans hB2
    have e7 := (K.out w2 HB2.out 7).trans c7
    have S3 : Hid (Calls Tryz.prog 168 #[.pointer (some ⟨p, 0, none⟩), .int .i64 u] w2 (WPost p M P0 (l ++ byL 8 i ++ byL 8 q ++ byL 8 u) w2)) := w_hyper p u M P0 _ w2 hw2 HM.out.1 HM.out.2 (fun x => by have := HR.out x; simp only [List.length_append, byL_len]; omega)
    clear hB2 hw2 S2 d6 d7
    go_wp2_with fail
    refine S3.out.mono ?_
    rintro e w3 ⟨rfl, hw3, hB3⟩
    have HB3 : Hid (Below p w w3) := HB2.out.trans hB3
    have S4 : Hid (Calls Tryz.prog 112 #[.pointer (some ⟨b, 0, none⟩), .pointer (some ⟨p, 0, none⟩)] w3 (WPost p M (P0 ∧ s.may) (l ++ byL 8 i ++ byL 8 q ++ byL 8 u ++ s.body) w3)) := HL.out w3 _ HB3.out hw3 (fun x => by have := HR.out x; simp only [List.length_append, byL_len]; omega)
    clear hB3 hw3 S3 e7
    go_wp2_with fail
    refine S4.out.mono ?_
    rintro e w4 ⟨rfl, hw4, hB4⟩
    have HB4 : Hid (Below p w w4) := HB3.out.trans hB4
    have HW4 := hid hw4
    clear hB4 hw4 S4
    go_wp2
    first | go_end0 | refine bodyPost_ret (results_none rfl _ _ _) rfl ?_
    exact ⟨rfl, HF.out _ HW4.out, HB4.out⟩
  · rw [hnb] at HNU
    obtain ⟨W0, hW0⟩ : ∃ x, x = w := ⟨_, rfl⟩
    have HB0 : Hid (Below p w W0) := by rw [hW0]; exact Below.refl _ _
    have HW0 : Hid (WrP W0 p M (P ∧ numsB i q u = true) l) := by rw [hW0]; exact HWW.out.iff ⟨fun x => x.1, fun x => ⟨x, hnb⟩⟩ (fun _ => rfl)
    have HE0 := hid hW0
    generalize hP0 : (P ∧ numsB i q u = true) = P0 at HL HF HR HW0
    clear hP0 hnb hW0
    go_enter Tryz.func137, Tryz.ntmps137
    go_wp2_with fail
    refine HNU.out.mono ?_
    rintro e w9 ⟨rfl, hw⟩
    rw [hw]
    clear hw
    rw [← HE0.out]
    have c5 := (K.out W0 HB0.out 5).trans c5
    have S1 : Hid (Calls Tryz.prog 168 #[.pointer (some ⟨p, 0, none⟩), .int .i64 i] W0 (WPost p M P0 (l ++ byL 8 i) W0)) := w_hyper p i M P0 l W0 HW0.out HM.out.1 HM.out.2 (fun x => by have := HR.out x; omega)
    go_wp2_with fail
    refine S1.out.mono ?_
    rintro e w1 ⟨rfl, hw1, hB1⟩
    have HB1 : Hid (Below p w w1) := HB0.out.trans hB1
    have d6 := (K.out w1 HB1.out 6).trans c6
    have d7 := (K.out w1 HB1.out 7).trans c7
    have S2 : Hid (Calls Tryz.prog 168 #[.pointer (some ⟨p, 0, none⟩), .int .i64 q] w1 (WPost p M P0 (l ++ byL 8 i ++ byL 8 q) w1)) := w_hyper p q M P0 _ w1 hw1 HM.out.1 HM.out.2 (fun x => by have := HR.out x; rw [List.length_append, byL_len]; omega)
    clear hB1 hw1 S1
    go_wp2_with fail
    refine S2.out.mono ?_
    rintro e w2 ⟨rfl, hw2, hB2⟩
    have HB2 : Hid (Below p w w2) := HB1.out.trans hB2
    have e7 := (K.out w2 HB2.out 7).trans c7
    have S3 : Hid (Calls Tryz.prog 168 #[.pointer (some ⟨p, 0, none⟩), .int .i64 u] w2 (WPost p M P0 (l ++ byL 8 i ++ byL 8 q ++ byL 8 u) w2)) := w_hyper p u M P0 _ w2 hw2 HM.out.1 HM.out.2 (fun x => by have := HR.out x; simp only [List.length_append, byL_len]; omega)
    clear hB2 hw2 S2 d6 d7
    go_wp2_with fail
    refine S3.out.mono ?_
    rintro e w3 ⟨rfl, hw3, hB3⟩
    have HB3 : Hid (Below p w w3) := HB2.out.trans hB3
    have S4 : Hid (Calls Tryz.prog 112 #[.pointer (some ⟨b, 0, none⟩), .pointer (some ⟨p, 0, none⟩)] w3 (WPost p M (P0 ∧ s.may) (l ++ byL 8 i ++ byL 8 q ++ byL 8 u ++ s.body) w3)) := HL.out w3 _ HB3.out hw3 (fun x => by have := HR.out x; simp only [List.length_append, byL_len]; omega)
    clear hB3 hw3 S3 e7
    go_wp2_with fail
    refine S4.out.mono ?_
    rintro e w4 ⟨rfl, hw4, hB4⟩
    have HB4 : Hid (Below p w w4) := HB3.out.trans hB4
    have HW4 := hid hw4
    clear hB4 hw4 S4
    go_wp2
    first | go_end0 | refine bodyPost_ret (results_none rfl _ _ _) rfl ?_
    exact ⟨rfl, HF.out _ HW4.out, HB4.out⟩
end Go.Proofs.YtfcbjcebkahehaaGreatDoor
