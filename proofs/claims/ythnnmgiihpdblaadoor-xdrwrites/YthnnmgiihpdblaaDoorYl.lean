/- awake: the chapter's examples, true. -/
import Derived.Test.YthnnmgiihpdblaaDoorYk
namespace Go.Proofs.YthnnmgiihpdblaaDoor
open Go.RowKit

theorem ex1 : rlay 100 ⟨#[]⟩ 0 ⟨(byL 4 (-1)).toArray⟩ = (⟨#[255, 255, 255, 255]⟩, 0) := by kernel_rfl
theorem ex2 : rlay 100 ⟨#[255, 255, 255, 255]⟩ 0 (⟨#[104, 105]⟩ ++ ⟨(padL (⟨#[104, 105]⟩ : ByteArray).size).toArray⟩) = (⟨#[255, 255, 255, 255, 104, 105, 0, 0]⟩, 0) := by kernel_rfl
theorem ex3 : rlay 100 ⟨#[255, 255, 255, 255, 104, 105, 0, 0]⟩ 0 (⟨(byL 4 ((⟨#[97, 98, 99, 100, 101]⟩ : ByteArray).size : Int)).toArray⟩ ++ ⟨#[97, 98, 99, 100, 101]⟩ ++ ⟨(padL (⟨#[97, 98, 99, 100, 101]⟩ : ByteArray).size).toArray⟩) = (⟨#[255, 255, 255, 255, 104, 105, 0, 0, 0, 0, 0, 5, 97, 98, 99, 100, 101, 0, 0, 0]⟩, 0) := by kernel_rfl
theorem ex4 : rlay 100 ⟨#[255, 255, 255, 255, 104, 105, 0, 0, 0, 0, 0, 5, 97, 98, 99, 100, 101, 0, 0, 0]⟩ 0 ⟨(beL 4 (c32 1065353216)).toArray⟩ = (⟨#[255, 255, 255, 255, 104, 105, 0, 0, 0, 0, 0, 5, 97, 98, 99, 100, 101, 0, 0, 0, 63, 128, 0, 0]⟩, 0) := by kernel_rfl
theorem ex5 : rlay 7 ⟨#[]⟩ 0 ⟨(byL 4 1).toArray⟩ = (⟨#[0, 0, 0, 1]⟩, 0) := by kernel_rfl
theorem ex6 : rlay 7 ⟨#[0, 0, 0, 1]⟩ 0 ⟨(byL 4 2).toArray⟩ = (⟨#[0, 0, 0, 1]⟩, 23) := by kernel_rfl

set_option maxRecDepth 4000 in
set_option maxHeartbeats 8000000 in
theorem xawake_any (W : World) (hE : ErrT W) : Calls Tryd.prog 37 #[] W fun e w' => e = .returned (.bool true) ∧ Below W.heap.size W w' := by
  have HP1 : Hid (∀ w, Calls Tryd.prog 38 #[.int .i64 100] w fun e w' => e = .returned (.pointer (some ⟨w.heap.size, 0, none⟩)) ∧ w' = w.alloc (.cells #[.int .i64 100, .slice none 0 0, .nilIface] 93)) := fun w => pnew 100 w
  have HP2 : Hid (∀ w, Calls Tryd.prog 38 #[.int .i64 7] w fun e w' => e = .returned (.pointer (some ⟨w.heap.size, 0, none⟩)) ∧ w' = w.alloc (.cells #[.int .i64 7, .slice none 0 0, .nilIface] 93)) := fun w => pnew 7 w
  have HP3 : Hid (∀ w, Calls Tryd.prog 55 #[.string ⟨#[0, 0, 0, 2, 97, 98, 99, 0]⟩] w fun e w' => e = .returned (.pointer (some ⟨w.heap.size, 0, none⟩)) ∧ w' = w.alloc (.cells #[.string ⟨#[0, 0, 0, 2, 97, 98, 99, 0]⟩, .nilIface] 108)) := fun w => rdnew _ w
  have HA0 : Hid (Aw W (((W.alloc (.cells #[.int .i64 100, .slice none 0 0, .nilIface] 93)).alloc (.cells #[.string ⟨#[0, 0, 0, 2, 97, 98, 99, 0]⟩, .nilIface] 108)).alloc (.cells #[.int .i64 7, .slice none 0 0, .nilIface] 93)) W.heap.size (.slice none 0 0) ⟨#[]⟩ 0 (W.heap.size + 1) ⟨#[0, 0, 0, 2, 97, 98, 99, 0]⟩ (W.heap.size + 2) (.slice none 0 0) ⟨#[]⟩ 0) := Aw.start W
  have S1 : Hid (∀ v w1, Aw W w1 W.heap.size v ⟨#[]⟩ 0 (W.heap.size + 1) ⟨#[0, 0, 0, 2, 97, 98, 99, 0]⟩ (W.heap.size + 2) (.slice none 0 0) ⟨#[]⟩ 0 → Calls Tryd.prog 56 #[.pointer (some ⟨W.heap.size, 0, none⟩), .int .i64 (-1)] w1 fun e w' => e = .returned (.tuple #[]) ∧ ∃ v', Aw W w' W.heap.size v' ⟨#[255, 255, 255, 255]⟩ 0 (W.heap.size + 1) ⟨#[0, 0, 0, 2, 97, 98, 99, 0]⟩ (W.heap.size + 2) (.slice none 0 0) ⟨#[]⟩ 0) := fun v w1 h => by
    have r := pint_ok _ _ (-1) 100 0 _ w1 h.a (by decide) (by decide) (by decide) (by decide)
    rw [ex1] at r
    exact r.mono fun e w' hp => h.first hp
  have S2 : Hid (∀ v w1, Aw W w1 W.heap.size v ⟨#[255, 255, 255, 255]⟩ 0 (W.heap.size + 1) ⟨#[0, 0, 0, 2, 97, 98, 99, 0]⟩ (W.heap.size + 2) (.slice none 0 0) ⟨#[]⟩ 0 → Calls Tryd.prog 57 #[.pointer (some ⟨W.heap.size, 0, none⟩), .int .i64 2, .string ⟨#[104, 105]⟩] w1 fun e w' => e = .returned (.tuple #[]) ∧ ∃ v', Aw W w' W.heap.size v' ⟨#[255, 255, 255, 255, 104, 105, 0, 0]⟩ 0 (W.heap.size + 1) ⟨#[0, 0, 0, 2, 97, 98, 99, 0]⟩ (W.heap.size + 2) (.slice none 0 0) ⟨#[]⟩ 0) := fun v w1 h => by
    have r := pfixed_ok _ _ 2 100 0 _ ⟨#[104, 105]⟩ w1 h.a (by decide) (by decide) (by decide) (by decide) rfl
    rw [ex2] at r
    exact r.mono fun e w' hp => h.first hp
  have S3 : Hid (∀ v w1, Aw W w1 W.heap.size v ⟨#[255, 255, 255, 255, 104, 105, 0, 0]⟩ 0 (W.heap.size + 1) ⟨#[0, 0, 0, 2, 97, 98, 99, 0]⟩ (W.heap.size + 2) (.slice none 0 0) ⟨#[]⟩ 0 → Calls Tryd.prog 58 #[.pointer (some ⟨W.heap.size, 0, none⟩), .int .i64 9, .string ⟨#[97, 98, 99, 100, 101]⟩] w1 fun e w' => e = .returned (.tuple #[]) ∧ ∃ v', Aw W w' W.heap.size v' ⟨#[255, 255, 255, 255, 104, 105, 0, 0, 0, 0, 0, 5, 97, 98, 99, 100, 101, 0, 0, 0]⟩ 0 (W.heap.size + 1) ⟨#[0, 0, 0, 2, 97, 98, 99, 0]⟩ (W.heap.size + 2) (.slice none 0 0) ⟨#[]⟩ 0) := fun v w1 h => by
    have r := popaque_ok _ _ 9 100 0 _ ⟨#[97, 98, 99, 100, 101]⟩ w1 h.a (by decide) (by decide) (by decide) (by decide) (by decide)
    rw [ex3] at r
    exact r.mono fun e w' hp => h.first hp
  have S4 : Hid (∀ v w1, Aw W w1 W.heap.size v ⟨#[255, 255, 255, 255, 104, 105, 0, 0, 0, 0, 0, 5, 97, 98, 99, 100, 101, 0, 0, 0]⟩ 0 (W.heap.size + 1) ⟨#[0, 0, 0, 2, 97, 98, 99, 0]⟩ (W.heap.size + 2) (.slice none 0 0) ⟨#[]⟩ 0 → Calls Tryd.prog 59 #[.pointer (some ⟨W.heap.size, 0, none⟩), .float .f32 1065353216] w1 fun e w' => e = .returned (.tuple #[]) ∧ ∃ v', Aw W w' W.heap.size v' ⟨#[255, 255, 255, 255, 104, 105, 0, 0, 0, 0, 0, 5, 97, 98, 99, 100, 101, 0, 0, 0, 63, 128, 0, 0]⟩ 0 (W.heap.size + 1) ⟨#[0, 0, 0, 2, 97, 98, 99, 0]⟩ (W.heap.size + 2) (.slice none 0 0) ⟨#[]⟩ 0) := fun v w1 h => by
    have r := pfloat _ 1065353216 _ 100 0 _ w1 h.a (by decide) (by decide) (by decide) (by decide) (by decide)
    rw [ex4] at r
    exact r.mono fun e w' hp => h.first hp
  have S5 : Hid (∀ v w1, Aw W w1 W.heap.size v ⟨#[255, 255, 255, 255, 104, 105, 0, 0, 0, 0, 0, 5, 97, 98, 99, 100, 101, 0, 0, 0, 63, 128, 0, 0]⟩ 0 (W.heap.size + 1) ⟨#[0, 0, 0, 2, 97, 98, 99, 0]⟩ (W.heap.size + 2) (.slice none 0 0) ⟨#[]⟩ 0 → Calls Tryd.prog 60 #[.pointer (some ⟨W.heap.size, 0, none⟩)] w1 fun e w' => e = .returned (.tuple #[.string ⟨#[255, 255, 255, 255, 104, 105, 0, 0, 0, 0, 0, 5, 97, 98, 99, 100, 101, 0, 0, 0, 63, 128, 0, 0]⟩, .int .i64 0]) ∧ Aw W w' W.heap.size v ⟨#[255, 255, 255, 255, 104, 105, 0, 0, 0, 0, 0, 5, 97, 98, 99, 100, 101, 0, 0, 0, 63, 128, 0, 0]⟩ 0 (W.heap.size + 1) ⟨#[0, 0, 0, 2, 97, 98, 99, 0]⟩ (W.heap.size + 2) (.slice none 0 0) ⟨#[]⟩ 0) := fun v w1 h =>
    (pdone_any _ v 100 0 _ w1 h.a ((cells_of_block (h.low.block 1 hE.size) 0).1.trans hE)).mono fun e w' hp => ⟨hp.1, h.below hp.2⟩
  have S6 : Hid (∀ v w1, Aw W w1 W.heap.size v ⟨#[255, 255, 255, 255, 104, 105, 0, 0, 0, 0, 0, 5, 97, 98, 99, 100, 101, 0, 0, 0, 63, 128, 0, 0]⟩ 0 (W.heap.size + 1) ⟨#[0, 0, 0, 2, 97, 98, 99, 0]⟩ (W.heap.size + 2) (.slice none 0 0) ⟨#[]⟩ 0 → Calls Tryd.prog 61 #[.pointer (some ⟨(W.heap.size + 1), 0, none⟩)] w1 fun e w' => e = .returned (.int .i64 2) ∧ Aw W w' W.heap.size v ⟨#[255, 255, 255, 255, 104, 105, 0, 0, 0, 0, 0, 5, 97, 98, 99, 100, 101, 0, 0, 0, 63, 128, 0, 0]⟩ 0 (W.heap.size + 1) ⟨#[97, 98, 99, 0]⟩ (W.heap.size + 2) (.slice none 0 0) ⟨#[]⟩ 0) := fun v w1 h =>
    (rduint_ex _ w1 h.rd).mono fun e w' hp => ⟨hp.1, h.read hp.2.1 hp.2.2⟩
  have S7 : Hid (∀ v w1, Aw W w1 W.heap.size v ⟨#[255, 255, 255, 255, 104, 105, 0, 0, 0, 0, 0, 5, 97, 98, 99, 100, 101, 0, 0, 0, 63, 128, 0, 0]⟩ 0 (W.heap.size + 1) ⟨#[97, 98, 99, 0]⟩ (W.heap.size + 2) (.slice none 0 0) ⟨#[]⟩ 0 → Calls Tryd.prog 62 #[.pointer (some ⟨(W.heap.size + 1), 0, none⟩), .int .i64 3] w1 fun e w' => e = .returned (.string ⟨#[97, 98, 99]⟩) ∧ Aw W w' W.heap.size v ⟨#[255, 255, 255, 255, 104, 105, 0, 0, 0, 0, 0, 5, 97, 98, 99, 100, 101, 0, 0, 0, 63, 128, 0, 0]⟩ 0 (W.heap.size + 1) ⟨#[]⟩ (W.heap.size + 2) (.slice none 0 0) ⟨#[]⟩ 0) := fun v w1 h =>
    (rdfixed_ex _ w1 h.rd).mono fun e w' hp => ⟨hp.1, h.read hp.2.1 hp.2.2⟩
  have S8 : Hid (∀ v w1, Aw W w1 W.heap.size v ⟨#[255, 255, 255, 255, 104, 105, 0, 0, 0, 0, 0, 5, 97, 98, 99, 100, 101, 0, 0, 0, 63, 128, 0, 0]⟩ 0 (W.heap.size + 1) ⟨#[]⟩ (W.heap.size + 2) (.slice none 0 0) ⟨#[]⟩ 0 → Calls Tryd.prog 63 #[.pointer (some ⟨(W.heap.size + 1), 0, none⟩)] w1 fun e w' => e = .returned (.int .i64 0) ∧ Aw W w' W.heap.size v ⟨#[255, 255, 255, 255, 104, 105, 0, 0, 0, 0, 0, 5, 97, 98, 99, 100, 101, 0, 0, 0, 63, 128, 0, 0]⟩ 0 (W.heap.size + 1) ⟨#[]⟩ (W.heap.size + 2) (.slice none 0 0) ⟨#[]⟩ 0) := fun v w1 h =>
    (rddone_ex _ w1 h.rd).mono fun e w' hp => ⟨hp.1, h.below hp.2⟩
  have S9 : Hid (∀ v w1, Aw W w1 W.heap.size v ⟨#[255, 255, 255, 255, 104, 105, 0, 0, 0, 0, 0, 5, 97, 98, 99, 100, 101, 0, 0, 0, 63, 128, 0, 0]⟩ 0 (W.heap.size + 1) ⟨#[]⟩ (W.heap.size + 2) (.slice none 0 0) ⟨#[]⟩ 0 → Calls Tryd.prog 56 #[.pointer (some ⟨(W.heap.size + 2), 0, none⟩), .int .i64 1] w1 fun e w' => e = .returned (.tuple #[]) ∧ ∃ u', Aw W w' W.heap.size v ⟨#[255, 255, 255, 255, 104, 105, 0, 0, 0, 0, 0, 5, 97, 98, 99, 100, 101, 0, 0, 0, 63, 128, 0, 0]⟩ 0 (W.heap.size + 1) ⟨#[]⟩ (W.heap.size + 2) u' ⟨#[0, 0, 0, 1]⟩ 0) := fun v w1 h => by
    have r := pint_ok _ _ 1 7 0 _ w1 h.b (by decide) (by decide) (by decide) (by decide)
    rw [ex5] at r
    exact r.mono fun e w' hp => h.second hp
  have S10 : Hid (∀ v u w1, Aw W w1 W.heap.size v ⟨#[255, 255, 255, 255, 104, 105, 0, 0, 0, 0, 0, 5, 97, 98, 99, 100, 101, 0, 0, 0, 63, 128, 0, 0]⟩ 0 (W.heap.size + 1) ⟨#[]⟩ (W.heap.size + 2) u ⟨#[0, 0, 0, 1]⟩ 0 → Calls Tryd.prog 56 #[.pointer (some ⟨(W.heap.size + 2), 0, none⟩), .int .i64 2] w1 fun e w' => e = .returned (.tuple #[]) ∧ ∃ u', Aw W w' W.heap.size v ⟨#[255, 255, 255, 255, 104, 105, 0, 0, 0, 0, 0, 5, 97, 98, 99, 100, 101, 0, 0, 0, 63, 128, 0, 0]⟩ 0 (W.heap.size + 1) ⟨#[]⟩ (W.heap.size + 2) u' ⟨#[0, 0, 0, 1]⟩ 23) := fun v u w1 h => by
    have r := pint_ok _ _ 2 7 0 _ w1 h.b (by decide) (by decide) (by decide) (by decide)
    rw [ex6] at r
    exact r.mono fun e w' hp => h.second hp
  have S11 : Hid (∀ v u w1, Aw W w1 W.heap.size v ⟨#[255, 255, 255, 255, 104, 105, 0, 0, 0, 0, 0, 5, 97, 98, 99, 100, 101, 0, 0, 0, 63, 128, 0, 0]⟩ 0 (W.heap.size + 1) ⟨#[]⟩ (W.heap.size + 2) u ⟨#[0, 0, 0, 1]⟩ 23 → Calls Tryd.prog 60 #[.pointer (some ⟨(W.heap.size + 2), 0, none⟩)] w1 fun e w' => e = .returned (.tuple #[.string ⟨#[]⟩, .int .i64 23]) ∧ Aw W w' W.heap.size v ⟨#[255, 255, 255, 255, 104, 105, 0, 0, 0, 0, 0, 5, 97, 98, 99, 100, 101, 0, 0, 0, 63, 128, 0, 0]⟩ 0 (W.heap.size + 1) ⟨#[]⟩ (W.heap.size + 2) u ⟨#[0, 0, 0, 1]⟩ 23) := fun v u w1 h =>
    (pdone_any _ u 7 23 _ w1 h.b ((cells_of_block (h.low.block 1 hE.size) 0).1.trans hE)).mono fun e w' hp => ⟨hp.1, h.below hp.2⟩
  have S12 : Hid (∀ v u w1, Aw W w1 W.heap.size v ⟨#[255, 255, 255, 255, 104, 105, 0, 0, 0, 0, 0, 5, 97, 98, 99, 100, 101, 0, 0, 0, 63, 128, 0, 0]⟩ 0 (W.heap.size + 1) ⟨#[]⟩ (W.heap.size + 2) u ⟨#[0, 0, 0, 1]⟩ 23 → Calls Tryd.prog 64 #[.pointer (some ⟨(W.heap.size + 2), 0, none⟩)] w1 fun e w' => e = .returned (.int .i64 4) ∧ w' = w1) := fun v u w1 h => plen _ u 7 23 ⟨#[0, 0, 0, 1]⟩ w1 h.b
  clear hE
  go_enter Tryd.func37, Tryd.ntmps37
  go_wp2_with fail
  refine (HP1.out _).mono ?_
  rintro e w2 ⟨rfl, rfl⟩
  go_wp2_with fail
  refine (HP3.out _).mono ?_
  rintro e w2 ⟨rfl, rfl⟩
  go_wp2_with fail
  refine (HP2.out _).mono ?_
  rintro e w2 ⟨rfl, rfl⟩
  go_wp2_with fail
  refine (S1.out _ _ HA0.out).mono ?_
  rintro e w1 ⟨rfl, v1, ha⟩
  have HA1 : Hid (Aw W w1 W.heap.size v1 ⟨#[255, 255, 255, 255]⟩ 0 (W.heap.size + 1) ⟨#[0, 0, 0, 2, 97, 98, 99, 0]⟩ (W.heap.size + 2) (.slice none 0 0) ⟨#[]⟩ 0) := ha
  clear ha
  go_wp2_with fail
  refine (S2.out _ _ HA1.out).mono ?_
  rintro e w2 ⟨rfl, v2, ha⟩
  have HA2 : Hid (Aw W w2 W.heap.size v2 ⟨#[255, 255, 255, 255, 104, 105, 0, 0]⟩ 0 (W.heap.size + 1) ⟨#[0, 0, 0, 2, 97, 98, 99, 0]⟩ (W.heap.size + 2) (.slice none 0 0) ⟨#[]⟩ 0) := ha
  clear ha
  go_wp2_with fail
  refine (S3.out _ _ HA2.out).mono ?_
  rintro e w3 ⟨rfl, v3, ha⟩
  have HA3 : Hid (Aw W w3 W.heap.size v3 ⟨#[255, 255, 255, 255, 104, 105, 0, 0, 0, 0, 0, 5, 97, 98, 99, 100, 101, 0, 0, 0]⟩ 0 (W.heap.size + 1) ⟨#[0, 0, 0, 2, 97, 98, 99, 0]⟩ (W.heap.size + 2) (.slice none 0 0) ⟨#[]⟩ 0) := ha
  clear ha
  go_wp2_with fail
  refine (S4.out _ _ HA3.out).mono ?_
  rintro e w4 ⟨rfl, v4, ha⟩
  have HA4 : Hid (Aw W w4 W.heap.size v4 ⟨#[255, 255, 255, 255, 104, 105, 0, 0, 0, 0, 0, 5, 97, 98, 99, 100, 101, 0, 0, 0, 63, 128, 0, 0]⟩ 0 (W.heap.size + 1) ⟨#[0, 0, 0, 2, 97, 98, 99, 0]⟩ (W.heap.size + 2) (.slice none 0 0) ⟨#[]⟩ 0) := ha
  clear ha
  go_wp2_with fail
  refine (S5.out _ _ HA4.out).mono ?_
  rintro e w5 ⟨rfl, ha⟩
  have HA5 : Hid (Aw W w5 W.heap.size v4 ⟨#[255, 255, 255, 255, 104, 105, 0, 0, 0, 0, 0, 5, 97, 98, 99, 100, 101, 0, 0, 0, 63, 128, 0, 0]⟩ 0 (W.heap.size + 1) ⟨#[0, 0, 0, 2, 97, 98, 99, 0]⟩ (W.heap.size + 2) (.slice none 0 0) ⟨#[]⟩ 0) := ha
  clear ha
  go_wp2_with fail
  refine (S6.out _ _ HA5.out).mono ?_
  rintro e w6 ⟨rfl, ha⟩
  have HA6 : Hid (Aw W w6 W.heap.size v4 ⟨#[255, 255, 255, 255, 104, 105, 0, 0, 0, 0, 0, 5, 97, 98, 99, 100, 101, 0, 0, 0, 63, 128, 0, 0]⟩ 0 (W.heap.size + 1) ⟨#[97, 98, 99, 0]⟩ (W.heap.size + 2) (.slice none 0 0) ⟨#[]⟩ 0) := ha
  clear ha
  go_wp2_with fail
  refine (S7.out _ _ HA6.out).mono ?_
  rintro e w7 ⟨rfl, ha⟩
  have HA7 : Hid (Aw W w7 W.heap.size v4 ⟨#[255, 255, 255, 255, 104, 105, 0, 0, 0, 0, 0, 5, 97, 98, 99, 100, 101, 0, 0, 0, 63, 128, 0, 0]⟩ 0 (W.heap.size + 1) ⟨#[]⟩ (W.heap.size + 2) (.slice none 0 0) ⟨#[]⟩ 0) := ha
  clear ha
  go_wp2_with fail
  refine (S8.out _ _ HA7.out).mono ?_
  rintro e w8 ⟨rfl, ha⟩
  have HA8 : Hid (Aw W w8 W.heap.size v4 ⟨#[255, 255, 255, 255, 104, 105, 0, 0, 0, 0, 0, 5, 97, 98, 99, 100, 101, 0, 0, 0, 63, 128, 0, 0]⟩ 0 (W.heap.size + 1) ⟨#[]⟩ (W.heap.size + 2) (.slice none 0 0) ⟨#[]⟩ 0) := ha
  clear ha
  go_wp2_with fail
  refine (S9.out _ _ HA8.out).mono ?_
  rintro e w9 ⟨rfl, u9, ha⟩
  have HA9 : Hid (Aw W w9 W.heap.size v4 ⟨#[255, 255, 255, 255, 104, 105, 0, 0, 0, 0, 0, 5, 97, 98, 99, 100, 101, 0, 0, 0, 63, 128, 0, 0]⟩ 0 (W.heap.size + 1) ⟨#[]⟩ (W.heap.size + 2) u9 ⟨#[0, 0, 0, 1]⟩ 0) := ha
  clear ha
  go_wp2_with fail
  refine (S10.out _ _ _ HA9.out).mono ?_
  rintro e w10 ⟨rfl, u10, ha⟩
  have HA10 : Hid (Aw W w10 W.heap.size v4 ⟨#[255, 255, 255, 255, 104, 105, 0, 0, 0, 0, 0, 5, 97, 98, 99, 100, 101, 0, 0, 0, 63, 128, 0, 0]⟩ 0 (W.heap.size + 1) ⟨#[]⟩ (W.heap.size + 2) u10 ⟨#[0, 0, 0, 1]⟩ 23) := ha
  clear ha
  go_wp2_with fail
  refine (S11.out _ _ _ HA10.out).mono ?_
  rintro e w11 ⟨rfl, ha⟩
  have HA11 : Hid (Aw W w11 W.heap.size v4 ⟨#[255, 255, 255, 255, 104, 105, 0, 0, 0, 0, 0, 5, 97, 98, 99, 100, 101, 0, 0, 0, 63, 128, 0, 0]⟩ 0 (W.heap.size + 1) ⟨#[]⟩ (W.heap.size + 2) u10 ⟨#[0, 0, 0, 1]⟩ 23) := ha
  clear ha
  go_wp2_with fail
  refine (S12.out _ _ _ HA11.out).mono ?_
  rintro e w12 ⟨rfl, hw⟩
  have hw1 := hw.symm
  clear hw
  subst hw1
  go_wp2
  go_ret
  exact ⟨rfl, HA11.out.low⟩

end Go.Proofs.YthnnmgiihpdblaaDoor
