/- The document's own Reader: texts. -/
import Derived.Test.YtihcdahmfdijoaaGreatDoorDc
import Derived.Deep.RegionHeld
namespace Go.Proofs.YtihcdahmfdijoaaGreatDoor
open Go.RowKit
theorem below_dr {B : Nat} {a w : World} (h : Below B a w) : Below B a w.drew := below_drew h 1

set_option maxRecDepth 4000 in
theorem op_A {Q : World → Prop} (p : Nat) (a n z : Int) (P : ByteArray) (w : World) (ha0 : 0 ≤ a) (ha1 : a ≤ 4) (hn0 : 0 ≤ n) (hn1 : n ≤ 4294967295) (hP : (P.size : Int) ≤ 3) (hz : a + n + (P.size : Int) = z)
    (HP : Hid (∀ w, Calls Tryz.prog 86 #[.int .i64 n] w fun e w' => e = .returned (.string P) ∧ Below w.heap.size w w'))
    (HT : Hid (∀ w1, Below w.heap.size w w1 → Calls Tryz.prog 50 #[.pointer (some ⟨p, 0, none⟩), .int .i64 z] w1 fun e w' => e = .returned (.bool false) ∧ Q w')) :
    Calls Tryz.prog 69 #[.pointer (some ⟨p, 0, none⟩), .int .i64 a, .int .i64 n] w fun e w' => e = .returned (.string ⟨#[]⟩) ∧ Q w' := by
  go_enter Tryz.func69, Tryz.ntmps69
  go_wp2_with fail
  refine (HP.out _).mono ?_
  rintro e w1 ⟨rfl, hB⟩
  have HB : Hid (Below w.heap.size w w1) := hB
  clear hB
  go_wp2_with fail
  refine (HT.out _ HB.out).mono ?_
  rintro e w2 ⟨rfl, hQ⟩
  have HQ : Hid (Q w2) := hQ
  clear hQ
  go_wp2
  go_ret
  exact ⟨rfl, HQ.out⟩

set_option maxRecDepth 4000 in
theorem op_B (p : Nat) (a n z : Int) (P s X : ByteArray) (w : World) (ha0 : 0 ≤ a) (ha1 : a ≤ 4) (hn0 : 0 ≤ n) (hn1 : n ≤ 4294967295) (hP : (P.size : Int) ≤ 3) (hz : a + n + (P.size : Int) = z) (hzs : z ≤ (s.size : Int))
    (hX : s.extract (a + n).toNat z.toNat = X) (hne : (X.toList == P.toList) = false)
    (HP : Hid (∀ w, Calls Tryz.prog 86 #[.int .i64 n] w fun e w' => e = .returned (.string P) ∧ Below w.heap.size w w'))
    (HC : Hid (∀ w1, Below w.heap.size w w1 → w1.cell? ⟨p, 0, none⟩ = some (.string s) ∧ w1.cell? ⟨p, 1, none⟩ = some (.int .i64 0) ∧ w1.frozen? ⟨p, 1, none⟩ = false))
    (HT : Hid (∀ w1, Below w.heap.size w w1 → Calls Tryz.prog 50 #[.pointer (some ⟨p, 0, none⟩), .int .i64 z] w1 fun e w' => e = .returned (.bool true) ∧ w' = w1)) :
    Calls Tryz.prog 69 #[.pointer (some ⟨p, 0, none⟩), .int .i64 a, .int .i64 n] w fun e w' => e = .returned (.string ⟨#[]⟩) ∧ ∃ w1, Below w.heap.size w w1 ∧ w' = w1.setCell ⟨p, 1, none⟩ (.int .i64 24) := by
  have hsl : ∀ w, (Instr.slice 9 (.string s) (some (.int .i64 (IntKind.i64.wrap (a + n)))) (some (.int .i64 (IntKind.i64.wrap (IntKind.i64.wrap (a + n) + (P.size : Int))))) none).run Tryz.prog w = .ok (.string X) w := fun w => by
    have e1 : IntKind.i64.wrap (a + n) = a + n := by rw [IntKind.wrap_i64]; omega
    rw [e1, hz, show IntKind.i64.wrap z = z by rw [IntKind.wrap_i64]; omega, slice_rd w s (a + n) z (by omega) (by omega) hzs, hX]
  clear hX hzs
  go_enter Tryz.func69, Tryz.ntmps69
  go_wp2_with fail
  refine (HP.out _).mono ?_
  rintro e w1 ⟨rfl, hB⟩
  obtain ⟨hc0, hc1, hf1⟩ := HC.out w1 hB
  have HB : Hid (Below w.heap.size w w1) := hB
  clear hB
  go_wp2_with fail
  refine (HT.out _ HB.out).mono ?_
  rintro e w2 ⟨rfl, hw⟩
  have hw1 := hw.symm
  clear hw
  subst hw1
  go_wp2_with fail
  have hd0 : w1.drew.cell? ⟨p, 0, none⟩ = some (.string s) := hc0
  have HB1 : Hid (Below w.heap.size w w1.drew) := below_dr HB.out
  go_region_held (fun w' => w'.cell? ⟨p, 0, none⟩ = some (.string s)) (first | exact hc3 | exact hd0) (first | (go_at_call 86; refine (HP.out _).mono ?_; rintro e w3 ⟨rfl, hB3⟩; have hB4 : Below w.heap.size w w3 := HB1.out.trans (hB3.mono HB1.out.size); obtain ⟨hc3, hc4, hf4⟩ := HC.out w3 hB4; have HB4 : Hid (Below w.heap.size w w3) := hB4; clear hB3 hB4))
  all_goals (
    go_wp2
    go_ret
    exact ⟨rfl, _, HB4.out, rfl⟩)

set_option maxRecDepth 4000 in
theorem op_C {Q : World → Prop} (p : Nat) (a n z : Int) (P s t u : ByteArray) (w : World) (ha0 : 0 ≤ a) (ha1 : a ≤ 4) (hn0 : 0 ≤ n) (hn1 : n ≤ 4294967295) (hP : (P.size : Int) ≤ 3) (hz : a + n + (P.size : Int) = z) (hzs : z ≤ (s.size : Int))
    (hX : s.extract (a + n).toNat z.toNat = P) (ht : (t.size : Int) = z) (hu : t.extract a.toNat (a + n).toNat = u)
    (HP : Hid (∀ w, Calls Tryz.prog 86 #[.int .i64 n] w fun e w' => e = .returned (.string P) ∧ Below w.heap.size w w'))
    (HC : Hid (∀ w1, Below w.heap.size w w1 → w1.cell? ⟨p, 0, none⟩ = some (.string s) ∧ w1.cell? ⟨p, 1, none⟩ = some (.int .i64 0) ∧ w1.frozen? ⟨p, 1, none⟩ = false))
    (HT : Hid (∀ w1, Below w.heap.size w w1 → Calls Tryz.prog 50 #[.pointer (some ⟨p, 0, none⟩), .int .i64 z] w1 fun e w' => e = .returned (.bool true) ∧ w' = w1))
    (HK : Hid (∀ w1, Below w.heap.size w w1 → Calls Tryz.prog 51 #[.pointer (some ⟨p, 0, none⟩), .int .i64 z] w1 fun e w' => e = .returned (.string t) ∧ Q w')) :
    Calls Tryz.prog 69 #[.pointer (some ⟨p, 0, none⟩), .int .i64 a, .int .i64 n] w fun e w' => e = .returned (.string u) ∧ Q w' := by
  have hsl : ∀ w, (Instr.slice 9 (.string s) (some (.int .i64 (IntKind.i64.wrap (a + n)))) (some (.int .i64 (IntKind.i64.wrap (IntKind.i64.wrap (a + n) + (P.size : Int))))) none).run Tryz.prog w = .ok (.string P) w := fun w => by
    have e1 : IntKind.i64.wrap (a + n) = a + n := by rw [IntKind.wrap_i64]; omega
    rw [e1, hz, show IntKind.i64.wrap z = z by rw [IntKind.wrap_i64]; omega, slice_rd w s (a + n) z (by omega) (by omega) hzs, hX]
  have hs2 : ∀ w, (Instr.slice 9 (.string t) (some (.int .i64 a)) (some (.int .i64 (a + n))) none).run Tryz.prog w = .ok (.string u) w := fun w => by
    rw [slice_rd w t a (a + n) ha0 (by omega) (by omega), hu]
  clear hX hzs ht hu
  go_enter Tryz.func69, Tryz.ntmps69
  go_wp2_with fail
  refine (HP.out _).mono ?_
  rintro e w1 ⟨rfl, hB⟩
  obtain ⟨hc0, hc1, hf1⟩ := HC.out w1 hB
  have HB : Hid (Below w.heap.size w w1) := hB
  clear hB
  go_wp2_with fail
  refine (HT.out _ HB.out).mono ?_
  rintro e w2 ⟨rfl, hw⟩
  have hw1 := hw.symm
  clear hw
  subst hw1
  go_wp2_with fail
  have hd0 : w1.drew.cell? ⟨p, 0, none⟩ = some (.string s) := hc0
  have HB1 : Hid (Below w.heap.size w w1.drew) := below_dr HB.out
  go_region_held (fun w' => w'.cell? ⟨p, 0, none⟩ = some (.string s)) (first | exact hc3 | exact hd0) (first | (go_at_call 86; refine (HP.out _).mono ?_; rintro e w3 ⟨rfl, hB3⟩; have hB4 : Below w.heap.size w w3 := HB1.out.trans (hB3.mono HB1.out.size); obtain ⟨hc3, hc4, hf4⟩ := HC.out w3 hB4; have HB4 : Hid (Below w.heap.size w w3) := hB4; clear hB3 hB4))
  all_goals (
    go_wp2_with fail
    refine (HK.out _ HB4.out).mono ?_
    rintro e w5 ⟨rfl, hQ⟩
    have HQ : Hid (Q w5) := hQ
    clear hQ
    go_wp2
    go_ret
    exact ⟨rfl, HQ.out⟩)

end Go.Proofs.YtihcdahmfdijoaaGreatDoor
