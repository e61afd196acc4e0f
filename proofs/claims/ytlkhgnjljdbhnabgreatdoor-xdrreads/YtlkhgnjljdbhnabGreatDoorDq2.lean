/- The document's own Reader: texts. The document's own Reader: Fixed, Count, Opaque, Rest. The document's own Reader: Count, Opaque. -/
import Derived.Test.YtlkhgnjljdbhnabGreatDoorDq1
import Derived.Deep.RegionHeld
namespace Go.Proofs.YtlkhgnjljdbhnabGreatDoor
open Go.RowKit

theorem below_dr {B : Nat} {a w : World} (h : Below B a w) : Below B a w.drew := below_drew h 1

set_option maxRecDepth 4000 in
theorem op_A {Q : World → Prop} (p : Nat) (a n z : Int) (P : ByteArray) (w : World) (ha0 : 0 ≤ a) (ha1 : a ≤ 4) (hn0 : 0 ≤ n) (hn1 : n ≤ 4294967295) (hP : (P.size : Int) ≤ 3) (hz : a + n + (P.size : Int) = z)
    (HP : Hid (∀ w, Calls Tryz.prog 80 #[.int .i64 n] w fun e w' => e = .returned (.string P) ∧ Below w.heap.size w w'))
    (HT : Hid (∀ w1, Below w.heap.size w w1 → Calls Tryz.prog 59 #[.pointer (some ⟨p, 0, none⟩), .int .i64 z] w1 fun e w' => e = .returned (.bool false) ∧ Q w')) :
    Calls Tryz.prog 69 #[.pointer (some ⟨p, 0, none⟩), .int .i64 a, .int .i64 n] w fun e w' => e = .returned (.string ⟨#[]⟩) ∧ Q w' := by
  go_enter Tryz.func69, Tryz.ntmps69
  go_wp2_with fail
  refine (HP.out _).mono ?_
  rintro e w1 ⟨rfl, hB⟩
  have HB : Hid (Below w.heap.size w w1) := hB
  clear hB
  go_wp2_with fail
  refine (HT.out _ HB.out).mono ?_
  rintro e w2 ⟨rfl, hQ⟩
  have HQ : Hid (Q w2) := hQ
  clear hQ
  go_wp2
  go_ret
  exact ⟨rfl, HQ.out⟩

set_option maxRecDepth 4000 in
theorem op_B (p : Nat) (a n z : Int) (P s X : ByteArray) (w : World) (ha0 : 0 ≤ a) (ha1 : a ≤ 4) (hn0 : 0 ≤ n) (hn1 : n ≤ 4294967295) (hP : (P.size : Int) ≤ 3) (hz : a + n + (P.size : Int) = z) (hzs : z ≤ (s.size : Int))
    (hX : s.extract (a + n).toNat z.toNat = X) (hne : (X.toList == P.toList) = false)
    (HP : Hid (∀ w, Calls Tryz.prog 80 #[.int .i64 n] w fun e w' => e = .returned (.string P) ∧ Below w.heap.size w w'))
    (HC : Hid (∀ w1, Below w.heap.size w w1 → w1.cell? ⟨p, 0, none⟩ = some (.string s) ∧ w1.cell? ⟨p, 1, none⟩ = some (.int .i64 0) ∧ w1.frozen? ⟨p, 1, none⟩ = false))
    (HT : Hid (∀ w1, Below w.heap.size w w1 → Calls Tryz.prog 59 #[.pointer (some ⟨p, 0, none⟩), .int .i64 z] w1 fun e w' => e = .returned (.bool true) ∧ w' = w1)) :
    Calls Tryz.prog 69 #[.pointer (some ⟨p, 0, none⟩), .int .i64 a, .int .i64 n] w fun e w' => e = .returned (.string ⟨#[]⟩) ∧ ∃ w1, Below w.heap.size w w1 ∧ w' = w1.setCell ⟨p, 1, none⟩ (.int .i64 24) := by
  have hsl : ∀ w, (Instr.slice 9 (.string s) (some (.int .i64 (IntKind.i64.wrap (a + n)))) (some (.int .i64 (IntKind.i64.wrap (IntKind.i64.wrap (a + n) + (P.size : Int))))) none).run Tryz.prog w = .ok (.string X) w := fun w => by
    have e1 : IntKind.i64.wrap (a + n) = a + n := by rw [IntKind.wrap_i64]; omega
    rw [e1, hz, show IntKind.i64.wrap z = z by rw [IntKind.wrap_i64]; omega, slice_rd w s (a + n) z (by omega) (by omega) hzs, hX]
  clear hX hzs
  go_enter Tryz.func69, Tryz.ntmps69
  go_wp2_with fail
  refine (HP.out _).mono ?_
  rintro e w1 ⟨rfl, hB⟩
  obtain ⟨hc0, hc1, hf1⟩ := HC.out w1 hB
  have HB : Hid (Below w.heap.size w w1) := hB
  clear hB
  go_wp2_with fail
  refine (HT.out _ HB.out).mono ?_
  rintro e w2 ⟨rfl, hw⟩
  have hw1 := hw.symm
  clear hw
  subst hw1
  go_wp2_with fail
  have hd0 : w1.drew.cell? ⟨p, 0, none⟩ = some (.string s) := hc0
  have HB1 : Hid (Below w.heap.size w w1.drew) := below_dr HB.out
  go_region_held (fun w' => w'.cell? ⟨p, 0, none⟩ = some (.string s)) (first | exact hc3 | exact hd0) (first | (go_at_call 80; refine (HP.out _).mono ?_; rintro e w3 ⟨rfl, hB3⟩; have hB4 : Below w.heap.size w w3 := HB1.out.trans (hB3.mono HB1.out.size); obtain ⟨hc3, hc4, hf4⟩ := HC.out w3 hB4; have HB4 : Hid (Below w.heap.size w w3) := hB4; clear hB3 hB4))
  all_goals (
    go_wp2
    go_ret
    exact ⟨rfl, _, HB4.out, rfl⟩)

set_option maxRecDepth 4000 in
theorem op_C {Q : World → Prop} (p : Nat) (a n z : Int) (P s t u : ByteArray) (w : World) (ha0 : 0 ≤ a) (ha1 : a ≤ 4) (hn0 : 0 ≤ n) (hn1 : n ≤ 4294967295) (hP : (P.size : Int) ≤ 3) (hz : a + n + (P.size : Int) = z) (hzs : z ≤ (s.size : Int))
    (hX : s.extract (a + n).toNat z.toNat = P) (ht : (t.size : Int) = z) (hu : t.extract a.toNat (a + n).toNat = u)
    (HP : Hid (∀ w, Calls Tryz.prog 80 #[.int .i64 n] w fun e w' => e = .returned (.string P) ∧ Below w.heap.size w w'))
    (HC : Hid (∀ w1, Below w.heap.size w w1 → w1.cell? ⟨p, 0, none⟩ = some (.string s) ∧ w1.cell? ⟨p, 1, none⟩ = some (.int .i64 0) ∧ w1.frozen? ⟨p, 1, none⟩ = false))
    (HT : Hid (∀ w1, Below w.heap.size w w1 → Calls Tryz.prog 59 #[.pointer (some ⟨p, 0, none⟩), .int .i64 z] w1 fun e w' => e = .returned (.bool true) ∧ w' = w1))
    (HK : Hid (∀ w1, Below w.heap.size w w1 → Calls Tryz.prog 60 #[.pointer (some ⟨p, 0, none⟩), .int .i64 z] w1 fun e w' => e = .returned (.string t) ∧ Q w')) :
    Calls Tryz.prog 69 #[.pointer (some ⟨p, 0, none⟩), .int .i64 a, .int .i64 n] w fun e w' => e = .returned (.string u) ∧ Q w' := by
  have hsl : ∀ w, (Instr.slice 9 (.string s) (some (.int .i64 (IntKind.i64.wrap (a + n)))) (some (.int .i64 (IntKind.i64.wrap (IntKind.i64.wrap (a + n) + (P.size : Int))))) none).run Tryz.prog w = .ok (.string P) w := fun w => by
    have e1 : IntKind.i64.wrap (a + n) = a + n := by rw [IntKind.wrap_i64]; omega
    rw [e1, hz, show IntKind.i64.wrap z = z by rw [IntKind.wrap_i64]; omega, slice_rd w s (a + n) z (by omega) (by omega) hzs, hX]
  have hs2 : ∀ w, (Instr.slice 9 (.string t) (some (.int .i64 a)) (some (.int .i64 (a + n))) none).run Tryz.prog w = .ok (.string u) w := fun w => by
    rw [slice_rd w t a (a + n) ha0 (by omega) (by omega), hu]
  clear hX hzs ht hu
  go_enter Tryz.func69, Tryz.ntmps69
  go_wp2_with fail
  refine (HP.out _).mono ?_
  rintro e w1 ⟨rfl, hB⟩
  obtain ⟨hc0, hc1, hf1⟩ := HC.out w1 hB
  have HB : Hid (Below w.heap.size w w1) := hB
  clear hB
  go_wp2_with fail
  refine (HT.out _ HB.out).mono ?_
  rintro e w2 ⟨rfl, hw⟩
  have hw1 := hw.symm
  clear hw
  subst hw1
  go_wp2_with fail
  have hd0 : w1.drew.cell? ⟨p, 0, none⟩ = some (.string s) := hc0
  have HB1 : Hid (Below w.heap.size w w1.drew) := below_dr HB.out
  go_region_held (fun w' => w'.cell? ⟨p, 0, none⟩ = some (.string s)) (first | exact hc3 | exact hd0) (first | (go_at_call 80; refine (HP.out _).mono ?_; rintro e w3 ⟨rfl, hB3⟩; have hB4 : Below w.heap.size w w3 := HB1.out.trans (hB3.mono HB1.out.size); obtain ⟨hc3, hc4, hf4⟩ := HC.out w3 hB4; have HB4 : Hid (Below w.heap.size w w3) := hB4; clear hB3 hB4))
  all_goals (
    go_wp2_with fail
    refine (HK.out _ HB4.out).mono ?_
    rintro e w5 ⟨rfl, hQ⟩
    have HQ : Hid (Q w5) := hQ
    clear hQ
    go_wp2
    go_ret
    exact ⟨rfl, HQ.out⟩)
end Go.Proofs.YtlkhgnjljdbhnabGreatDoor
namespace Go.Proofs.YtlkhgnjljdbhnabGreatDoor
open Go.RowKit

theorem Padding_rd (n : Nat) (w : World) : Calls Tryz.prog 80 #[.int .i64 n] w fun e w' => e = .returned (.string ⟨(padB n).toArray⟩) ∧ Below w.heap.size w w' := Padding_any n w
theorem opaque_short (p a n : Nat) (l : List UInt8) (w : World) (h : DR w p l 0) (ha : a ≤ 4) (hn : n ≤ 4294967295) (hs : l.length < a + n + pads n) :
    Calls Tryz.prog 69 #[.pointer (some ⟨p, 0, none⟩), .int .i64 a, .int .i64 n] w fun e w' => e = .returned (.string ⟨#[]⟩) ∧ (DR w' p l 20 ∧ Sole p w w') := by
  have hp3 : pads n ≤ 3 := by unfold pads; omega
  refine op_A p a n ((a + n + pads n : Nat) : Int) _ w (by omega) (by omega) (by omega) (by omega) (by rw [Bs_size, padB_len]; omega) (by rw [Bs_size, padB_len]; omega) (Padding_rd n) (fun w1 hB => ?_)
  exact (there_no p _ l 0 20 w1 (h.below hB) (by rw [if_pos rfl, if_pos (by omega)]) (by decide)).mono fun e w' hp => ⟨hp.1, hp.2.1, (Sole.of_below hB).trans hp.2.2⟩
theorem opaque_pad (p a n : Nat) (l : List UInt8) (w : World) (h : DR w p l 0) (ha : a ≤ 4) (hn : n ≤ 4294967295) (hs : a + n + pads n ≤ l.length) (hne : ((l.drop a).drop n).take (pads n) ≠ padB n) :
    Calls Tryz.prog 69 #[.pointer (some ⟨p, 0, none⟩), .int .i64 a, .int .i64 n] w fun e w' => e = .returned (.string ⟨#[]⟩) ∧ (DR w' p l 24 ∧ Sole p w w') := by
  have hp3 : pads n ≤ 3 := by unfold pads; omega
  have hX : (⟨l.toArray⟩ : ByteArray).extract ((a : Int) + (n : Int)).toNat (((a + n + pads n : Nat) : Int)).toNat = ⟨(((l.drop a).drop n).take (pads n)).toArray⟩ := by
    rw [Bs_extract, List.drop_drop, show ((a : Int) + (n : Int)).toNat = a + n by omega, Int.toNat_natCast, show a + n + pads n - (a + n) = pads n by omega]
  refine (op_B p a n ((a + n + pads n : Nat) : Int) _ _ _ w (by omega) (by omega) (by omega) (by omega) (by rw [Bs_size, padB_len]; omega) (by rw [Bs_size, padB_len]; omega) (by rw [Bs_size]; omega) hX (by rw [ByteArray.toList_eq, ByteArray.toList_eq]; exact beq_eq_false_iff_ne.2 (by simpa using hne)) (Padding_rd n)
    (fun w1 hB => ⟨(h.below hB).l, (h.below hB).e, (h.below hB).f1⟩) (fun w1 hB => there_yes p _ l w1 (h.below hB) (by omega))).mono ?_
  rintro e w' ⟨rfl, w1, hB, rfl⟩
  exact ⟨rfl, (h.below hB).setE 24, (Sole.of_below hB).trans (Sole.setCell w1 1 _)⟩
theorem opaque_good (p a n : Nat) (l : List UInt8) (w : World) (h : DR w p l 0) (ha : a ≤ 4) (hn : n ≤ 4294967295) (hs : a + n + pads n ≤ l.length) (hpe : ((l.drop a).drop n).take (pads n) = padB n) :
    Calls Tryz.prog 69 #[.pointer (some ⟨p, 0, none⟩), .int .i64 a, .int .i64 n] w fun e w' => e = .returned (.string ⟨((l.drop a).take n).toArray⟩) ∧ (DR w' p (l.drop (a + (n + pads n))) 0 ∧ Sole p w w') := by
  have hp3 : pads n ≤ 3 := by unfold pads; omega
  have hX : (⟨l.toArray⟩ : ByteArray).extract ((a : Int) + (n : Int)).toNat (((a + n + pads n : Nat) : Int)).toNat = ⟨(padB n).toArray⟩ := by
    rw [Bs_extract, show ((a : Int) + (n : Int)).toNat = a + n by omega, Int.toNat_natCast, show a + n + pads n - (a + n) = pads n by omega, ← hpe, List.drop_drop]
  have hu : (⟨(l.take (a + n + pads n)).toArray⟩ : ByteArray).extract (a : Int).toNat ((a : Int) + (n : Int)).toNat = ⟨((l.drop a).take n).toArray⟩ := by
    rw [Bs_extract, show ((a : Int) + (n : Int)).toNat = a + n by omega, Int.toNat_natCast, show a + n - a = n by omega, List.drop_take, List.take_take, Nat.min_eq_left (by omega)]
  refine (op_C (Q := fun w' => DR w' p (l.drop (a + n + pads n)) 0 ∧ Sole p w w') p a n ((a + n + pads n : Nat) : Int) _ _ _ _ w (by omega) (by omega) (by omega) (by omega) (by rw [Bs_size, padB_len]; omega) (by rw [Bs_size, padB_len]; omega) (by rw [Bs_size]; omega) hX (by rw [Bs_size, List.length_take]; omega) hu (Padding_rd n)
    (fun w1 hB => ⟨(h.below hB).l, (h.below hB).e, (h.below hB).f1⟩) (fun w1 hB => there_yes p _ l w1 (h.below hB) (by omega)) (fun w1 hB => (takes_any p _ l 0 w1 (h.below hB) hs).mono fun e w' hp => ⟨hp.1, hp.2.1, (Sole.of_below hB).trans hp.2.2⟩)).mono ?_
  rw [Nat.add_assoc]
  exact fun e w' hp => hp

theorem opaque_bad (p a n : Nat) (l : List UInt8) (w : World) (h : DR w p l 0) (ha : a ≤ 4) (hal : a ≤ l.length) (hn : n ≤ 4294967295) (hw : (rdText n (l.drop a)).wrong ≠ 0) :
    Calls Tryz.prog 69 #[.pointer (some ⟨p, 0, none⟩), .int .i64 a, .int .i64 n] w fun e w' => e = .returned (.string ⟨#[]⟩) ∧ (DR w' p l (rdText n (l.drop a)).wrong ∧ Sole p w w') := by
  unfold rdText at hw ⊢
  by_cases h1 : (l.drop a).length < n + pads n
  · rw [if_pos h1]
    rw [List.length_drop] at h1
    exact opaque_short p a n l w h ha hn (by omega)
  · rw [if_neg h1] at hw ⊢
    rw [List.length_drop] at h1
    by_cases h2 : ((l.drop a).drop n).take (pads n) ≠ padB n
    · rw [if_pos h2]
      exact opaque_pad p a n l w h ha hn (by omega) h2
    · rw [if_neg h2] at hw; exact absurd rfl hw
theorem opaque_ok (p a n : Nat) (l : List UInt8) (w : World) (h : DR w p l 0) (ha : a ≤ 4) (hal : a ≤ l.length) (hn : n ≤ 4294967295) (hw : (rdText n (l.drop a)).wrong = 0) :
    Calls Tryz.prog 69 #[.pointer (some ⟨p, 0, none⟩), .int .i64 a, .int .i64 n] w fun e w' => e = .returned (.string ⟨(rdText n (l.drop a)).val.toArray⟩) ∧ (DR w' p (l.drop (a + (n + pads n))) 0 ∧ Sole p w w') := by
  unfold rdText at hw ⊢
  by_cases h1 : (l.drop a).length < n + pads n
  · rw [if_pos h1] at hw; cases hw
  · rw [if_neg h1] at hw ⊢
    rw [List.length_drop] at h1
    by_cases h2 : ((l.drop a).drop n).take (pads n) ≠ padB n
    · rw [if_pos h2] at hw; cases hw
    · rw [if_neg h2]
      exact opaque_good p a n l w h ha hn (by omega) (Decidable.not_not.1 h2)

theorem dfix_A {Q : World → Prop} (p : Nat) (n F : Int) (w : World) (hF : (F != 0) = true) (HW : Hid (∀ w, Calls Tryz.prog 68 #[.int .i64 n] w fun e w' => e = .returned (.bool false) ∧ w' = w))
    (HF : Hid (Calls Tryz.prog 45 #[.pointer (some ⟨p, 0, none⟩), .int .i64 22] w fun e w' => e = .returned (.tuple #[]) ∧ Q w')) (HC : Hid (∀ w1, Q w1 → w1.cell? ⟨p, 1, none⟩ = some (.int .i64 F))) :
    Calls Tryz.prog 37 #[.pointer (some ⟨p, 0, none⟩), .int .i64 n] w fun e w' => e = .returned (.string ⟨#[]⟩) ∧ Q w' := by
  go_enter Tryz.func37, Tryz.ntmps37
  go_wp2_with fail
  refine (HW.out _).mono ?_
  rintro e w0 ⟨rfl, hw⟩
  have hw1 := hw.symm
  clear hw
  subst hw1
  go_wp2_with fail
  refine HF.out.mono ?_
  rintro e w9 ⟨rfl, hQ⟩
  have hc := HC.out w9 hQ
  have HQ : Hid (Q w9) := hQ
  clear hQ
  go_wp2
  go_ret
  exact ⟨rfl, HQ.out⟩
theorem dfix_B (p : Nat) (n E : Int) (w : World) (hE : (E != 0) = true) (h1 : w.cell? ⟨p, 1, none⟩ = some (.int .i64 E)) (HW : Hid (∀ w, Calls Tryz.prog 68 #[.int .i64 n] w fun e w' => e = .returned (.bool true) ∧ w' = w)) :
    Calls Tryz.prog 37 #[.pointer (some ⟨p, 0, none⟩), .int .i64 n] w fun e w' => e = .returned (.string ⟨#[]⟩) ∧ w' = w := by
  go_enter Tryz.func37, Tryz.ntmps37
  go_wp2_with fail
  refine (HW.out _).mono ?_
  rintro e w0 ⟨rfl, hw⟩
  have hw1 := hw.symm
  clear hw
  subst hw1
  go_wp2
  go_ret
  exact ⟨rfl, rfl⟩
theorem dfix_C {Q : World → Prop} (p : Nat) (n : Int) (t : ByteArray) (w : World) (h1 : w.cell? ⟨p, 1, none⟩ = some (.int .i64 0)) (HW : Hid (∀ w, Calls Tryz.prog 68 #[.int .i64 n] w fun e w' => e = .returned (.bool true) ∧ w' = w))
    (HO : Hid (Calls Tryz.prog 69 #[.pointer (some ⟨p, 0, none⟩), .int .i64 0, .int .i64 n] w fun e w' => e = .returned (.string t) ∧ Q w')) :
    Calls Tryz.prog 37 #[.pointer (some ⟨p, 0, none⟩), .int .i64 n] w fun e w' => e = .returned (.string t) ∧ Q w' := by
  go_enter Tryz.func37, Tryz.ntmps37
  go_wp2_with fail
  refine (HW.out _).mono ?_
  rintro e w0 ⟨rfl, hw⟩
  have hw1 := hw.symm
  clear hw
  subst hw1
  go_wp2_with fail
  refine HO.out.mono ?_
  rintro e w9 ⟨rfl, hQ⟩
  have HQ : Hid (Q w9) := hQ
  clear hQ
  go_wp2
  go_ret
  exact ⟨rfl, HQ.out⟩

theorem drop_zero_text (n : Nat) (l : List UInt8) : rdText n (l.drop 0) = rdText n l := by rw [List.drop_zero]
theorem dfixed_any (p : Nat) (n : Int) (l : List UInt8) (E : Int) (w : World) (h : DR w p l E) : Calls Tryz.prog 37 #[.pointer (some ⟨p, 0, none⟩), .int .i64 n] w (DPost p l E [] (rdFixed n) (fun s => Bs s) w) := by
  have hW := dword_any n
  by_cases hw : n < 0 ∨ 4294967295 < n
  · have hr : rdFixed n l = ⟨22, 0, []⟩ := by unfold rdFixed; rw [if_pos hw]
    have hF : (if E = 0 then (22 : Int) else E) ≠ 0 := by split <;> omega
    refine (dfix_A p n _ w (bne_iff_ne.2 hF) (fun w => by have := hW w; rwa [show (decide (0 ≤ n) && decide (n ≤ 4294967295)) = false by rcases hw with h | h <;> simp <;> omega] at this) (dfail_any p l E 22 w h) (fun w1 h1 => h1.1.e)).mono ?_
    exact fun e w' hp => DPost.bad (F := if E = 0 then 22 else E) (by rw [hr]) hF hp
  · obtain ⟨m, rfl⟩ : ∃ m : Nat, n = m := ⟨n.toNat, by omega⟩
    have hr : rdFixed (m : Int) l = rdText m (l.drop 0) := by unfold rdFixed; rw [if_neg hw, Int.toNat_natCast, List.drop_zero]
    have hWt : ∀ w, Calls Tryz.prog 68 #[.int .i64 (m : Int)] w fun e w' => e = .returned (.bool true) ∧ w' = w := fun w => by have := hW w; rwa [show (decide (0 ≤ (m : Int)) && decide ((m : Int) ≤ 4294967295)) = true by simp; omega] at this
    by_cases hE : E = 0
    · subst hE
      by_cases hw2 : (rdText m (l.drop 0)).wrong = 0
      · refine (dfix_C p m _ w h.e hWt (opaque_ok p 0 m l w h (by omega) (by omega) (by omega) hw2)).mono ?_
        refine fun e w' hp => DPost.good (k := 0 + (m + pads m)) (x := (rdText m (l.drop 0)).val) ?_ hp
        rw [hr, Nat.zero_add, ← rdText_size m (l.drop 0), ← hw2]
      · refine (dfix_C p m _ w h.e hWt (opaque_bad p 0 m l w h (by omega) (by omega) (by omega) hw2)).mono ?_
        exact fun e w' hp => DPost.bad (F := (rdText m (l.drop 0)).wrong) (by rw [if_pos rfl, hr]) hw2 hp
    · refine (dfix_B p m E w (bne_iff_ne.2 hE) h.e hWt).mono ?_
      rintro e w' ⟨rfl, rfl⟩
      exact DPost.bad (F := E) (by rw [if_neg hE]) hE ⟨rfl, h, Sole.refl _ _⟩

theorem drest_A (p : Nat) (E : Int) (w : World) (hE : (E != 0) = true) (h1 : w.cell? ⟨p, 1, none⟩ = some (.int .i64 E)) :
    Calls Tryz.prog 43 #[.pointer (some ⟨p, 0, none⟩)] w fun e w' => e = .returned (.string ⟨#[]⟩) ∧ w' = w := by
  go_enter Tryz.func43, Tryz.ntmps43
  go_wp2
  go_ret
  exact ⟨rfl, rfl⟩
theorem drest_B {Q : World → Prop} (p : Nat) (s t : ByteArray) (w : World) (h0 : w.cell? ⟨p, 0, none⟩ = some (.string s)) (h1 : w.cell? ⟨p, 1, none⟩ = some (.int .i64 0)) (HK : Hid (Calls Tryz.prog 60 #[.pointer (some ⟨p, 0, none⟩), .int .i64 s.size] w fun e w' => e = .returned (.string t) ∧ Q w')) :
    Calls Tryz.prog 43 #[.pointer (some ⟨p, 0, none⟩)] w fun e w' => e = .returned (.string t) ∧ Q w' := by
  go_enter Tryz.func43, Tryz.ntmps43
  go_wp2_with fail
  refine HK.out.mono ?_
  rintro e w9 ⟨rfl, hQ⟩
  have HQ : Hid (Q w9) := hQ
  clear hQ
  go_wp2
  go_ret
  exact ⟨rfl, HQ.out⟩

theorem drest_any (p : Nat) (l : List UInt8) (E : Int) (w : World) (h : DR w p l E) : Calls Tryz.prog 43 #[.pointer (some ⟨p, 0, none⟩)] w (DPost p l E [] rdRest (fun s => Bs s) w) := by
  by_cases hE : E = 0
  · subst hE
    refine (drest_B p _ _ w h.l h.e (by rw [Bs_size]; exact takes_any p l.length l 0 w h (Nat.le_refl _))).mono ?_
    rw [List.take_length]
    exact fun e w' hp => DPost.good (k := l.length) (x := l) rfl hp
  · refine (drest_A p E w (bne_iff_ne.2 hE) h.e).mono ?_
    rintro e w' ⟨rfl, rfl⟩
    exact DPost.bad (F := E) (by rw [if_neg hE]) hE ⟨rfl, h, Sole.refl _ _⟩
end Go.Proofs.YtlkhgnjljdbhnabGreatDoor
namespace Go.Proofs.YtlkhgnjljdbhnabGreatDoor
open Go.RowKit

theorem cnt_A {R Q : World → Prop} (p : Nat) (m : Int) (w : World) (HW : Hid (∀ w, Calls Tryz.prog 68 #[.int .i64 m] w fun e w' => e = .returned (.bool false) ∧ w' = w))
    (HF : Hid (Calls Tryz.prog 45 #[.pointer (some ⟨p, 0, none⟩), .int .i64 22] w fun e w' => e = .returned (.tuple #[]) ∧ R w')) (HT : Hid (∀ w1, R w1 → Calls Tryz.prog 59 #[.pointer (some ⟨p, 0, none⟩), .int .i64 4] w1 fun e w' => e = .returned (.bool false) ∧ Q w')) :
    Calls Tryz.prog 71 #[.pointer (some ⟨p, 0, none⟩), .int .i64 m] w fun e w' => e = .returned (.tuple #[.int .i64 0, .bool false]) ∧ Q w' := by
  go_enter Tryz.func71, Tryz.ntmps71
  go_wp2_with fail
  refine (HW.out _).mono ?_
  rintro e w0 ⟨rfl, hw⟩
  have hw1 := hw.symm
  clear hw
  subst hw1
  go_wp2_with fail
  refine HF.out.mono ?_
  rintro e w2 ⟨rfl, hR⟩
  have HR : Hid (R w2) := hR
  clear hR
  go_wp2_with fail
  refine (HT.out _ HR.out).mono ?_
  rintro e w9 ⟨rfl, hQ⟩
  have HQ : Hid (Q w9) := hQ
  clear hQ
  go_wp2
  go_ret2
  exact ⟨rfl, HQ.out⟩

theorem cnt_B {Q : World → Prop} (p : Nat) (m : Int) (w : World) (HW : Hid (∀ w, Calls Tryz.prog 68 #[.int .i64 m] w fun e w' => e = .returned (.bool true) ∧ w' = w))
    (HT : Hid (Calls Tryz.prog 59 #[.pointer (some ⟨p, 0, none⟩), .int .i64 4] w fun e w' => e = .returned (.bool false) ∧ Q w')) :
    Calls Tryz.prog 71 #[.pointer (some ⟨p, 0, none⟩), .int .i64 m] w fun e w' => e = .returned (.tuple #[.int .i64 0, .bool false]) ∧ Q w' := by
  go_enter Tryz.func71, Tryz.ntmps71
  go_wp2_with fail
  refine (HW.out _).mono ?_
  rintro e w0 ⟨rfl, hw⟩
  have hw1 := hw.symm
  clear hw
  subst hw1
  go_wp2_with fail
  refine HT.out.mono ?_
  rintro e w9 ⟨rfl, hQ⟩
  have HQ : Hid (Q w9) := hQ
  clear hQ
  go_wp2
  go_ret2
  exact ⟨rfl, HQ.out⟩

theorem cnt_C {R : World → Prop} (p : Nat) (m n : Int) (s a : ByteArray) (w : World) (h0 : w.cell? ⟨p, 0, none⟩ = some (.string s)) (h4 : (4 : Int) ≤ (s.size : Int)) (ha : s.extract 0 4 = a) (hn : m < n) (HW : Hid (∀ w, Calls Tryz.prog 68 #[.int .i64 m] w fun e w' => e = .returned (.bool true) ∧ w' = w))
    (HT : Hid (Calls Tryz.prog 59 #[.pointer (some ⟨p, 0, none⟩), .int .i64 4] w fun e w' => e = .returned (.bool true) ∧ w' = w)) (HN : Hid (Calls Tryz.prog 61 #[.string a] w fun e w' => e = .returned (.int .i64 n) ∧ R w')) (HC : Hid (∀ w1, R w1 → w1.cell? ⟨p, 1, none⟩ = some (.int .i64 0) ∧ w1.frozen? ⟨p, 1, none⟩ = false)) :
    Calls Tryz.prog 71 #[.pointer (some ⟨p, 0, none⟩), .int .i64 m] w fun e w' => e = .returned (.tuple #[.int .i64 0, .bool false]) ∧ ∃ w1, R w1 ∧ w' = w1.setCell ⟨p, 1, none⟩ (.int .i64 23) := by
  go_enter Tryz.func71, Tryz.ntmps71
  go_wp2_with fail
  refine (HW.out _).mono ?_
  rintro e w0 ⟨rfl, hw⟩
  have hw1 := hw.symm
  clear hw
  subst hw1
  go_wp2_with fail
  refine HT.out.mono ?_
  rintro e w0 ⟨rfl, hw⟩
  have hw1 := hw.symm
  clear hw
  subst hw1
  go_wp2_with fail
  refine HN.out.mono ?_
  rintro e w2 ⟨rfl, hR⟩
  obtain ⟨hc, hf⟩ := HC.out w2 hR
  have HR : Hid (R w2) := hR
  clear hR
  go_wp2
  go_ret2
  exact ⟨rfl, w2, HR.out, rfl⟩
theorem cnt_D {R : World → Prop} (p : Nat) (m n : Int) (s a : ByteArray) (w : World) (h0 : w.cell? ⟨p, 0, none⟩ = some (.string s)) (h4 : (4 : Int) ≤ (s.size : Int)) (ha : s.extract 0 4 = a) (hn : ¬ m < n) (HW : Hid (∀ w, Calls Tryz.prog 68 #[.int .i64 m] w fun e w' => e = .returned (.bool true) ∧ w' = w))
    (HT : Hid (Calls Tryz.prog 59 #[.pointer (some ⟨p, 0, none⟩), .int .i64 4] w fun e w' => e = .returned (.bool true) ∧ w' = w)) (HN : Hid (Calls Tryz.prog 61 #[.string a] w fun e w' => e = .returned (.int .i64 n) ∧ R w')) :
    Calls Tryz.prog 71 #[.pointer (some ⟨p, 0, none⟩), .int .i64 m] w fun e w' => e = .returned (.tuple #[.int .i64 n, .bool true]) ∧ R w' := by
  go_enter Tryz.func71, Tryz.ntmps71
  go_wp2_with fail
  refine (HW.out _).mono ?_
  rintro e w0 ⟨rfl, hw⟩
  have hw1 := hw.symm
  clear hw
  subst hw1
  go_wp2_with fail
  refine HT.out.mono ?_
  rintro e w0 ⟨rfl, hw⟩
  have hw1 := hw.symm
  clear hw
  subst hw1
  go_wp2_with fail
  refine HN.out.mono ?_
  rintro e w2 ⟨rfl, hR⟩
  have HR : Hid (R w2) := hR
  clear hR
  go_wp2
  go_ret2
  exact ⟨rfl, HR.out⟩

theorem counted_bad (p : Nat) (m : Int) (l : List UInt8) (E F : Int) (w : World) (h : DR w p l E) (hF : (if E = 0 then (rdCount m l).wrong else E) = F) (hF0 : F ≠ 0) :
    Calls Tryz.prog 71 #[.pointer (some ⟨p, 0, none⟩), .int .i64 m] w fun e w' => e = .returned (.tuple #[.int .i64 0, .bool false]) ∧ (DR w' p l F ∧ Sole p w w') := by
  have hW := dword_any m
  by_cases hw : m < 0 ∨ 4294967295 < m
  · have hr : (rdCount m l).wrong = 22 := by unfold rdCount; rw [if_pos hw]
    rw [hr] at hF
    refine cnt_A (R := fun w' => DR w' p l F ∧ Sole p w w') p m w (fun w => by have := hW w; rwa [show (decide (0 ≤ m) && decide (m ≤ 4294967295)) = false by rcases hw with h | h <;> simp <;> omega] at this) (by have := dfail_any p l E 22 w h; rwa [hF] at this) (fun w1 h1 => ?_)
    exact (there_no p 4 l F F w1 h1.1 (by rw [if_neg hF0]) hF0).mono fun e w' hp => ⟨hp.1, hp.2.1, h1.2.trans hp.2.2⟩
  · have hWt : ∀ w, Calls Tryz.prog 68 #[.int .i64 m] w fun e w' => e = .returned (.bool true) ∧ w' = w := fun w => by have := hW w; rwa [show (decide (0 ≤ m) && decide (m ≤ 4294967295)) = true by simp; omega] at this
    by_cases hs : E = 0 ∧ ¬ l.length < 4
    · obtain ⟨rfl, hl⟩ := hs
      rw [if_pos rfl] at hF
      have ht : (l.take 4).length = 4 := by rw [List.length_take]; omega
      have hlong : m < (beN (l.take 4) : Int) ∧ F = 23 := by
        unfold rdCount at hF
        rw [if_neg hw, if_neg hl] at hF
        by_cases hc : m < (beN (l.take 4) : Int)
        · rw [if_pos hc] at hF; exact ⟨hc, hF.symm⟩
        · rw [if_neg hc] at hF; exact absurd hF.symm hF0
      obtain ⟨hc, rfl⟩ := hlong
      refine (cnt_C (R := fun w' => DR w' p l 0 ∧ Below w.heap.size w w') p m _ _ _ w h.l (by rw [Bs_size]; omega) (ext_take l 4) hc hWt (there_yes p 4 l w h (by omega)) ((number4 _ w ht).mono fun e w' hp => ⟨hp.1, h.below hp.2, hp.2⟩) (fun w1 h1 => ⟨h1.1.e, h1.1.f1⟩)).mono ?_
      rintro e w' ⟨rfl, w1, ⟨hd, hB⟩, rfl⟩
      exact ⟨rfl, hd.setE 23, (Sole.of_below hB).trans (Sole.setCell w1 1 _)⟩
    · refine cnt_B p m w hWt (there_no p 4 l E F w h ?_ hF0)
      rw [← hF]
      by_cases hE : E = 0
      · rw [if_pos hE, if_pos hE]
        have hl : l.length < 4 := Decidable.not_not.1 fun c => hs ⟨hE, c⟩
        rw [if_pos (by omega)]
        unfold rdCount
        rw [if_neg hw, if_pos hl]
      · rw [if_neg hE, if_neg hE]
theorem counted_ok (p : Nat) (m : Int) (l : List UInt8) (w : World) (h : DR w p l 0) (hw0 : (rdCount m l).wrong = 0) :
    Calls Tryz.prog 71 #[.pointer (some ⟨p, 0, none⟩), .int .i64 m] w fun e w' => e = .returned (.tuple #[.int .i64 ((rdCount m l).val : Int), .bool true]) ∧ (DR w' p l 0 ∧ Below w.heap.size w w') := by
  have hW := dword_any m
  unfold rdCount at hw0 ⊢
  by_cases hw : m < 0 ∨ 4294967295 < m
  · rw [if_pos hw] at hw0; cases hw0
  · rw [if_neg hw] at hw0 ⊢
    by_cases hl : l.length < 4
    · rw [if_pos hl] at hw0; cases hw0
    · rw [if_neg hl] at hw0 ⊢
      by_cases hc : m < (beN (l.take 4) : Int)
      · rw [if_pos hc] at hw0; cases hw0
      · rw [if_neg hc]
        have ht : (l.take 4).length = 4 := by rw [List.length_take]; omega
        exact cnt_D (R := fun w' => DR w' p l 0 ∧ Below w.heap.size w w') p m _ _ _ w h.l (by rw [Bs_size]; omega) (ext_take l 4) hc (fun w => by have := hW w; rwa [show (decide (0 ≤ m) && decide (m ≤ 4294967295)) = true by simp; omega] at this) (there_yes p 4 l w h (by omega)) ((number4 _ w ht).mono fun e w' hp => ⟨hp.1, h.below hp.2, hp.2⟩)

theorem dcount_A {Q : World → Prop} (p : Nat) (m : Int) (w : World) (HC : Hid (Calls Tryz.prog 71 #[.pointer (some ⟨p, 0, none⟩), .int .i64 m] w fun e w' => e = .returned (.tuple #[.int .i64 0, .bool false]) ∧ Q w')) :
    Calls Tryz.prog 41 #[.pointer (some ⟨p, 0, none⟩), .int .i64 m] w fun e w' => e = .returned (.int .i64 0) ∧ Q w' := by
  go_enter Tryz.func41, Tryz.ntmps41
  go_wp2_with fail
  refine HC.out.mono ?_
  rintro e w9 ⟨rfl, hQ⟩
  have HQ : Hid (Q w9) := hQ
  clear hQ
  go_wp2
  go_ret
  exact ⟨rfl, HQ.out⟩

theorem dcount_B {R Q : World → Prop} (p : Nat) (m n : Int) (b : ByteArray) (w : World) (HC : Hid (Calls Tryz.prog 71 #[.pointer (some ⟨p, 0, none⟩), .int .i64 m] w fun e w' => e = .returned (.tuple #[.int .i64 n, .bool true]) ∧ R w')) (HK : Hid (∀ w1, R w1 → Calls Tryz.prog 60 #[.pointer (some ⟨p, 0, none⟩), .int .i64 4] w1 fun e w' => e = .returned (.string b) ∧ Q w')) :
    Calls Tryz.prog 41 #[.pointer (some ⟨p, 0, none⟩), .int .i64 m] w fun e w' => e = .returned (.int .i64 n) ∧ Q w' := by
  go_enter Tryz.func41, Tryz.ntmps41
  go_wp2_with fail
  refine HC.out.mono ?_
  rintro e w2 ⟨rfl, hR⟩
  have HR : Hid (R w2) := hR
  clear hR
  go_wp2_with fail
  refine (HK.out _ HR.out).mono ?_
  rintro e w9 ⟨rfl, hQ⟩
  have HQ : Hid (Q w9) := hQ
  clear hQ
  go_wp2
  go_ret
  exact ⟨rfl, HQ.out⟩

theorem dcount_any (p : Nat) (m : Int) (l : List UInt8) (E : Int) (w : World) (h : DR w p l E) : Calls Tryz.prog 41 #[.pointer (some ⟨p, 0, none⟩), .int .i64 m] w (DPost p l E 0 (rdCount m) (fun n => .int .i64 (n : Int)) w) := by
  obtain ⟨F, hF⟩ : ∃ F, (if E = 0 then (rdCount m l).wrong else E) = F := ⟨_, rfl⟩
  by_cases hF0 : F = 0
  · have hE : E = 0 := by
      by_cases hE : E = 0
      · exact hE
      · rw [if_neg hE] at hF; omega
    subst hE
    rw [if_pos rfl, hF0] at hF
    have h4 := (rdCount_size m l).2.1 hF
    refine (dcount_B (R := fun w' => DR w' p l 0 ∧ Below w.heap.size w w') (Q := fun w' => DR w' p (l.drop 4) 0 ∧ Sole p w w') p m _ _ w (counted_ok p m l w h hF) (fun w1 h1 => (takes_any p 4 l 0 w1 h1.1 h4).mono fun e w' hp => ⟨hp.1, hp.2.1, (Sole.of_below h1.2).trans hp.2.2⟩)).mono ?_
    refine fun e w' hp => DPost.good (k := 4) (x := (rdCount m l).val) ?_ hp
    rw [rd_eta (rdCount m l), hF, (rdCount_size m l).1]
  · refine (dcount_A p m w (counted_bad p m l E F w h hF hF0)).mono ?_
    exact fun e w' hp => DPost.bad hF hF0 hp

theorem dopaque_A {Q : World → Prop} (p : Nat) (m : Int) (w : World) (HC : Hid (Calls Tryz.prog 71 #[.pointer (some ⟨p, 0, none⟩), .int .i64 m] w fun e w' => e = .returned (.tuple #[.int .i64 0, .bool false]) ∧ Q w')) :
    Calls Tryz.prog 39 #[.pointer (some ⟨p, 0, none⟩), .int .i64 m] w fun e w' => e = .returned (.string ⟨#[]⟩) ∧ Q w' := by
  go_enter Tryz.func39, Tryz.ntmps39
  go_wp2_with fail
  refine HC.out.mono ?_
  rintro e w9 ⟨rfl, hQ⟩
  have HQ : Hid (Q w9) := hQ
  clear hQ
  go_wp2
  go_ret
  exact ⟨rfl, HQ.out⟩

theorem dopaque_B {R Q : World → Prop} (p : Nat) (m n : Int) (t : ByteArray) (w : World) (HC : Hid (Calls Tryz.prog 71 #[.pointer (some ⟨p, 0, none⟩), .int .i64 m] w fun e w' => e = .returned (.tuple #[.int .i64 n, .bool true]) ∧ R w')) (HK : Hid (∀ w1, R w1 → Calls Tryz.prog 69 #[.pointer (some ⟨p, 0, none⟩), .int .i64 4, .int .i64 n] w1 fun e w' => e = .returned (.string t) ∧ Q w')) :
    Calls Tryz.prog 39 #[.pointer (some ⟨p, 0, none⟩), .int .i64 m] w fun e w' => e = .returned (.string t) ∧ Q w' := by
  go_enter Tryz.func39, Tryz.ntmps39
  go_wp2_with fail
  refine HC.out.mono ?_
  rintro e w2 ⟨rfl, hR⟩
  have HR : Hid (R w2) := hR
  clear hR
  go_wp2_with fail
  refine (HK.out _ HR.out).mono ?_
  rintro e w9 ⟨rfl, hQ⟩
  have HQ : Hid (Q w9) := hQ
  clear hQ
  go_wp2
  go_ret
  exact ⟨rfl, HQ.out⟩

theorem dopaque_any (p : Nat) (m : Int) (l : List UInt8) (E : Int) (w : World) (h : DR w p l E) : Calls Tryz.prog 39 #[.pointer (some ⟨p, 0, none⟩), .int .i64 m] w (DPost p l E [] (rdOpaque m) (fun s => Bs s) w) := by
  by_cases hc : E = 0 ∧ (rdCount m l).wrong = 0
  · obtain ⟨rfl, hw⟩ := hc
    obtain ⟨_, h4, hlt⟩ := rdCount_size m l
    have h4 := h4 hw
    generalize hk : (rdCount m l).val = k at *
    have hop : rdOpaque m l = ⟨(rdText k (l.drop 4)).wrong, 4 + (k + pads k), (rdText k (l.drop 4)).val⟩ := by
      unfold rdOpaque; rw [if_neg (by simp [hw]), hk, rdText_size]
    have hC := counted_ok p m l w h hw
    rw [hk] at hC
    by_cases hw2 : (rdText k (l.drop 4)).wrong = 0
    · refine (dopaque_B (R := fun w' => DR w' p l 0 ∧ Below w.heap.size w w') (Q := fun w' => DR w' p (l.drop (4 + (k + pads k))) 0 ∧ Sole p w w') p m _ _ w hC (fun w1 h1 => (opaque_ok p 4 k l w1 h1.1 (by omega) h4 (by omega) hw2).mono fun e w' hp => ⟨hp.1, hp.2.1, (Sole.of_below h1.2).trans hp.2.2⟩)).mono ?_
      exact fun e w' hp => DPost.good (k := 4 + (k + pads k)) (x := (rdText k (l.drop 4)).val) (by rw [hop, hw2]) hp
    · refine (dopaque_B (R := fun w' => DR w' p l 0 ∧ Below w.heap.size w w') (Q := fun w' => DR w' p l (rdText k (l.drop 4)).wrong ∧ Sole p w w') p m _ _ w hC (fun w1 h1 => (opaque_bad p 4 k l w1 h1.1 (by omega) h4 (by omega) hw2).mono fun e w' hp => ⟨hp.1, hp.2.1, (Sole.of_below h1.2).trans hp.2.2⟩)).mono ?_
      exact fun e w' hp => DPost.bad (F := (rdText k (l.drop 4)).wrong) (by rw [if_pos rfl, hop]) hw2 hp
  · obtain ⟨F, hF⟩ : ∃ F, (if E = 0 then (rdCount m l).wrong else E) = F := ⟨_, rfl⟩
    have hF0 : F ≠ 0 := by
      intro c
      rw [c] at hF
      apply hc
      by_cases hE : E = 0
      · rw [if_pos hE] at hF; exact ⟨hE, hF⟩
      · rw [if_neg hE] at hF; exact absurd hF hE
    refine (dopaque_A p m w (counted_bad p m l E F w h hF hF0)).mono ?_
    refine fun e w' hp => DPost.bad (F := F) ?_ hF0 hp
    rw [← hF]
    by_cases hE : E = 0
    · rw [if_pos hE, if_pos hE]
      unfold rdOpaque
      rw [if_pos (fun c => hc ⟨hE, c⟩)]
    · rw [if_neg hE, if_neg hE]
end Go.Proofs.YtlkhgnjljdbhnabGreatDoor
