/- The document's own Reader: Uint, Int, Hyper, Bool. -/
import Derived.Test.YtihcdahmfdijoaaGreatDoorDb
namespace Go.Proofs.YtihcdahmfdijoaaGreatDoor
open Go.RowKit
theorem duint_A {Q : World → Prop} (p : Nat) (w : World) (HT : Hid (Calls Tryz.prog 50 #[.pointer (some ⟨p, 0, none⟩), .int .i64 4] w fun e w' => e = .returned (.bool false) ∧ Q w')) :
    Calls Tryz.prog 44 #[.pointer (some ⟨p, 0, none⟩)] w fun e w' => e = .returned (.int .i64 0) ∧ Q w' := by
  go_enter Tryz.func44, Tryz.ntmps44
  go_wp2_with fail
  refine HT.out.mono ?_
  rintro e w1 ⟨rfl, hQ⟩
  have HQ : Hid (Q w1) := hQ
  clear hQ
  go_wp2
  go_ret
  exact ⟨rfl, HQ.out⟩
theorem duint_B {R Q : World → Prop} (p : Nat) (a : ByteArray) (z : Int) (w : World) (HT : Hid (Calls Tryz.prog 50 #[.pointer (some ⟨p, 0, none⟩), .int .i64 4] w fun e w' => e = .returned (.bool true) ∧ w' = w))
    (HK : Hid (Calls Tryz.prog 51 #[.pointer (some ⟨p, 0, none⟩), .int .i64 4] w fun e w' => e = .returned (.string a) ∧ R w')) (HN : Hid (∀ w1, R w1 → Calls Tryz.prog 52 #[.string a] w1 fun e w' => e = .returned (.int .i64 z) ∧ Q w')) :
    Calls Tryz.prog 44 #[.pointer (some ⟨p, 0, none⟩)] w fun e w' => e = .returned (.int .i64 z) ∧ Q w' := by
  go_enter Tryz.func44, Tryz.ntmps44
  go_wp2_with fail
  refine HT.out.mono ?_
  rintro e w0 ⟨rfl, hw⟩
  have hw1 := hw.symm
  clear hw
  subst hw1
  go_wp2_with fail
  refine HK.out.mono ?_
  rintro e w2 ⟨rfl, hR⟩
  have Hw2 : Hid (R w2) := hR
  clear hR
  go_wp2_with fail
  refine (HN.out _ Hw2.out).mono ?_
  rintro e w3 ⟨rfl, hQ⟩
  have HQ : Hid (Q w3) := hQ
  clear hQ
  go_wp2
  go_ret
  exact ⟨rfl, HQ.out⟩

theorem dhyper_A {Q : World → Prop} (p : Nat) (w : World) (HT : Hid (Calls Tryz.prog 50 #[.pointer (some ⟨p, 0, none⟩), .int .i64 8] w fun e w' => e = .returned (.bool false) ∧ Q w')) :
    Calls Tryz.prog 28 #[.pointer (some ⟨p, 0, none⟩)] w fun e w' => e = .returned (.int .i64 0) ∧ Q w' := by
  go_enter Tryz.func28, Tryz.ntmps28
  go_wp2_with fail
  refine HT.out.mono ?_
  rintro e w1 ⟨rfl, hQ⟩
  have HQ : Hid (Q w1) := hQ
  clear hQ
  go_wp2
  go_ret
  exact ⟨rfl, HQ.out⟩
theorem dhyper_B {R Q : World → Prop} (p : Nat) (a : ByteArray) (z : Int) (w : World) (HT : Hid (Calls Tryz.prog 50 #[.pointer (some ⟨p, 0, none⟩), .int .i64 8] w fun e w' => e = .returned (.bool true) ∧ w' = w))
    (HK : Hid (Calls Tryz.prog 51 #[.pointer (some ⟨p, 0, none⟩), .int .i64 8] w fun e w' => e = .returned (.string a) ∧ R w')) (HN : Hid (∀ w1, R w1 → Calls Tryz.prog 52 #[.string a] w1 fun e w' => e = .returned (.int .i64 z) ∧ Q w')) :
    Calls Tryz.prog 28 #[.pointer (some ⟨p, 0, none⟩)] w fun e w' => e = .returned (.int .i64 z) ∧ Q w' := by
  go_enter Tryz.func28, Tryz.ntmps28
  go_wp2_with fail
  refine HT.out.mono ?_
  rintro e w0 ⟨rfl, hw⟩
  have hw1 := hw.symm
  clear hw
  subst hw1
  go_wp2_with fail
  refine HK.out.mono ?_
  rintro e w2 ⟨rfl, hR⟩
  have Hw2 : Hid (R w2) := hR
  clear hR
  go_wp2_with fail
  refine (HN.out _ Hw2.out).mono ?_
  rintro e w3 ⟨rfl, hQ⟩
  have HQ : Hid (Q w3) := hQ
  clear hQ
  go_wp2
  go_ret
  exact ⟨rfl, HQ.out⟩

theorem short_of (l : List UInt8) (E F : Int) (k : Nat) (f : Int) (hf : f = if l.length < k then 20 else 0) (h : (if E = 0 then f else E) = F) : (if E = 0 then (if (l.length : Int) < (k : Int) then 20 else 0) else E) = F := by
  rw [← h, hf]
  split
  · by_cases hl : l.length < k
    · rw [if_pos (by omega), if_pos hl]
    · rw [if_neg (by omega), if_neg hl]
  · rfl

theorem duint_any (p : Nat) (l : List UInt8) (E : Int) (w : World) (h : DR w p l E) : Calls Tryz.prog 44 #[.pointer (some ⟨p, 0, none⟩)] w (DPost p l E 0 rdWord (fun n => .int .i64 (n : Int)) w) := by
  obtain ⟨F, hF⟩ : ∃ F, (if E = 0 then (rdWord l).wrong else E) = F := ⟨_, rfl⟩
  have hwr : (rdWord l).wrong = if l.length < 4 then 20 else 0 := by unfold rdWord; split <;> rfl
  by_cases hF0 : F = 0
  · have hE : E = 0 := by
      by_cases hE : E = 0
      · exact hE
      · rw [if_neg hE] at hF; omega
    subst hE
    rw [if_pos rfl, hwr] at hF
    have hl : ¬ l.length < 4 := by intro c; rw [if_pos c] at hF; omega
    have ht : (l.take 4).length = 4 := by rw [List.length_take]; omega
    refine (duint_B (R := fun w' => DR w' p (l.drop 4) 0 ∧ Sole p w w') (Q := fun w' => DR w' p (l.drop 4) 0 ∧ Sole p w w') p _ _ w (there_yes p 4 l w h (by omega)) (takes_any p 4 l 0 w h (by omega)) (fun w1 h1 => (number4 _ w1 ht).mono fun e w' hp => ⟨hp.1, h1.1.below hp.2, h1.2.below_after hp.2⟩)).mono ?_
    exact fun e w' hp => DPost.good (k := 4) (x := beN (l.take 4)) (by unfold rdWord; rw [if_neg hl]) hp
  · refine (duint_A p w (there_no p 4 l E F w h (short_of l E F 4 _ hwr hF) hF0)).mono ?_
    exact fun e w' hp => DPost.bad hF hF0 hp
theorem dhyper_any (p : Nat) (l : List UInt8) (E : Int) (w : World) (h : DR w p l E) : Calls Tryz.prog 28 #[.pointer (some ⟨p, 0, none⟩)] w (DPost p l E 0 rdHyper (fun n => .int .i64 (sgn64r n)) w) := by
  obtain ⟨F, hF⟩ : ∃ F, (if E = 0 then (rdHyper l).wrong else E) = F := ⟨_, rfl⟩
  have hwr : (rdHyper l).wrong = if l.length < 8 then 20 else 0 := by unfold rdHyper; split <;> rfl
  by_cases hF0 : F = 0
  · have hE : E = 0 := by
      by_cases hE : E = 0
      · exact hE
      · rw [if_neg hE] at hF; omega
    subst hE
    rw [if_pos rfl, hwr] at hF
    have hl : ¬ l.length < 8 := by intro c; rw [if_pos c] at hF; omega
    have ht : (l.take 8).length = 8 := by rw [List.length_take]; omega
    refine (dhyper_B (R := fun w' => DR w' p (l.drop 8) 0 ∧ Sole p w w') (Q := fun w' => DR w' p (l.drop 8) 0 ∧ Sole p w w') p _ _ w (there_yes p 8 l w h (by omega)) (takes_any p 8 l 0 w h (by omega)) (fun w1 h1 => (number8 _ w1 ht).mono fun e w' hp => ⟨hp.1, h1.1.below hp.2, h1.2.below_after hp.2⟩)).mono ?_
    exact fun e w' hp => DPost.good (k := 8) (x := beN (l.take 8)) (by unfold rdHyper; rw [if_neg hl]) hp
  · refine (dhyper_A p w (there_no p 8 l E F w h (short_of l E F 8 _ hwr hF) hF0)).mono ?_
    exact fun e w' hp => DPost.bad hF hF0 hp

theorem ext_take (l : List UInt8) (n : Nat) : (⟨l.toArray⟩ : ByteArray).extract 0 n = ⟨(l.take n).toArray⟩ := by rw [Bs_extract]; simp
end Go.Proofs.YtihcdahmfdijoaaGreatDoor
