/- The document's own Reader: Count, Opaque. -/
import Derived.Test.YtihcdahmfdijoaaGreatDoorDf
namespace Go.Proofs.YtihcdahmfdijoaaGreatDoor
open Go.RowKit
theorem rd_eta {α : Type} (r : Rd α) : r = ⟨r.wrong, r.size, r.val⟩ := rfl
theorem cnt_A {R Q : World → Prop} (p : Nat) (m : Int) (w : World) (HW : Hid (∀ w, Calls Tryz.prog 84 #[.int .i64 m] w fun e w' => e = .returned (.bool false) ∧ w' = w))
    (HF : Hid (Calls Tryz.prog 85 #[.pointer (some ⟨p, 0, none⟩), .int .i64 22] w fun e w' => e = .returned (.tuple #[]) ∧ R w')) (HT : Hid (∀ w1, R w1 → Calls Tryz.prog 50 #[.pointer (some ⟨p, 0, none⟩), .int .i64 4] w1 fun e w' => e = .returned (.bool false) ∧ Q w')) :
    Calls Tryz.prog 68 #[.pointer (some ⟨p, 0, none⟩), .int .i64 m] w fun e w' => e = .returned (.tuple #[.int .i64 0, .bool false]) ∧ Q w' := by
  go_enter Tryz.func68, Tryz.ntmps68
  go_wp2_with fail
  refine (HW.out _).mono ?_
  rintro e w0 ⟨rfl, hw⟩
  have hw1 := hw.symm
  clear hw
  subst hw1
  go_wp2_with fail
  refine HF.out.mono ?_
  rintro e w2 ⟨rfl, hR⟩
  have HR : Hid (R w2) := hR
  clear hR
  go_wp2_with fail
  refine (HT.out _ HR.out).mono ?_
  rintro e w9 ⟨rfl, hQ⟩
  have HQ : Hid (Q w9) := hQ
  clear hQ
  go_wp2
  go_ret2
  exact ⟨rfl, HQ.out⟩

theorem cnt_B {Q : World → Prop} (p : Nat) (m : Int) (w : World) (HW : Hid (∀ w, Calls Tryz.prog 84 #[.int .i64 m] w fun e w' => e = .returned (.bool true) ∧ w' = w))
    (HT : Hid (Calls Tryz.prog 50 #[.pointer (some ⟨p, 0, none⟩), .int .i64 4] w fun e w' => e = .returned (.bool false) ∧ Q w')) :
    Calls Tryz.prog 68 #[.pointer (some ⟨p, 0, none⟩), .int .i64 m] w fun e w' => e = .returned (.tuple #[.int .i64 0, .bool false]) ∧ Q w' := by
  go_enter Tryz.func68, Tryz.ntmps68
  go_wp2_with fail
  refine (HW.out _).mono ?_
  rintro e w0 ⟨rfl, hw⟩
  have hw1 := hw.symm
  clear hw
  subst hw1
  go_wp2_with fail
  refine HT.out.mono ?_
  rintro e w9 ⟨rfl, hQ⟩
  have HQ : Hid (Q w9) := hQ
  clear hQ
  go_wp2
  go_ret2
  exact ⟨rfl, HQ.out⟩

theorem cnt_C {R : World → Prop} (p : Nat) (m n : Int) (s a : ByteArray) (w : World) (h0 : w.cell? ⟨p, 0, none⟩ = some (.string s)) (h4 : (4 : Int) ≤ (s.size : Int)) (ha : s.extract 0 4 = a) (hn : m < n) (HW : Hid (∀ w, Calls Tryz.prog 84 #[.int .i64 m] w fun e w' => e = .returned (.bool true) ∧ w' = w))
    (HT : Hid (Calls Tryz.prog 50 #[.pointer (some ⟨p, 0, none⟩), .int .i64 4] w fun e w' => e = .returned (.bool true) ∧ w' = w)) (HN : Hid (Calls Tryz.prog 52 #[.string a] w fun e w' => e = .returned (.int .i64 n) ∧ R w')) (HC : Hid (∀ w1, R w1 → w1.cell? ⟨p, 1, none⟩ = some (.int .i64 0) ∧ w1.frozen? ⟨p, 1, none⟩ = false)) :
    Calls Tryz.prog 68 #[.pointer (some ⟨p, 0, none⟩), .int .i64 m] w fun e w' => e = .returned (.tuple #[.int .i64 0, .bool false]) ∧ ∃ w1, R w1 ∧ w' = w1.setCell ⟨p, 1, none⟩ (.int .i64 23) := by
  go_enter Tryz.func68, Tryz.ntmps68
  go_wp2_with fail
  refine (HW.out _).mono ?_
  rintro e w0 ⟨rfl, hw⟩
  have hw1 := hw.symm
  clear hw
  subst hw1
  go_wp2_with fail
  refine HT.out.mono ?_
  rintro e w0 ⟨rfl, hw⟩
  have hw1 := hw.symm
  clear hw
  subst hw1
  go_wp2_with fail
  refine HN.out.mono ?_
  rintro e w2 ⟨rfl, hR⟩
  obtain ⟨hc, hf⟩ := HC.out w2 hR
  have HR : Hid (R w2) := hR
  clear hR
  go_wp2
  go_ret2
  exact ⟨rfl, w2, HR.out, rfl⟩
theorem cnt_D {R : World → Prop} (p : Nat) (m n : Int) (s a : ByteArray) (w : World) (h0 : w.cell? ⟨p, 0, none⟩ = some (.string s)) (h4 : (4 : Int) ≤ (s.size : Int)) (ha : s.extract 0 4 = a) (hn : ¬ m < n) (HW : Hid (∀ w, Calls Tryz.prog 84 #[.int .i64 m] w fun e w' => e = .returned (.bool true) ∧ w' = w))
    (HT : Hid (Calls Tryz.prog 50 #[.pointer (some ⟨p, 0, none⟩), .int .i64 4] w fun e w' => e = .returned (.bool true) ∧ w' = w)) (HN : Hid (Calls Tryz.prog 52 #[.string a] w fun e w' => e = .returned (.int .i64 n) ∧ R w')) :
    Calls Tryz.prog 68 #[.pointer (some ⟨p, 0, none⟩), .int .i64 m] w fun e w' => e = .returned (.tuple #[.int .i64 n, .bool true]) ∧ R w' := by
  go_enter Tryz.func68, Tryz.ntmps68
  go_wp2_with fail
  refine (HW.out _).mono ?_
  rintro e w0 ⟨rfl, hw⟩
  have hw1 := hw.symm
  clear hw
  subst hw1
  go_wp2_with fail
  refine HT.out.mono ?_
  rintro e w0 ⟨rfl, hw⟩
  have hw1 := hw.symm
  clear hw
  subst hw1
  go_wp2_with fail
  refine HN.out.mono ?_
  rintro e w2 ⟨rfl, hR⟩
  have HR : Hid (R w2) := hR
  clear hR
  go_wp2
  go_ret2
  exact ⟨rfl, HR.out⟩

theorem counted_bad (p : Nat) (m : Int) (l : List UInt8) (E F : Int) (w : World) (h : DR w p l E) (hF : (if E = 0 then (rdCount m l).wrong else E) = F) (hF0 : F ≠ 0) :
    Calls Tryz.prog 68 #[.pointer (some ⟨p, 0, none⟩), .int .i64 m] w fun e w' => e = .returned (.tuple #[.int .i64 0, .bool false]) ∧ (DR w' p l F ∧ Sole p w w') := by
  have hW := dword_any m
  by_cases hw : m < 0 ∨ 4294967295 < m
  · have hr : (rdCount m l).wrong = 22 := by unfold rdCount; rw [if_pos hw]
    rw [hr] at hF
    refine cnt_A (R := fun w' => DR w' p l F ∧ Sole p w w') p m w (fun w => by have := hW w; rwa [show (decide (0 ≤ m) && decide (m ≤ 4294967295)) = false by rcases hw with h | h <;> simp <;> omega] at this) (by have := dfail_any p l E 22 w h; rwa [hF] at this) (fun w1 h1 => ?_)
    exact (there_no p 4 l F F w1 h1.1 (by rw [if_neg hF0]) hF0).mono fun e w' hp => ⟨hp.1, hp.2.1, h1.2.trans hp.2.2⟩
  · have hWt : ∀ w, Calls Tryz.prog 84 #[.int .i64 m] w fun e w' => e = .returned (.bool true) ∧ w' = w := fun w => by have := hW w; rwa [show (decide (0 ≤ m) && decide (m ≤ 4294967295)) = true by simp; omega] at this
    by_cases hs : E = 0 ∧ ¬ l.length < 4
    · obtain ⟨rfl, hl⟩ := hs
      rw [if_pos rfl] at hF
      have ht : (l.take 4).length = 4 := by rw [List.length_take]; omega
      have hlong : m < (beN (l.take 4) : Int) ∧ F = 23 := by
        unfold rdCount at hF
        rw [if_neg hw, if_neg hl] at hF
        by_cases hc : m < (beN (l.take 4) : Int)
        · rw [if_pos hc] at hF; exact ⟨hc, hF.symm⟩
        · rw [if_neg hc] at hF; exact absurd hF.symm hF0
      obtain ⟨hc, rfl⟩ := hlong
      refine (cnt_C (R := fun w' => DR w' p l 0 ∧ Below w.heap.size w w') p m _ _ _ w h.l (by rw [Bs_size]; omega) (ext_take l 4) hc hWt (there_yes p 4 l w h (by omega)) ((number4 _ w ht).mono fun e w' hp => ⟨hp.1, h.below hp.2, hp.2⟩) (fun w1 h1 => ⟨h1.1.e, h1.1.f1⟩)).mono ?_
      rintro e w' ⟨rfl, w1, ⟨hd, hB⟩, rfl⟩
      exact ⟨rfl, hd.setE 23, (Sole.of_below hB).trans (Sole.setCell w1 1 _)⟩
    · refine cnt_B p m w hWt (there_no p 4 l E F w h ?_ hF0)
      rw [← hF]
      by_cases hE : E = 0
      · rw [if_pos hE, if_pos hE]
        have hl : l.length < 4 := Decidable.not_not.1 fun c => hs ⟨hE, c⟩
        rw [if_pos (by omega)]
        unfold rdCount
        rw [if_neg hw, if_pos hl]
      · rw [if_neg hE, if_neg hE]
theorem counted_ok (p : Nat) (m : Int) (l : List UInt8) (w : World) (h : DR w p l 0) (hw0 : (rdCount m l).wrong = 0) :
    Calls Tryz.prog 68 #[.pointer (some ⟨p, 0, none⟩), .int .i64 m] w fun e w' => e = .returned (.tuple #[.int .i64 ((rdCount m l).val : Int), .bool true]) ∧ (DR w' p l 0 ∧ Below w.heap.size w w') := by
  have hW := dword_any m
  unfold rdCount at hw0 ⊢
  by_cases hw : m < 0 ∨ 4294967295 < m
  · rw [if_pos hw] at hw0; cases hw0
  · rw [if_neg hw] at hw0 ⊢
    by_cases hl : l.length < 4
    · rw [if_pos hl] at hw0; cases hw0
    · rw [if_neg hl] at hw0 ⊢
      by_cases hc : m < (beN (l.take 4) : Int)
      · rw [if_pos hc] at hw0; cases hw0
      · rw [if_neg hc]
        have ht : (l.take 4).length = 4 := by rw [List.length_take]; omega
        exact cnt_D (R := fun w' => DR w' p l 0 ∧ Below w.heap.size w w') p m _ _ _ w h.l (by rw [Bs_size]; omega) (ext_take l 4) hc (fun w => by have := hW w; rwa [show (decide (0 ≤ m) && decide (m ≤ 4294967295)) = true by simp; omega] at this) (there_yes p 4 l w h (by omega)) ((number4 _ w ht).mono fun e w' hp => ⟨hp.1, h.below hp.2, hp.2⟩)

theorem dcount_A {Q : World → Prop} (p : Nat) (m : Int) (w : World) (HC : Hid (Calls Tryz.prog 68 #[.pointer (some ⟨p, 0, none⟩), .int .i64 m] w fun e w' => e = .returned (.tuple #[.int .i64 0, .bool false]) ∧ Q w')) :
    Calls Tryz.prog 46 #[.pointer (some ⟨p, 0, none⟩), .int .i64 m] w fun e w' => e = .returned (.int .i64 0) ∧ Q w' := by
  go_enter Tryz.func46, Tryz.ntmps46
  go_wp2_with fail
  refine HC.out.mono ?_
  rintro e w9 ⟨rfl, hQ⟩
  have HQ : Hid (Q w9) := hQ
  clear hQ
  go_wp2
  go_ret
  exact ⟨rfl, HQ.out⟩

theorem dcount_B {R Q : World → Prop} (p : Nat) (m n : Int) (b : ByteArray) (w : World) (HC : Hid (Calls Tryz.prog 68 #[.pointer (some ⟨p, 0, none⟩), .int .i64 m] w fun e w' => e = .returned (.tuple #[.int .i64 n, .bool true]) ∧ R w')) (HK : Hid (∀ w1, R w1 → Calls Tryz.prog 51 #[.pointer (some ⟨p, 0, none⟩), .int .i64 4] w1 fun e w' => e = .returned (.string b) ∧ Q w')) :
    Calls Tryz.prog 46 #[.pointer (some ⟨p, 0, none⟩), .int .i64 m] w fun e w' => e = .returned (.int .i64 n) ∧ Q w' := by
  go_enter Tryz.func46, Tryz.ntmps46
  go_wp2_with fail
  refine HC.out.mono ?_
  rintro e w2 ⟨rfl, hR⟩
  have HR : Hid (R w2) := hR
  clear hR
  go_wp2_with fail
  refine (HK.out _ HR.out).mono ?_
  rintro e w9 ⟨rfl, hQ⟩
  have HQ : Hid (Q w9) := hQ
  clear hQ
  go_wp2
  go_ret
  exact ⟨rfl, HQ.out⟩

theorem dcount_any (p : Nat) (m : Int) (l : List UInt8) (E : Int) (w : World) (h : DR w p l E) : Calls Tryz.prog 46 #[.pointer (some ⟨p, 0, none⟩), .int .i64 m] w (DPost p l E 0 (rdCount m) (fun n => .int .i64 (n : Int)) w) := by
  obtain ⟨F, hF⟩ : ∃ F, (if E = 0 then (rdCount m l).wrong else E) = F := ⟨_, rfl⟩
  by_cases hF0 : F = 0
  · have hE : E = 0 := by
      by_cases hE : E = 0
      · exact hE
      · rw [if_neg hE] at hF; omega
    subst hE
    rw [if_pos rfl, hF0] at hF
    have h4 := (rdCount_size m l).2.1 hF
    refine (dcount_B (R := fun w' => DR w' p l 0 ∧ Below w.heap.size w w') (Q := fun w' => DR w' p (l.drop 4) 0 ∧ Sole p w w') p m _ _ w (counted_ok p m l w h hF) (fun w1 h1 => (takes_any p 4 l 0 w1 h1.1 h4).mono fun e w' hp => ⟨hp.1, hp.2.1, (Sole.of_below h1.2).trans hp.2.2⟩)).mono ?_
    refine fun e w' hp => DPost.good (k := 4) (x := (rdCount m l).val) ?_ hp
    rw [rd_eta (rdCount m l), hF, (rdCount_size m l).1]
  · refine (dcount_A p m w (counted_bad p m l E F w h hF hF0)).mono ?_
    exact fun e w' hp => DPost.bad hF hF0 hp

theorem dopaque_A {Q : World → Prop} (p : Nat) (m : Int) (w : World) (HC : Hid (Calls Tryz.prog 68 #[.pointer (some ⟨p, 0, none⟩), .int .i64 m] w fun e w' => e = .returned (.tuple #[.int .i64 0, .bool false]) ∧ Q w')) :
    Calls Tryz.prog 45 #[.pointer (some ⟨p, 0, none⟩), .int .i64 m] w fun e w' => e = .returned (.string ⟨#[]⟩) ∧ Q w' := by
  go_enter Tryz.func45, Tryz.ntmps45
  go_wp2_with fail
  refine HC.out.mono ?_
  rintro e w9 ⟨rfl, hQ⟩
  have HQ : Hid (Q w9) := hQ
  clear hQ
  go_wp2
  go_ret
  exact ⟨rfl, HQ.out⟩

theorem dopaque_B {R Q : World → Prop} (p : Nat) (m n : Int) (t : ByteArray) (w : World) (HC : Hid (Calls Tryz.prog 68 #[.pointer (some ⟨p, 0, none⟩), .int .i64 m] w fun e w' => e = .returned (.tuple #[.int .i64 n, .bool true]) ∧ R w')) (HK : Hid (∀ w1, R w1 → Calls Tryz.prog 69 #[.pointer (some ⟨p, 0, none⟩), .int .i64 4, .int .i64 n] w1 fun e w' => e = .returned (.string t) ∧ Q w')) :
    Calls Tryz.prog 45 #[.pointer (some ⟨p, 0, none⟩), .int .i64 m] w fun e w' => e = .returned (.string t) ∧ Q w' := by
  go_enter Tryz.func45, Tryz.ntmps45
  go_wp2_with fail
  refine HC.out.mono ?_
  rintro e w2 ⟨rfl, hR⟩
  have HR : Hid (R w2) := hR
  clear hR
  go_wp2_with fail
  refine (HK.out _ HR.out).mono ?_
  rintro e w9 ⟨rfl, hQ⟩
  have HQ : Hid (Q w9) := hQ
  clear hQ
  go_wp2
  go_ret
  exact ⟨rfl, HQ.out⟩

theorem dopaque_any (p : Nat) (m : Int) (l : List UInt8) (E : Int) (w : World) (h : DR w p l E) : Calls Tryz.prog 45 #[.pointer (some ⟨p, 0, none⟩), .int .i64 m] w (DPost p l E [] (rdOpaque m) (fun s => Bs s) w) := by
  by_cases hc : E = 0 ∧ (rdCount m l).wrong = 0
  · obtain ⟨rfl, hw⟩ := hc
    obtain ⟨_, h4, hlt⟩ := rdCount_size m l
    have h4 := h4 hw
    generalize hk : (rdCount m l).val = k at *
    have hop : rdOpaque m l = ⟨(rdText k (l.drop 4)).wrong, 4 + (k + pads k), (rdText k (l.drop 4)).val⟩ := by
      unfold rdOpaque; rw [if_neg (by simp [hw]), hk, rdText_size]
    have hC := counted_ok p m l w h hw
    rw [hk] at hC
    by_cases hw2 : (rdText k (l.drop 4)).wrong = 0
    · refine (dopaque_B (R := fun w' => DR w' p l 0 ∧ Below w.heap.size w w') (Q := fun w' => DR w' p (l.drop (4 + (k + pads k))) 0 ∧ Sole p w w') p m _ _ w hC (fun w1 h1 => (opaque_ok p 4 k l w1 h1.1 (by omega) h4 (by omega) hw2).mono fun e w' hp => ⟨hp.1, hp.2.1, (Sole.of_below h1.2).trans hp.2.2⟩)).mono ?_
      exact fun e w' hp => DPost.good (k := 4 + (k + pads k)) (x := (rdText k (l.drop 4)).val) (by rw [hop, hw2]) hp
    · refine (dopaque_B (R := fun w' => DR w' p l 0 ∧ Below w.heap.size w w') (Q := fun w' => DR w' p l (rdText k (l.drop 4)).wrong ∧ Sole p w w') p m _ _ w hC (fun w1 h1 => (opaque_bad p 4 k l w1 h1.1 (by omega) h4 (by omega) hw2).mono fun e w' hp => ⟨hp.1, hp.2.1, (Sole.of_below h1.2).trans hp.2.2⟩)).mono ?_
      exact fun e w' hp => DPost.bad (F := (rdText k (l.drop 4)).wrong) (by rw [if_pos rfl, hop]) hw2 hp
  · obtain ⟨F, hF⟩ : ∃ F, (if E = 0 then (rdCount m l).wrong else E) = F := ⟨_, rfl⟩
    have hF0 : F ≠ 0 := by
      intro c
      rw [c] at hF
      apply hc
      by_cases hE : E = 0
      · rw [if_pos hE] at hF; exact ⟨hE, hF⟩
      · rw [if_neg hE] at hF; exact absurd hF hE
    refine (dopaque_A p m w (counted_bad p m l E F w h hF hF0)).mono ?_
    refine fun e w' hp => DPost.bad (F := F) ?_ hF0 hp
    rw [← hF]
    by_cases hE : E = 0
    · rw [if_pos hE, if_pos hE]
      unfold rdOpaque
      rw [if_pos (fun c => hc ⟨hE, c⟩)]
    · rw [if_neg hE, if_neg hE]

end Go.Proofs.YtihcdahmfdijoaaGreatDoor
