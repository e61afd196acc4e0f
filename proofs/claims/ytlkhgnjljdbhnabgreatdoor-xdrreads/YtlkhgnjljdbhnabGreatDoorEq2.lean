/- XdrReads: two Readers of any texts, every row of calls: the walk. -/
import Derived.Test.YtlkhgnjljdbhnabGreatDoorEq1
import Derived.Test.YtlkhgnjljdbhnabGreatDoorYq2
namespace Go.Proofs.YtlkhgnjljdbhnabGreatDoor
open Go.RowKit

set_option maxRecDepth 4000 in
set_option maxHeartbeats 8000000 in
theorem xdrReads_any (s t : List UInt8) (oa : Option Addr) (b off len cap : Nat) (K N MM : Nat → Int) (O : Nat → Bool) (T : Nat → ByteArray) (A B : Nat → Nat) (w : World) (hoa : 0 < len → oa = some ⟨b, off, none⟩) (hops : Ops w b off len K N MM O T A B)
    (hlen : (len : Int) ≤ 9223372036854775807) (hE : ErrT w) (hawake : Calls Tryz.prog 5 #[] w fun e w' => e = .returned (.bool true) ∧ Below w.heap.size w w') :
    Calls Tryz.prog 3 #[.string ⟨s.toArray⟩, .string ⟨t.toArray⟩, .slice oa len cap] w fun e w' => e = .returned (.bool true) ∧ Below w.heap.size w w' := by
  have HAW : Hid (Calls Tryz.prog 5 #[] w fun e w' => e = .returned (.bool true) ∧ Below w.heap.size w w') := hawake
  obtain ⟨m1, hm1⟩ : ∃ m, addF (s.length : Int) (t.length : Int) = m := ⟨_, rfl⟩
  obtain ⟨m, hm⟩ : ∃ m, addF m1 (len : Int) = m := ⟨_, rfl⟩
  have h10 : 0 ≤ m1 := by subst hm1; unfold addF; split <;> omega
  have H1 : Hid (∀ w, Calls Tryz.prog 4 #[.int .i64 (s.length : Int), .int .i64 (t.length : Int)] w fun e w' => e = .returned (.int .i64 m1) ∧ w' = w) := fun w => by
    have := addsUp_any (s.length : Int) (t.length : Int) w (by omega) (by omega)
    rwa [hm1] at this
  have H2 : Hid (∀ w, Calls Tryz.prog 4 #[.int .i64 m1, .int .i64 (len : Int)] w fun e w' => e = .returned (.int .i64 m) ∧ w' = w) := fun w => by
    have := addsUp_any m1 (len : Int) w h10 (by omega)
    rwa [hm] at this
  have HM : Hid (m ≤ 2147483647 → s.length ≤ 2147483647 ∧ t.length ≤ 2147483647) := by
    show m ≤ 2147483647 → s.length ≤ 2147483647 ∧ t.length ≤ 2147483647
    intro h
    subst hm
    unfold addF at h
    split at h
    · omega
    · rename_i h3
      subst hm1
      unfold addF at h3
      split at h3
      · omega
      · omega
  clear hm1 hm h10
  have HNS : Hid (∀ w, Calls Tryz.prog 6 #[.string ⟨s.toArray⟩] w fun e w' => e = .returned (.pointer (some ⟨w.heap.size, 0, none⟩)) ∧ w' = w.alloc (.cells #[.string ⟨s.toArray⟩, .nilIface] 52)) := rnew_rd s
  have HNT : Hid (∀ w, Calls Tryz.prog 6 #[.string ⟨t.toArray⟩] w fun e w' => e = .returned (.pointer (some ⟨w.heap.size, 0, none⟩)) ∧ w' = w.alloc (.cells #[.string ⟨t.toArray⟩, .nilIface] 52)) := rnew_rd t
  have HDS : Hid (∀ w, Calls Tryz.prog 7 #[.string ⟨s.toArray⟩] w fun e w' => e = .returned (.pointer (some ⟨w.heap.size, 0, none⟩)) ∧ w' = w.alloc (.cells #[.string ⟨s.toArray⟩, .int .i64 0] 54)) := dnew_any s
  have HDT : Hid (∀ w, Calls Tryz.prog 7 #[.string ⟨t.toArray⟩] w fun e w' => e = .returned (.pointer (some ⟨w.heap.size, 0, none⟩)) ∧ w' = w.alloc (.cells #[.string ⟨t.toArray⟩, .int .i64 0] 54)) := dnew_any t
  have HO : Hid (0 < len → oa = some ⟨b, off, none⟩) := hoa
  have HOP : Hid (Ops w b off len K N MM O T A B) := hops
  have HER : Hid (ErrT w) := hE
  clear hawake hoa hops hE
  go_enter Tryz.func3, Tryz.ntmps3
  go_wp2_with fail
  refine (H1.out _).mono ?_
  rintro e w0 ⟨rfl, hw⟩
  have hw1 := hw.symm
  clear hw
  subst hw1
  go_wp2_with fail
  refine (H2.out _).mono ?_
  rintro e w0 ⟨rfl, hw⟩
  have hw1 := hw.symm
  clear hw
  subst hw1
  by_cases hb : 2147483647 < m
  · go_wp2
    go_ret
    exact ⟨rfl, Below.refl _ _⟩
  have HS : Hid (s.length ≤ 2147483647 ∧ t.length ≤ 2147483647) := HM.out (by omega)
  clear HM
  go_wp2_with fail
  refine HAW.out.mono ?_
  rintro e w1 ⟨rfl, hB1⟩
  have HB1 : Hid (Below w.heap.size w w1) := hB1
  clear hB1
  go_wp2_with fail
  refine (HNS.out _).mono ?_
  rintro e w2 ⟨rfl, rfl⟩
  go_wp2_with fail
  refine (HNT.out _).mono ?_
  rintro e w2 ⟨rfl, rfl⟩
  go_wp2_with fail
  refine (HDS.out _).mono ?_
  rintro e w2 ⟨rfl, rfl⟩
  go_wp2_with fail
  refine (HDT.out _).mono ?_
  rintro e w2 ⟨rfl, rfl⟩
  go_wp2_with fail
  have HST : Hid (RY w.heap.size w w1.heap.size (w1.heap.size + 1) (w1.heap.size + 1 + 1) (w1.heap.size + 1 + 1 + 1) ((((w1.alloc (.cells #[.string ⟨s.toArray⟩, .nilIface] 52)).alloc (.cells #[.string ⟨t.toArray⟩, .nilIface] 52)).alloc (.cells #[.string ⟨s.toArray⟩, .int .i64 0] 54)).alloc (.cells #[.string ⟨t.toArray⟩, .int .i64 0] 54))) := ⟨s, 0, t, 0, RYs.start HB1.out s t HS.out.1 HS.out.2⟩
  have HL1 : Hid (∀ l E l2 E2 wx, RYs w.heap.size w w1.heap.size (w1.heap.size + 1) (w1.heap.size + 1 + 1) (w1.heap.size + 1 + 1 + 1) l E l2 E2 wx → Calls Tryz.prog 9 #[.pointer (some ⟨w1.heap.size, 0, none⟩)] wx fun e w' => e = .returned (.int .i64 (l.length : Int)) ∧ RYs w.heap.size w w1.heap.size (w1.heap.size + 1) (w1.heap.size + 1 + 1) (w1.heap.size + 1 + 1 + 1) l E l2 E2 w') := fun l E l2 E2 wx h => h.left
  have HL2 : Hid (∀ l E l2 E2 wx, RYs w.heap.size w w1.heap.size (w1.heap.size + 1) (w1.heap.size + 1 + 1) (w1.heap.size + 1 + 1 + 1) l E l2 E2 wx → Calls Tryz.prog 10 #[.pointer (some ⟨(w1.heap.size + 1 + 1), 0, none⟩)] wx fun e w' => e = .returned (.int .i64 (l.length : Int)) ∧ RYs w.heap.size w w1.heap.size (w1.heap.size + 1) (w1.heap.size + 1 + 1) (w1.heap.size + 1 + 1 + 1) l E l2 E2 w') := fun l E l2 E2 wx h => h.leftD
  have HL3 : Hid (∀ l E l2 E2 wx, RYs w.heap.size w w1.heap.size (w1.heap.size + 1) (w1.heap.size + 1 + 1) (w1.heap.size + 1 + 1 + 1) l E l2 E2 wx → Calls Tryz.prog 9 #[.pointer (some ⟨(w1.heap.size + 1), 0, none⟩)] wx fun e w' => e = .returned (.int .i64 (l2.length : Int)) ∧ RYs w.heap.size w w1.heap.size (w1.heap.size + 1) (w1.heap.size + 1 + 1) (w1.heap.size + 1 + 1 + 1) l E l2 E2 w') := fun l E l2 E2 wx h => (h.swap.left).mono fun _ _ hp => ⟨hp.1, hp.2.swap⟩
  have HL4 : Hid (∀ l E l2 E2 wx, RYs w.heap.size w w1.heap.size (w1.heap.size + 1) (w1.heap.size + 1 + 1) (w1.heap.size + 1 + 1 + 1) l E l2 E2 wx → Calls Tryz.prog 10 #[.pointer (some ⟨(w1.heap.size + 1 + 1 + 1), 0, none⟩)] wx fun e w' => e = .returned (.int .i64 (l2.length : Int)) ∧ RYs w.heap.size w w1.heap.size (w1.heap.size + 1) (w1.heap.size + 1 + 1) (w1.heap.size + 1 + 1 + 1) l E l2 E2 w') := fun l E l2 E2 wx h => (h.swap.leftD).mono fun _ _ hp => ⟨hp.1, hp.2.swap⟩
  have HW1 : Hid (∀ l E l2 E2 wx, RYs w.heap.size w w1.heap.size (w1.heap.size + 1) (w1.heap.size + 1 + 1) (w1.heap.size + 1 + 1 + 1) l E l2 E2 wx → Calls Tryz.prog 11 #[.pointer (some ⟨w1.heap.size, 0, none⟩)] wx fun e w' => e = .returned (.int .i64 E) ∧ RYs w.heap.size w w1.heap.size (w1.heap.size + 1) (w1.heap.size + 1 + 1) (w1.heap.size + 1 + 1 + 1) l E l2 E2 w') := fun l E l2 E2 wx h => h.wrong HER.out
  have HW2 : Hid (∀ l E l2 E2 wx, RYs w.heap.size w w1.heap.size (w1.heap.size + 1) (w1.heap.size + 1 + 1) (w1.heap.size + 1 + 1 + 1) l E l2 E2 wx → Calls Tryz.prog 12 #[.pointer (some ⟨(w1.heap.size + 1 + 1), 0, none⟩)] wx fun e w' => e = .returned (.int .i64 E) ∧ RYs w.heap.size w w1.heap.size (w1.heap.size + 1) (w1.heap.size + 1 + 1) (w1.heap.size + 1 + 1 + 1) l E l2 E2 w') := fun l E l2 E2 wx h => h.wrongD
  have HW3 : Hid (∀ l E l2 E2 wx, RYs w.heap.size w w1.heap.size (w1.heap.size + 1) (w1.heap.size + 1 + 1) (w1.heap.size + 1 + 1 + 1) l E l2 E2 wx → Calls Tryz.prog 11 #[.pointer (some ⟨(w1.heap.size + 1), 0, none⟩)] wx fun e w' => e = .returned (.int .i64 E2) ∧ RYs w.heap.size w w1.heap.size (w1.heap.size + 1) (w1.heap.size + 1 + 1) (w1.heap.size + 1 + 1 + 1) l E l2 E2 w') := fun l E l2 E2 wx h => (h.swap.wrong HER.out).mono fun _ _ hp => ⟨hp.1, hp.2.swap⟩
  have HW4 : Hid (∀ l E l2 E2 wx, RYs w.heap.size w w1.heap.size (w1.heap.size + 1) (w1.heap.size + 1 + 1) (w1.heap.size + 1 + 1 + 1) l E l2 E2 wx → Calls Tryz.prog 12 #[.pointer (some ⟨(w1.heap.size + 1 + 1 + 1), 0, none⟩)] wx fun e w' => e = .returned (.int .i64 E2) ∧ RYs w.heap.size w w1.heap.size (w1.heap.size + 1) (w1.heap.size + 1 + 1) (w1.heap.size + 1 + 1 + 1) l E l2 E2 w') := fun l E l2 E2 wx h => (h.swap.wrongD).mono fun _ _ hp => ⟨hp.1, hp.2.swap⟩
  have HD1 : Hid (∀ l E l2 E2 wx, RYs w.heap.size w w1.heap.size (w1.heap.size + 1) (w1.heap.size + 1 + 1) (w1.heap.size + 1 + 1 + 1) l E l2 E2 wx → Calls Tryz.prog 13 #[.pointer (some ⟨w1.heap.size, 0, none⟩)] wx fun e w' => e = .returned (.int .i64 (rdDone l E)) ∧ RYs w.heap.size w w1.heap.size (w1.heap.size + 1) (w1.heap.size + 1 + 1) (w1.heap.size + 1 + 1 + 1) l E l2 E2 w') := fun l E l2 E2 wx h => h.done HER.out
  have HD2 : Hid (∀ l E l2 E2 wx, RYs w.heap.size w w1.heap.size (w1.heap.size + 1) (w1.heap.size + 1 + 1) (w1.heap.size + 1 + 1 + 1) l E l2 E2 wx → Calls Tryz.prog 14 #[.pointer (some ⟨(w1.heap.size + 1 + 1), 0, none⟩)] wx fun e w' => e = .returned (.int .i64 (rdDone l E)) ∧ RYs w.heap.size w w1.heap.size (w1.heap.size + 1) (w1.heap.size + 1 + 1) (w1.heap.size + 1 + 1 + 1) l E l2 E2 w') := fun l E l2 E2 wx h => h.doneD
  have HD3 : Hid (∀ l E l2 E2 wx, RYs w.heap.size w w1.heap.size (w1.heap.size + 1) (w1.heap.size + 1 + 1) (w1.heap.size + 1 + 1 + 1) l E l2 E2 wx → Calls Tryz.prog 13 #[.pointer (some ⟨(w1.heap.size + 1), 0, none⟩)] wx fun e w' => e = .returned (.int .i64 (rdDone l2 E2)) ∧ RYs w.heap.size w w1.heap.size (w1.heap.size + 1) (w1.heap.size + 1 + 1) (w1.heap.size + 1 + 1 + 1) l E l2 E2 w') := fun l E l2 E2 wx h => (h.swap.done HER.out).mono fun _ _ hp => ⟨hp.1, hp.2.swap⟩
  have HD4 : Hid (∀ l E l2 E2 wx, RYs w.heap.size w w1.heap.size (w1.heap.size + 1) (w1.heap.size + 1 + 1) (w1.heap.size + 1 + 1 + 1) l E l2 E2 wx → Calls Tryz.prog 14 #[.pointer (some ⟨(w1.heap.size + 1 + 1 + 1), 0, none⟩)] wx fun e w' => e = .returned (.int .i64 (rdDone l2 E2)) ∧ RYs w.heap.size w w1.heap.size (w1.heap.size + 1) (w1.heap.size + 1 + 1) (w1.heap.size + 1 + 1 + 1) l E l2 E2 w') := fun l E l2 E2 wx h => (h.swap.doneD).mono fun _ _ hp => ⟨hp.1, hp.2.swap⟩
  go_loopw [12] (fun i wr => ∃ k : Nat, i = .int .i64 k ∧ k ≤ len ∧ Hid (RY w.heap.size w w1.heap.size (w1.heap.size + 1) (w1.heap.size + 1 + 1) (w1.heap.size + 1 + 1 + 1) wr)) (fun i _ => len - (intOf i).toNat)
  case atStart => exact ⟨0, rfl, by omega, HST⟩
  case round =>
    obtain ⟨k, rfl, hk, HI⟩ := hrel
    obtain ⟨l0, E0, l02, E02, h0⟩ := HI.out
    have HY0 : Hid (RYs w.heap.size w w1.heap.size (w1.heap.size + 1) (w1.heap.size + 1 + 1) (w1.heap.size + 1 + 1 + 1) l0 E0 l02 E02 wr) := h0
    clear h0 HI
    by_cases hlt : k < len
    · obtain rfl := HO.out (by omega)
      have hwr : Ops wr b off len K N MM O T A B := HOP.out.below (HY0.out.low.block b (HOP.out.lt (by omega)))
      have d0 := hwr.c0 k hlt
      have d1 := hwr.c1 k hlt
      have d2 := hwr.c2 k hlt
      have d3 := hwr.c3 k hlt
      have d4 := hwr.c4 k hlt
      have d5 := hwr.c5 k hlt
      have d6 := hwr.c6 k hlt
      have hra := rx_any (K k) (N k) (MM k) (O k) (T k) (A k) (B k) (hwr.n k hlt).1 (hwr.n k hlt).2
      have H8a : Hid (Calls Tryz.prog 8 #[.pointer (some ⟨w1.heap.size, 0, none⟩), .pointer (some ⟨(w1.heap.size + 1 + 1), 0, none⟩), opcV (K k) (N k) (MM k) (O k) (T k) (A k) (B k)] wr fun e w' => e = .returned (.bool true) ∧ ∃ l E l2 E2, RYs w.heap.size w w1.heap.size (w1.heap.size + 1) (w1.heap.size + 1 + 1) (w1.heap.size + 1 + 1 + 1) l E l2 E2 w') := (HY0.out.step hra).mono fun _ _ hp => ⟨hp.1, hp.2.choose, hp.2.choose_spec.choose, _, _, hp.2.choose_spec.choose_spec⟩
      have H8b : Hid (Calls Tryz.prog 8 #[.pointer (some ⟨(w1.heap.size + 1), 0, none⟩), .pointer (some ⟨(w1.heap.size + 1 + 1 + 1), 0, none⟩), opcV (K k) (N k) (MM k) (O k) (T k) (A k) (B k)] wr fun e w' => e = .returned (.bool true) ∧ ∃ l E l2 E2, RYs w.heap.size w w1.heap.size (w1.heap.size + 1) (w1.heap.size + 1 + 1) (w1.heap.size + 1 + 1 + 1) l E l2 E2 w') := (HY0.out.swap.step hra).mono fun _ _ hp => ⟨hp.1, _, _, hp.2.choose, hp.2.choose_spec.choose, hp.2.choose_spec.choose_spec.swap⟩
      unfold opcV at H8a H8b
      clear hwr hra
      cases hO : O k
      · rw [hO] at H8a d3
        clear hO H8b
        go_wp2_with fail
        refine H8a.out.mono ?_
        rintro e w4 ⟨rfl, l, E, l2, E2, hi⟩
        have HY : Hid (RYs w.heap.size w w1.heap.size (w1.heap.size + 1) (w1.heap.size + 1 + 1) (w1.heap.size + 1 + 1 + 1) l E l2 E2 w4) := hi
        clear hi H8a HY0
        go_wp2_with fail
        refine (HL1.out _ _ _ _ _ HY.out).mono ?_
        rintro e v0 ⟨rfl, hi⟩
        have HY0 : Hid (RYs w.heap.size w w1.heap.size (w1.heap.size + 1) (w1.heap.size + 1 + 1) (w1.heap.size + 1 + 1 + 1) l E l2 E2 v0) := hi
        clear hi HY
        go_wp2_with fail
        refine (HL2.out _ _ _ _ _ HY0.out).mono ?_
        rintro e v1 ⟨rfl, hi⟩
        have HY1 : Hid (RYs w.heap.size w w1.heap.size (w1.heap.size + 1) (w1.heap.size + 1 + 1) (w1.heap.size + 1 + 1 + 1) l E l2 E2 v1) := hi
        clear hi HY0
        go_wp2_with fail
        refine (HL3.out _ _ _ _ _ HY1.out).mono ?_
        rintro e v2 ⟨rfl, hi⟩
        have HY2 : Hid (RYs w.heap.size w w1.heap.size (w1.heap.size + 1) (w1.heap.size + 1 + 1) (w1.heap.size + 1 + 1 + 1) l E l2 E2 v2) := hi
        clear hi HY1
        go_wp2_with fail
        refine (HL4.out _ _ _ _ _ HY2.out).mono ?_
        rintro e v3 ⟨rfl, hi⟩
        have HY3 : Hid (RYs w.heap.size w w1.heap.size (w1.heap.size + 1) (w1.heap.size + 1 + 1) (w1.heap.size + 1 + 1 + 1) l E l2 E2 v3) := hi
        clear hi HY2
        go_wp2_with fail
        refine (HW1.out _ _ _ _ _ HY3.out).mono ?_
        rintro e v4 ⟨rfl, hi⟩
        have HY4 : Hid (RYs w.heap.size w w1.heap.size (w1.heap.size + 1) (w1.heap.size + 1 + 1) (w1.heap.size + 1 + 1 + 1) l E l2 E2 v4) := hi
        clear hi HY3
        go_wp2_with fail
        refine (HW2.out _ _ _ _ _ HY4.out).mono ?_
        rintro e v5 ⟨rfl, hi⟩
        have HY5 : Hid (RYs w.heap.size w w1.heap.size (w1.heap.size + 1) (w1.heap.size + 1 + 1) (w1.heap.size + 1 + 1 + 1) l E l2 E2 v5) := hi
        clear hi HY4
        go_wp2_with fail
        refine (HW3.out _ _ _ _ _ HY5.out).mono ?_
        rintro e v6 ⟨rfl, hi⟩
        have HY6 : Hid (RYs w.heap.size w w1.heap.size (w1.heap.size + 1) (w1.heap.size + 1 + 1) (w1.heap.size + 1 + 1 + 1) l E l2 E2 v6) := hi
        clear hi HY5
        go_wp2_with fail
        refine (HW4.out _ _ _ _ _ HY6.out).mono ?_
        rintro e v7 ⟨rfl, hi⟩
        have HY7 : Hid (RYs w.heap.size w w1.heap.size (w1.heap.size + 1) (w1.heap.size + 1 + 1) (w1.heap.size + 1 + 1 + 1) l E l2 E2 v7) := hi
        clear hi HY6
        go_wp2_with fail
        refine (HD1.out _ _ _ _ _ HY7.out).mono ?_
        rintro e v8 ⟨rfl, hi⟩
        have HY8 : Hid (RYs w.heap.size w w1.heap.size (w1.heap.size + 1) (w1.heap.size + 1 + 1) (w1.heap.size + 1 + 1 + 1) l E l2 E2 v8) := hi
        clear hi HY7
        go_wp2_with fail
        refine (HD2.out _ _ _ _ _ HY8.out).mono ?_
        rintro e v9 ⟨rfl, hi⟩
        have HY9 : Hid (RYs w.heap.size w w1.heap.size (w1.heap.size + 1) (w1.heap.size + 1 + 1) (w1.heap.size + 1 + 1 + 1) l E l2 E2 v9) := hi
        clear hi HY8
        go_wp2_with fail
        refine (HD3.out _ _ _ _ _ HY9.out).mono ?_
        rintro e v10 ⟨rfl, hi⟩
        have HY10 : Hid (RYs w.heap.size w w1.heap.size (w1.heap.size + 1) (w1.heap.size + 1 + 1) (w1.heap.size + 1 + 1 + 1) l E l2 E2 v10) := hi
        clear hi HY9
        go_wp2_with fail
        refine (HD4.out _ _ _ _ _ HY10.out).mono ?_
        rintro e v11 ⟨rfl, hi⟩
        have HY11 : Hid (RYs w.heap.size w w1.heap.size (w1.heap.size + 1) (w1.heap.size + 1 + 1) (w1.heap.size + 1 + 1 + 1) l E l2 E2 v11) := hi
        clear hi HY10
        go_wp2
        go_roundw
        case rel => exact ⟨k + 1, by go_num, by omega, ⟨l, E, l2, E2, HY11.out⟩⟩
        case measure => simp [intOf]; omega
      · rw [hO] at H8b d3
        clear hO H8a
        go_wp2_with fail
        refine H8b.out.mono ?_
        rintro e w4 ⟨rfl, l, E, l2, E2, hi⟩
        have HY : Hid (RYs w.heap.size w w1.heap.size (w1.heap.size + 1) (w1.heap.size + 1 + 1) (w1.heap.size + 1 + 1 + 1) l E l2 E2 w4) := hi
        clear hi H8b HY0
        go_wp2_with fail
        refine (HL1.out _ _ _ _ _ HY.out).mono ?_
        rintro e v0 ⟨rfl, hi⟩
        have HY0 : Hid (RYs w.heap.size w w1.heap.size (w1.heap.size + 1) (w1.heap.size + 1 + 1) (w1.heap.size + 1 + 1 + 1) l E l2 E2 v0) := hi
        clear hi HY
        go_wp2_with fail
        refine (HL2.out _ _ _ _ _ HY0.out).mono ?_
        rintro e v1 ⟨rfl, hi⟩
        have HY1 : Hid (RYs w.heap.size w w1.heap.size (w1.heap.size + 1) (w1.heap.size + 1 + 1) (w1.heap.size + 1 + 1 + 1) l E l2 E2 v1) := hi
        clear hi HY0
        go_wp2_with fail
        refine (HL3.out _ _ _ _ _ HY1.out).mono ?_
        rintro e v2 ⟨rfl, hi⟩
        have HY2 : Hid (RYs w.heap.size w w1.heap.size (w1.heap.size + 1) (w1.heap.size + 1 + 1) (w1.heap.size + 1 + 1 + 1) l E l2 E2 v2) := hi
        clear hi HY1
        go_wp2_with fail
        refine (HL4.out _ _ _ _ _ HY2.out).mono ?_
        rintro e v3 ⟨rfl, hi⟩
        have HY3 : Hid (RYs w.heap.size w w1.heap.size (w1.heap.size + 1) (w1.heap.size + 1 + 1) (w1.heap.size + 1 + 1 + 1) l E l2 E2 v3) := hi
        clear hi HY2
        go_wp2_with fail
        refine (HW1.out _ _ _ _ _ HY3.out).mono ?_
        rintro e v4 ⟨rfl, hi⟩
        have HY4 : Hid (RYs w.heap.size w w1.heap.size (w1.heap.size + 1) (w1.heap.size + 1 + 1) (w1.heap.size + 1 + 1 + 1) l E l2 E2 v4) := hi
        clear hi HY3
        go_wp2_with fail
        refine (HW2.out _ _ _ _ _ HY4.out).mono ?_
        rintro e v5 ⟨rfl, hi⟩
        have HY5 : Hid (RYs w.heap.size w w1.heap.size (w1.heap.size + 1) (w1.heap.size + 1 + 1) (w1.heap.size + 1 + 1 + 1) l E l2 E2 v5) := hi
        clear hi HY4
        go_wp2_with fail
        refine (HW3.out _ _ _ _ _ HY5.out).mono ?_
        rintro e v6 ⟨rfl, hi⟩
        have HY6 : Hid (RYs w.heap.size w w1.heap.size (w1.heap.size + 1) (w1.heap.size + 1 + 1) (w1.heap.size + 1 + 1 + 1) l E l2 E2 v6) := hi
        clear hi HY5
        go_wp2_with fail
        refine (HW4.out _ _ _ _ _ HY6.out).mono ?_
        rintro e v7 ⟨rfl, hi⟩
        have HY7 : Hid (RYs w.heap.size w w1.heap.size (w1.heap.size + 1) (w1.heap.size + 1 + 1) (w1.heap.size + 1 + 1 + 1) l E l2 E2 v7) := hi
        clear hi HY6
        go_wp2_with fail
        refine (HD1.out _ _ _ _ _ HY7.out).mono ?_
        rintro e v8 ⟨rfl, hi⟩
        have HY8 : Hid (RYs w.heap.size w w1.heap.size (w1.heap.size + 1) (w1.heap.size + 1 + 1) (w1.heap.size + 1 + 1 + 1) l E l2 E2 v8) := hi
        clear hi HY7
        go_wp2_with fail
        refine (HD2.out _ _ _ _ _ HY8.out).mono ?_
        rintro e v9 ⟨rfl, hi⟩
        have HY9 : Hid (RYs w.heap.size w w1.heap.size (w1.heap.size + 1) (w1.heap.size + 1 + 1) (w1.heap.size + 1 + 1 + 1) l E l2 E2 v9) := hi
        clear hi HY8
        go_wp2_with fail
        refine (HD3.out _ _ _ _ _ HY9.out).mono ?_
        rintro e v10 ⟨rfl, hi⟩
        have HY10 : Hid (RYs w.heap.size w w1.heap.size (w1.heap.size + 1) (w1.heap.size + 1 + 1) (w1.heap.size + 1 + 1 + 1) l E l2 E2 v10) := hi
        clear hi HY9
        go_wp2_with fail
        refine (HD4.out _ _ _ _ _ HY10.out).mono ?_
        rintro e v11 ⟨rfl, hi⟩
        have HY11 : Hid (RYs w.heap.size w w1.heap.size (w1.heap.size + 1) (w1.heap.size + 1 + 1) (w1.heap.size + 1 + 1 + 1) l E l2 E2 v11) := hi
        clear hi HY10
        go_wp2
        go_roundw
        case rel => exact ⟨k + 1, by go_num, by omega, ⟨l, E, l2, E2, HY11.out⟩⟩
        case measure => simp [intOf]; omega
    · obtain rfl : k = len := by omega
      go_wp2
      go_ret
      exact ⟨rfl, HY0.out.low⟩
end Go.Proofs.YtlkhgnjljdbhnabGreatDoor
