/- The statement on texts: whatever the input, its walk answers true, and nothing that was there has turned. -/
import Derived.Test.YtbbikogpfpghbaaDoorTb
namespace Go.Proofs.YtbbikogpfpghbaaDoor
open Go.RowKit

set_option maxHeartbeats 400000 in
theorem addn_big (n : Int) (w : World) (h0 : 0 ≤ n) (h1 : n ≤ 9223372036854775807) (h : 2147483647 - n < n) :
    Calls Tryd.prog 27 #[.int .i64 n, .int .i64 n] w fun e w' => e = .returned (.int .i64 2147483648) ∧ w' = w := by
  go_enter Tryd.func27, Tryd.ntmps27
  go_wp2
  go_ret
  exact ⟨rfl, rfl⟩

set_option maxHeartbeats 400000 in
theorem addn_small (n : Int) (w : World) (h0 : 0 ≤ n) (h : n ≤ 2147483647 - n) :
    Calls Tryd.prog 27 #[.int .i64 n, .int .i64 n] w fun e w' => e = .returned (.int .i64 (n + n)) ∧ w' = w := by
  go_enter Tryd.func27, Tryd.ntmps27
  go_wp2
  go_ret
  exact ⟨rfl, rfl⟩

set_option maxHeartbeats 400000 in
theorem realTexts_long (a c at0 by0 m : Int) (s : ByteArray) (w : World)
    (h1 : ∀ w, Calls Tryd.prog 27 #[.int .i64 (s.size : Int), .int .i64 (s.size : Int)] w fun e w' => e = .returned (.int .i64 m) ∧ w' = w)
    (h2 : ∀ w, Calls Tryd.prog 27 #[.int .i64 m, .int .i64 1000] w fun e w' => e = .returned (.int .i64 2147483648) ∧ w' = w) :
    Calls Tryd.prog 6 #[.int .i64 a, .int .i64 c, .string s, .int .i64 at0, .int .i64 by0] w fun e w' => e = .returned (.bool true) ∧ Below w.heap.size w w' := by
  have H1 : Hid (∀ w, Calls Tryd.prog 27 #[.int .i64 (s.size : Int), .int .i64 (s.size : Int)] w fun e w' => e = .returned (.int .i64 m) ∧ w' = w) := h1
  have H2 : Hid (∀ w, Calls Tryd.prog 27 #[.int .i64 m, .int .i64 1000] w fun e w' => e = .returned (.int .i64 2147483648) ∧ w' = w) := h2
  clear h1 h2
  go_enter Tryd.func6, Tryd.ntmps6
  go_wp2_with fail
  refine (H1.out _).mono ?_
  rintro e w' ⟨rfl, rfl⟩
  go_wp2_with fail
  refine (H2.out _).mono ?_
  rintro e w' ⟨rfl, rfl⟩
  go_wp2
  go_ret
  exact ⟨rfl, Below.refl _ _⟩

theorem textL_pos (x : Nat) : 0 < (textL x).length := by
  unfold textL
  split
  · simp
  · rw [List.length_append]
    have : 0 < (sizeT (x % 9223372036854775808)).length := by
      unfold sizeT
      split
      · simp
      · split
        · simp
        · unfold sizeL; simp
    omega

/-- A number's text, as both printers tell it. -/
theorem text_both (x : Nat) (h : x < 18446744073709551616) : ∃ T : ByteArray, 0 < (T.size : Int) ∧ (T.size : Int) ≤ 25 ∧ (T.toList == []) = false ∧
    Hid (∀ w, Calls Tryd.prog 28 #[.float .f64 x] w fun e w' => e = .returned (.string T) ∧ ∃ k, w' = w.drewN k) ∧
    Hid (∀ w, Rd w → Calls Tryd.prog 30 #[.float .f64 x] w fun e w' => e = .returned (.string T) ∧ Below w.heap.size w w') := by
  have h1 := textL_pos x
  have h2 := textL_len x
  have e := sizeB (textL x)
  refine ⟨⟨(textL x).toArray⟩, by omega, by omega, ?_, fun w => dprint64 x w h, fun w hR => print64_any x w h hR⟩
  rw [Lib.toList_data, beq_eq_false_iff_ne]
  intro hh
  have hh2 : textL x = [] := hh
  rw [hh2] at h1
  exact absurd h1 (by simp)
theorem text_both32 (u : Nat) (h : u < 4294967296) : ∃ T : ByteArray, 0 < (T.size : Int) ∧ (T.size : Int) ≤ 25 ∧ (T.toList == []) = false ∧
    Hid (∀ w, Calls Tryd.prog 29 #[.float .f32 u] w fun e w' => e = .returned (.string T) ∧ ∃ k, w' = w.drewN k) ∧
    Hid (∀ w, Rd w → Calls Tryd.prog 31 #[.float .f32 u] w fun e w' => e = .returned (.string T) ∧ Below w.heap.size w w') := by
  have h1 := textL_pos (wid u)
  have h2 := textL_len (wid u)
  have e := sizeB (textL (wid u))
  refine ⟨⟨(textL (wid u)).toArray⟩, by omega, by omega, ?_, fun w => dprint32 u w h, fun w hR => print32_any u w h hR⟩
  rw [Lib.toList_data, beq_eq_false_iff_ne]
  intro hh
  have hh2 : textL (wid u) = [] := hh
  rw [hh2] at h1
  exact absurd h1 (by simp)

set_option maxRecDepth 4000 in
set_option maxHeartbeats 4000000 in
theorem realTexts_walk (a c at0 by0 : Int) (s : ByteArray) (w : World) (hR : Rd w) (hs : (s.size : Int) ≤ 1073741323) (ha0 : -9223372036854775808 ≤ at0) (ha1 : at0 ≤ 9223372036854775807) :
    Calls Tryd.prog 6 #[.int .i64 a, .int .i64 c, .string s, .int .i64 at0, .int .i64 by0] w fun e w' => e = .returned (.bool true) ∧ Below w.heap.size w w' := by
  obtain ⟨m, m2, H1, H2, hm2⟩ : ∃ m m2 : Int, Hid (∀ w, Calls Tryd.prog 27 #[.int .i64 (s.size : Int), .int .i64 (s.size : Int)] w fun e w' => e = .returned (.int .i64 m) ∧ w' = w) ∧ Hid (∀ w, Calls Tryd.prog 27 #[.int .i64 m, .int .i64 1000] w fun e w' => e = .returned (.int .i64 m2) ∧ w' = w) ∧ m2 ≤ 2147483647 :=
    ⟨_, _, fun w => addn_small _ w (by omega) (by omega), fun w => add_small _ w (by omega) (by omega), by omega⟩
  have HSZ : Hid ((s.size : Int) ≤ 1073741323) := hs
  clear hs
  have HW : Hid (∀ w, Calls Tryd.prog 10 #[.int .i64 a] w fun e w' => ∃ x k, x < 18446744073709551616 ∧ e = .returned (.float .f64 x) ∧ w' = w.drewN k) := fun w => by
    obtain ⟨na, ha, hna⟩ := wrapU64 a
    exact (wide_any a na w ha hna).mono fun e w' ⟨x, k, h1, _, _, h4, h5⟩ => ⟨x, k, h1, h4, h5⟩
  have HS : Hid (∀ w, Calls Tryd.prog 11 #[.int .i64 c] w fun e w' => ∃ x k, x < 4294967296 ∧ e = .returned (.float .f32 x) ∧ w' = w.drewN k) := fun w => by
    obtain ⟨nc, hc, hnc⟩ := wrapU32 c
    exact (slim_any c nc w hc hnc).mono fun e w' ⟨x, k, h1, _, _, h4, h5⟩ => ⟨x, k, h1, h4, h5⟩
  have HR : Hid (Rd w) := hR
  have HA : Hid (-9223372036854775808 ≤ at0 ∧ at0 ≤ 9223372036854775807) := ⟨ha0, ha1⟩
  clear hR ha0 ha1
  go_enter Tryd.func6, Tryd.ntmps6
  go_wp2_with fail
  refine (H1.out _).mono ?_
  rintro e w' ⟨rfl, rfl⟩
  go_wp2_with fail
  refine (H2.out _).mono ?_
  rintro e w' ⟨rfl, rfl⟩
  go_wp2_with fail
  refine (awake_any _ HR.out).mono ?_
  rintro e w1 ⟨rfl, hB⟩
  have HB : Hid (Below w'.heap.size w' w1) := hB
  have HR1 : Hid (Rd w1) := HR.out.below hB
  clear hB
  go_wp2_with fail
  refine (HW.out _).mono ?_
  rintro e w2 ⟨x, k1, hx, rfl, rfl⟩
  obtain ⟨T, hT0, hT1, hT2, HT3, HT4⟩ := text_both x hx
  clear hx
  go_wp2_with fail
  refine (HS.out _).mono ?_
  rintro e w2 ⟨u, k2, hu, rfl, rfl⟩
  obtain ⟨V, hV0, hV1, hV2, HV3, HV4⟩ := text_both32 u hu
  clear hu
  go_wp2_with fail
  refine (HT3.out _).mono ?_
  rintro e w2 ⟨rfl, k3, rfl⟩
  go_wp2_with fail
  refine (HV3.out _).mono ?_
  rintro e w2 ⟨rfl, k4, rfl⟩
  go_wp2_with fail
  refine (HT4.out _ (rd_drewN HR1.out _)).mono ?_
  rintro e w3 ⟨rfl, hB3⟩
  have HB3 : Hid (Below w'.heap.size w' w3) := (below_drewN HB.out _).trans (hB3.mono (by have := HB.out.size; simpa using this))
  have HR3 : Hid (Rd w3) := (rd_drewN HR1.out _).below hB3
  clear hB3
  go_wp2_with fail
  refine (HV4.out _ HR3.out).mono ?_
  rintro e w4 ⟨rfl, hB4⟩
  have HB4 : Hid (Below w'.heap.size w' w4) := HB3.out.trans (hB4.mono HB3.out.size)
  have HR4 : Hid (Rd w4) := HR3.out.below hB4
  clear hB4
  go_wp2_with fail
  refine (bent_core T at0 by0 _ hT0 (by omega) HA.out.1 HA.out.2 hT2).mono ?_
  rintro e w5 ⟨t1, Ht1, rfl, hB5⟩
  have HB5 : Hid (Below w'.heap.size w' w5) := HB4.out.trans (hB5.mono HB4.out.size)
  have HR5 : Hid (Rd w5) := HR4.out.below hB5
  clear hB5
  go_wp2_with fail
  refine (bent_core V at0 by0 _ hV0 (by omega) HA.out.1 HA.out.2 hV2).mono ?_
  rintro e w6 ⟨t2, Ht2, rfl, hB6⟩
  have HB6 : Hid (Below w'.heap.size w' w6) := HB5.out.trans (hB6.mono HB5.out.size)
  have HR6 : Hid (Rd w6) := HR5.out.below hB6
  clear hB6
  go_wp2_with fail
  refine (pick_any at0 _ _ HA.out.1 HA.out.2 (by omega) (by omega)).mono ?_
  rintro e w7 ⟨z, hz0, hz1, rfl, rfl⟩
  have hz2 : z ≤ (T.size : Int) := by omega
  have hln1 : (9223372036854775807 < T.size + s.size) = False := by apply eq_false; have := HSZ.out; omega
  have hln2 : (9223372036854775807 < s.size + T.size) = False := by apply eq_false; have := HSZ.out; omega
  have hln3 : (9223372036854775807 < V.size + 1) = False := by apply eq_false; omega
  have hln4 : (9223372036854775807 < 1 + V.size) = False := by apply eq_false; omega
  have HZ : Hid (T.size ≤ 25 ∧ V.size ≤ 25 ∧ z.toNat ≤ 25) := by constructor <;> omega
  clear hT0 hT1 hV0 hV1 hz1
  go_wp2_with fail
  go_loopw [17] (fun i wr => ∃ k : Nat, i = .int .i64 k ∧ k ≤ 10 ∧ Hid (∀ j : Nat, j < 10 → ∃ t : ByteArray, t.size ≤ 2147483647 ∧ wr.cell? ⟨w7.heap.size, j, none⟩ = some (.string t)) ∧ Hid (Below w'.heap.size w' wr) ∧ Hid (Rd wr)) (fun i _ => 20 - (intOf i).toNat)
  case atStart =>
    have hsz := HSZ.out
    obtain ⟨hz3, hz4, hz5⟩ := HZ.out
    have h1 := Ht1.out
    have h2 := Ht2.out
    refine ⟨0, rfl, by omega, ?_, HB6.out.alloc HB6.out.size _, HR6.out.below ((Below.refl _ _).alloc (Nat.le_refl _) _)⟩
    intro j hj
    rcases (by omega : j = 0 ∨ j = 1 ∨ j = 2 ∨ j = 3 ∨ j = 4 ∨ j = 5 ∨ j = 6 ∨ j = 7 ∨ j = 8 ∨ j = 9) with rfl | rfl | rfl | rfl | rfl | rfl | rfl | rfl | rfl | rfl
    · exact ⟨s, by omega, by rw [World.cell?_alloc_new]; rfl⟩
    · exact ⟨T, by omega, by rw [World.cell?_alloc_new]; rfl⟩
    · exact ⟨V, by omega, by rw [World.cell?_alloc_new]; rfl⟩
    · exact ⟨t1, by omega, by rw [World.cell?_alloc_new]; rfl⟩
    · exact ⟨t2, by omega, by rw [World.cell?_alloc_new]; rfl⟩
    · exact ⟨T.extract 0 z.toNat, by rw [ByteArray.size_extract]; omega, by rw [World.cell?_alloc_new]; rfl⟩
    · exact ⟨T ++ s, by rw [ByteArray.size_append]; omega, by rw [World.cell?_alloc_new]; rfl⟩
    · exact ⟨s ++ T, by rw [ByteArray.size_append]; omega, by rw [World.cell?_alloc_new]; rfl⟩
    · exact ⟨V ++ ⟨#[48]⟩, by rw [ByteArray.size_append]; show _ + 1 ≤ _; omega, by rw [World.cell?_alloc_new]; rfl⟩
    · exact ⟨⟨#[45]⟩ ++ V, by rw [ByteArray.size_append]; show 1 + _ ≤ _; omega, by rw [World.cell?_alloc_new]; rfl⟩
  case round =>
    obtain ⟨k, rfl, hk, HCE, HBW, HRW⟩ := hrel
    clear hln1 hln2 hln3 hln4
    by_cases hlt : k < 10
    · obtain ⟨t, ht, hcell⟩ := HCE.out k hlt
      have HT : Hid (t.size ≤ 2147483647) := ht
      clear ht
      go_wp2_with fail
      refine (texts_any t _ HT.out HRW.out).mono ?_
      rintro e w8 ⟨rfl, k9, rfl⟩
      go_wp2
      go_roundw
      case rel => exact ⟨k + 1, by go_num, by omega, fun j hj => by simpa [go_sem] using HCE.out j hj, below_drewN HBW.out _, rd_drewN HRW.out _⟩
      case measure => simp [intOf]; omega
    · obtain rfl : k = 10 := by omega
      go_wp2
      go_ret
      exact ⟨rfl, HBW.out⟩

/-- Whatever the text's length. -/
theorem realTexts_any (a c at0 by0 : Int) (s : ByteArray) (w : World) (hs : (s.size : Int) ≤ 9223372036854775807) (hR : Rd w) (ha0 : -9223372036854775808 ≤ at0) (ha1 : at0 ≤ 9223372036854775807) :
    Calls Tryd.prog 6 #[.int .i64 a, .int .i64 c, .string s, .int .i64 at0, .int .i64 by0] w fun e w' => e = .returned (.bool true) ∧ Below w.heap.size w w' := by
  by_cases h1 : (s.size : Int) ≤ 1073741323
  · exact realTexts_walk a c at0 by0 s w hR h1 ha0 ha1
  · by_cases h2 : 2147483647 - (s.size : Int) < (s.size : Int)
    · exact realTexts_long a c at0 by0 2147483648 s w (fun w => addn_big _ w (by omega) hs h2) (fun w => add_big _ w (by omega) (by omega))
    · exact realTexts_long a c at0 by0 _ s w (fun w => addn_small _ w (by omega) (by omega)) (fun w => add_big _ w (by omega) (by omega))
end Go.Proofs.YtbbikogpfpghbaaDoor
