/- The document's own numbers: value, digits, number; signs, comments. -/
import Derived.Test.YthnnmgiihpdblabLn
namespace Go.Proofs.Ythnnmgiihpdblab
open Go.RowKit

def valR (c : UInt8) (base : Nat) : Int := if base ≤ digV c then -1 else (digV c : Int)

set_option maxHeartbeats 4000000 in
theorem value_any (c : UInt8) (base : Nat) (hb : 2 ≤ base ∧ base ≤ 16) (w : World) : Calls Try.prog 44 #[.int .u8 (c.toNat : Int), .int .i64 base] w fun e w' => e = .returned (.int .i64 (valR c base)) ∧ w' = w := by
  have hc : (c.toNat : Int) < 256 := by have := c.toNat_lt; omega
  obtain ⟨V, hV⟩ : ∃ V, digV c = V := ⟨_, rfl⟩
  have HR : Hid (valR c base = if base ≤ V then -1 else (V : Int)) := by show _ = _; unfold valR; rw [hV]
  rw [HR.out]
  clear HR
  have hd : digB c = (decide (48 ≤ (c.toNat : Int)) && decide ((c.toNat : Int) ≤ 57)) := rfl
  unfold digV at hV
  generalize hn : (c.toNat : Int) = n at *
  have hcases : (48 ≤ n ∧ n ≤ 57 ∧ (V : Int) = n - 48) ∨ (decide (48 ≤ n) = true ∧ decide (n ≤ 57) = false ∧ 97 ≤ n ∧ n ≤ 102 ∧ (V : Int) = n - 97 + 10) ∨ (decide (48 ≤ n) = true ∧ decide (n ≤ 57) = false ∧ decide (97 ≤ n) = false ∧ 65 ≤ n ∧ n ≤ 70 ∧ (V : Int) = n - 65 + 10) ∨
      (V = 16 ∧ (decide (48 ≤ n) = false ∨ (decide (48 ≤ n) = true ∧ decide (n ≤ 57) = false)) ∧ (decide (97 ≤ n) = false ∨ (decide (97 ≤ n) = true ∧ decide (n ≤ 102) = false)) ∧ (decide (65 ≤ n) = false ∨ (decide (65 ≤ n) = true ∧ decide (n ≤ 70) = false))) := by
    cases hbb : digB c
    · rw [hbb] at hd hV
      rw [if_neg (by decide)] at hV
      have hnd : ¬ (48 ≤ n ∧ n ≤ 57) := by
        intro h
        rw [decide_eq_true h.1, decide_eq_true h.2] at hd
        cases hd
      by_cases h1 : 97 ≤ n ∧ n ≤ 102
      · right; left
        refine ⟨decide_eq_true (by omega), decide_eq_false (by omega), h1.1, h1.2, ?_⟩
        rw [← hV, if_pos (by omega)]; omega
      · by_cases h2 : 65 ≤ n ∧ n ≤ 70
        · right; right; left
          refine ⟨decide_eq_true (by omega), decide_eq_false (by omega), decide_eq_false (by omega), h2.1, h2.2, ?_⟩
          rw [← hV, if_neg (by omega), if_pos (by omega)]; omega
        · right; right; right
          refine ⟨by rw [← hV, if_neg (by omega), if_neg (by omega)], ?_, ?_, ?_⟩
          · by_cases h : 48 ≤ n
            · exact .inr ⟨decide_eq_true h, decide_eq_false (by omega)⟩
            · exact .inl (decide_eq_false h)
          · by_cases h : 97 ≤ n
            · exact .inr ⟨decide_eq_true h, decide_eq_false (by omega)⟩
            · exact .inl (decide_eq_false h)
          · by_cases h : 65 ≤ n
            · exact .inr ⟨decide_eq_true h, decide_eq_false (by omega)⟩
            · exact .inl (decide_eq_false h)
    · rw [hbb] at hd hV
      rw [if_pos rfl] at hV
      have h2 : 48 ≤ n ∧ n ≤ 57 := by have := hd.symm; simpa using this
      left
      exact ⟨h2.1, h2.2, by rw [← hV]; omega⟩
  clear hd hV
  have hb1 : (2 : Int) ≤ base := by omega
  have hb2 : (base : Int) ≤ 16 := by omega
  rcases hcases with ⟨h1, h2, h3⟩ | ⟨h0, h00, h1, h2, h3⟩ | ⟨h0, h00, h000, h1, h2, h3⟩ | ⟨h3, h4, h5, h6⟩
  · have HV : Hid ((V : Int) = n - 48) := h3
    by_cases hv : base ≤ V
    · rw [if_pos hv]
      have hv' : (base : Int) ≤ n - 48 := by omega
      clear h3 hv hn
      go_enter Try.func44, Try.ntmps44
      go_wp2
      go_ret
      exact ⟨rfl, rfl⟩
    · rw [if_neg hv]
      have hv' : n - 48 < (base : Int) := by omega
      clear h3 hv hn
      go_enter Try.func44, Try.ntmps44
      go_wp2
      go_ret
      exact ⟨ret_int HV.out.symm, rfl⟩
  · have HV : Hid ((V : Int) = n - 97 + 10) := h3
    by_cases hv : base ≤ V
    · rw [if_pos hv]
      have hv' : (base : Int) ≤ n - 97 + 10 := by omega
      clear h3 hv hn
      go_enter Try.func44, Try.ntmps44
      go_wp2
      go_ret
      exact ⟨rfl, rfl⟩
    · rw [if_neg hv]
      have hv' : n - 97 + 10 < (base : Int) := by omega
      clear h3 hv hn
      go_enter Try.func44, Try.ntmps44
      go_wp2
      go_ret
      exact ⟨ret_int HV.out.symm, rfl⟩
  · have HV : Hid ((V : Int) = n - 65 + 10) := h3
    by_cases hv : base ≤ V
    · rw [if_pos hv]
      have hv' : (base : Int) ≤ n - 65 + 10 := by omega
      clear h3 hv hn
      go_enter Try.func44, Try.ntmps44
      go_wp2
      go_ret
      exact ⟨rfl, rfl⟩
    · rw [if_neg hv]
      have hv' : n - 65 + 10 < (base : Int) := by omega
      clear h3 hv hn
      go_enter Try.func44, Try.ntmps44
      go_wp2
      go_ret
      exact ⟨ret_int HV.out.symm, rfl⟩
  · rw [if_pos (by omega)]
    clear h3 hn
    rcases h4 with h4 | ⟨h4, h44⟩ <;> rcases h5 with h5 | ⟨h5, h55⟩ <;> rcases h6 with h6 | ⟨h6, h66⟩
    all_goals (
      go_enter Try.func44, Try.ntmps44
      go_wp2
      go_ret
      exact ⟨rfl, rfl⟩)

set_option maxHeartbeats 2000000 in
theorem rdigits_8 (ds : List UInt8) (hl : (ds.length : Int) ≤ 9223372036854775807) (w : World) :
    Calls Try.prog 39 #[S ds, .int .i64 8] w fun e w' => e = .returned (reckAns (reckV ds 8 4294967295)) ∧ w' = w := by
  obtain ⟨R, hR⟩ : ∃ R, reckV ds 8 4294967295 = R := ⟨_, rfl⟩
  have HR0 : Hid (ds.length = 0 → R = none) := fun h => by rw [← hR]; unfold reckV; rw [if_pos (List.length_eq_zero_iff.1 h)]
  have HR1 : Hid (0 < ds.length → R = reckP 8 4294967295 0 ds) := fun h => by rw [← hR]; unfold reckV; rw [if_neg (fun h2 => by rw [h2] at h; simp at h)]
  rw [hR]
  clear hR
  go_enter Try.func39, Try.ntmps39
  go_wp2_with fail
  go_loop [6, 7] (fun n i => ∃ k N : Nat, i = .int .i64 k ∧ n = .int .i64 N ∧ k ≤ ds.length ∧ (N : Int) ≤ 4294967295 ∧ Hid (ds.length = 0 → N = 0) ∧ Hid (0 < ds.length → R = reckP 8 4294967295 N (ds.drop k))) (fun _ i => ds.length - (intOf i).toNat)
  case atStart => exact ⟨0, 0, rfl, rfl, by omega, by omega, fun _ => rfl, HR1.out⟩
  case round =>
    obtain ⟨k, N, rfl, rfl, hk, hN, HN, HK⟩ := hrel
    by_cases hlt : k < ds.length
    · have hk' : (k : Int) < ds.length := by omega
      have hcs : ({ data := ds.toArray } : ByteArray)[k] = ds[k] := rfl
      have hv := digV_lt ds[k]
      have HD : Hid (∀ w, Calls Try.prog 44 #[.int .u8 (ds[k].toNat : Int), .int .i64 8] w fun e w' => e = .returned (.int .i64 (valR ds[k] 8)) ∧ w' = w) := fun w => value_any _ 8 (by omega) w
      have hs0 := HK.out (by omega)
      rw [List.drop_eq_getElem_cons hlt, reckP] at hs0
      have hval : valR ds[k] 8 = if 8 ≤ digV ds[k] then -1 else (digV ds[k] : Int) := rfl
      rw [hval] at HD
      clear hval
      generalize digV ds[k] = V at *
      have Hs : Hid (R = if 8 ≤ V then none else if 4294967295 < N * 8 + V then none else reckP 8 4294967295 (N * 8 + V) (ds.drop (k + 1))) := hs0
      clear hs0
      by_cases hV : V < 8
      rotate_left
      · have HA : Hid (R = none) := by show _ = _; rw [Hs.out, if_pos (by omega)]
        rw [if_pos (by omega)] at HD
        clear HK Hs HN
        go_wp2_with fail
        refine (HD.out _).mono ?_
        rintro e w1 ⟨rfl, rfl⟩
        go_wp2
        go_ret2
        exact ⟨by rw [HA.out]; rfl, rfl⟩
      · have hV2 : (V : Int) < 8 := by omega
        rw [if_neg (by omega)] at HD
        by_cases hB : 4294967295 < N * 8 + V
        · have HA : Hid (R = none) := by show _ = _; rw [Hs.out, if_neg (by omega), if_pos hB]
          have hB2 : (4294967295 : Int) < N * 8 + V := by omega
          clear HK Hs HN hB
          go_wp2_with fail
          refine (HD.out _).mono ?_
          rintro e w1 ⟨rfl, rfl⟩
          go_wp2
          go_ret2
          exact ⟨by rw [HA.out]; rfl, rfl⟩
        · have HA : Hid (R = reckP 8 4294967295 (N * 8 + V) (ds.drop (k + 1))) := by show _ = _; rw [Hs.out, if_neg (by omega), if_neg hB]
          have hB2 : (N : Int) * 8 + V ≤ 4294967295 := by omega
          clear HK Hs hB
          go_wp2_with fail
          refine (HD.out _).mono ?_
          rintro e w1 ⟨rfl, rfl⟩
          go_wp2
          go_round
          case rel => exact ⟨k + 1, N * 8 + V, by go_num, by go_num, by omega, by omega, fun h => by omega, fun _ => HA.out⟩
          case measure => simp [intOf]; omega
    · obtain rfl : k = ds.length := by omega
      by_cases h0 : ds.length = 0
      · have HA : Hid (R = none) := HR0.out h0
        have HZ : Hid (N = 0) := HN.out h0
        have h0' : ds.isEmpty = true := by simpa using List.length_eq_zero_iff.1 h0
        clear HK
        go_wp2
        go_ret2
        exact ⟨by rw [HA.out]; show Ending.returned (.tuple #[.int .i64 (N : Int), .bool false]) = _; rw [HZ.out]; rfl, rfl⟩
      · have HA : Hid (R = some N) := by
          have := HK.out (by omega)
          rw [List.drop_length, reckP] at this
          exact this
        have h0' : ds.isEmpty = false := by simpa using (fun h : ds = [] => h0 (by rw [h]; rfl))
        clear HK
        go_wp2
        go_ret2
        exact ⟨by rw [HA.out]; rfl, rfl⟩

set_option maxHeartbeats 2000000 in
theorem rdigits_10 (ds : List UInt8) (hl : (ds.length : Int) ≤ 9223372036854775807) (w : World) :
    Calls Try.prog 39 #[S ds, .int .i64 10] w fun e w' => e = .returned (reckAns (reckV ds 10 4294967295)) ∧ w' = w := by
  obtain ⟨R, hR⟩ : ∃ R, reckV ds 10 4294967295 = R := ⟨_, rfl⟩
  have HR0 : Hid (ds.length = 0 → R = none) := fun h => by rw [← hR]; unfold reckV; rw [if_pos (List.length_eq_zero_iff.1 h)]
  have HR1 : Hid (0 < ds.length → R = reckP 10 4294967295 0 ds) := fun h => by rw [← hR]; unfold reckV; rw [if_neg (fun h2 => by rw [h2] at h; simp at h)]
  rw [hR]
  clear hR
  go_enter Try.func39, Try.ntmps39
  go_wp2_with fail
  go_loop [6, 7] (fun n i => ∃ k N : Nat, i = .int .i64 k ∧ n = .int .i64 N ∧ k ≤ ds.length ∧ (N : Int) ≤ 4294967295 ∧ Hid (ds.length = 0 → N = 0) ∧ Hid (0 < ds.length → R = reckP 10 4294967295 N (ds.drop k))) (fun _ i => ds.length - (intOf i).toNat)
  case atStart => exact ⟨0, 0, rfl, rfl, by omega, by omega, fun _ => rfl, HR1.out⟩
  case round =>
    obtain ⟨k, N, rfl, rfl, hk, hN, HN, HK⟩ := hrel
    by_cases hlt : k < ds.length
    · have hk' : (k : Int) < ds.length := by omega
      have hcs : ({ data := ds.toArray } : ByteArray)[k] = ds[k] := rfl
      have hv := digV_lt ds[k]
      have HD : Hid (∀ w, Calls Try.prog 44 #[.int .u8 (ds[k].toNat : Int), .int .i64 10] w fun e w' => e = .returned (.int .i64 (valR ds[k] 10)) ∧ w' = w) := fun w => value_any _ 10 (by omega) w
      have hs0 := HK.out (by omega)
      rw [List.drop_eq_getElem_cons hlt, reckP] at hs0
      have hval : valR ds[k] 10 = if 10 ≤ digV ds[k] then -1 else (digV ds[k] : Int) := rfl
      rw [hval] at HD
      clear hval
      generalize digV ds[k] = V at *
      have Hs : Hid (R = if 10 ≤ V then none else if 4294967295 < N * 10 + V then none else reckP 10 4294967295 (N * 10 + V) (ds.drop (k + 1))) := hs0
      clear hs0
      by_cases hV : V < 10
      rotate_left
      · have HA : Hid (R = none) := by show _ = _; rw [Hs.out, if_pos (by omega)]
        rw [if_pos (by omega)] at HD
        clear HK Hs HN
        go_wp2_with fail
        refine (HD.out _).mono ?_
        rintro e w1 ⟨rfl, rfl⟩
        go_wp2
        go_ret2
        exact ⟨by rw [HA.out]; rfl, rfl⟩
      · have hV2 : (V : Int) < 10 := by omega
        rw [if_neg (by omega)] at HD
        by_cases hB : 4294967295 < N * 10 + V
        · have HA : Hid (R = none) := by show _ = _; rw [Hs.out, if_neg (by omega), if_pos hB]
          have hB2 : (4294967295 : Int) < N * 10 + V := by omega
          clear HK Hs HN hB
          go_wp2_with fail
          refine (HD.out _).mono ?_
          rintro e w1 ⟨rfl, rfl⟩
          go_wp2
          go_ret2
          exact ⟨by rw [HA.out]; rfl, rfl⟩
        · have HA : Hid (R = reckP 10 4294967295 (N * 10 + V) (ds.drop (k + 1))) := by show _ = _; rw [Hs.out, if_neg (by omega), if_neg hB]
          have hB2 : (N : Int) * 10 + V ≤ 4294967295 := by omega
          clear HK Hs hB
          go_wp2_with fail
          refine (HD.out _).mono ?_
          rintro e w1 ⟨rfl, rfl⟩
          go_wp2
          go_round
          case rel => exact ⟨k + 1, N * 10 + V, by go_num, by go_num, by omega, by omega, fun h => by omega, fun _ => HA.out⟩
          case measure => simp [intOf]; omega
    · obtain rfl : k = ds.length := by omega
      by_cases h0 : ds.length = 0
      · have HA : Hid (R = none) := HR0.out h0
        have HZ : Hid (N = 0) := HN.out h0
        have h0' : ds.isEmpty = true := by simpa using List.length_eq_zero_iff.1 h0
        clear HK
        go_wp2
        go_ret2
        exact ⟨by rw [HA.out]; show Ending.returned (.tuple #[.int .i64 (N : Int), .bool false]) = _; rw [HZ.out]; rfl, rfl⟩
      · have HA : Hid (R = some N) := by
          have := HK.out (by omega)
          rw [List.drop_length, reckP] at this
          exact this
        have h0' : ds.isEmpty = false := by simpa using (fun h : ds = [] => h0 (by rw [h]; rfl))
        clear HK
        go_wp2
        go_ret2
        exact ⟨by rw [HA.out]; rfl, rfl⟩

set_option maxHeartbeats 2000000 in
theorem rdigits_16 (ds : List UInt8) (hl : (ds.length : Int) ≤ 9223372036854775807) (w : World) :
    Calls Try.prog 39 #[S ds, .int .i64 16] w fun e w' => e = .returned (reckAns (reckV ds 16 4294967295)) ∧ w' = w := by
  obtain ⟨R, hR⟩ : ∃ R, reckV ds 16 4294967295 = R := ⟨_, rfl⟩
  have HR0 : Hid (ds.length = 0 → R = none) := fun h => by rw [← hR]; unfold reckV; rw [if_pos (List.length_eq_zero_iff.1 h)]
  have HR1 : Hid (0 < ds.length → R = reckP 16 4294967295 0 ds) := fun h => by rw [← hR]; unfold reckV; rw [if_neg (fun h2 => by rw [h2] at h; simp at h)]
  rw [hR]
  clear hR
  go_enter Try.func39, Try.ntmps39
  go_wp2_with fail
  go_loop [6, 7] (fun n i => ∃ k N : Nat, i = .int .i64 k ∧ n = .int .i64 N ∧ k ≤ ds.length ∧ (N : Int) ≤ 4294967295 ∧ Hid (ds.length = 0 → N = 0) ∧ Hid (0 < ds.length → R = reckP 16 4294967295 N (ds.drop k))) (fun _ i => ds.length - (intOf i).toNat)
  case atStart => exact ⟨0, 0, rfl, rfl, by omega, by omega, fun _ => rfl, HR1.out⟩
  case round =>
    obtain ⟨k, N, rfl, rfl, hk, hN, HN, HK⟩ := hrel
    by_cases hlt : k < ds.length
    · have hk' : (k : Int) < ds.length := by omega
      have hcs : ({ data := ds.toArray } : ByteArray)[k] = ds[k] := rfl
      have hv := digV_lt ds[k]
      have HD : Hid (∀ w, Calls Try.prog 44 #[.int .u8 (ds[k].toNat : Int), .int .i64 16] w fun e w' => e = .returned (.int .i64 (valR ds[k] 16)) ∧ w' = w) := fun w => value_any _ 16 (by omega) w
      have hs0 := HK.out (by omega)
      rw [List.drop_eq_getElem_cons hlt, reckP] at hs0
      have hval : valR ds[k] 16 = if 16 ≤ digV ds[k] then -1 else (digV ds[k] : Int) := rfl
      rw [hval] at HD
      clear hval
      generalize digV ds[k] = V at *
      have Hs : Hid (R = if 16 ≤ V then none else if 4294967295 < N * 16 + V then none else reckP 16 4294967295 (N * 16 + V) (ds.drop (k + 1))) := hs0
      clear hs0
      by_cases hV : V < 16
      rotate_left
      · have HA : Hid (R = none) := by show _ = _; rw [Hs.out, if_pos (by omega)]
        rw [if_pos (by omega)] at HD
        clear HK Hs HN
        go_wp2_with fail
        refine (HD.out _).mono ?_
        rintro e w1 ⟨rfl, rfl⟩
        go_wp2
        go_ret2
        exact ⟨by rw [HA.out]; rfl, rfl⟩
      · have hV2 : (V : Int) < 16 := by omega
        rw [if_neg (by omega)] at HD
        by_cases hB : 4294967295 < N * 16 + V
        · have HA : Hid (R = none) := by show _ = _; rw [Hs.out, if_neg (by omega), if_pos hB]
          have hB2 : (4294967295 : Int) < N * 16 + V := by omega
          clear HK Hs HN hB
          go_wp2_with fail
          refine (HD.out _).mono ?_
          rintro e w1 ⟨rfl, rfl⟩
          go_wp2
          go_ret2
          exact ⟨by rw [HA.out]; rfl, rfl⟩
        · have HA : Hid (R = reckP 16 4294967295 (N * 16 + V) (ds.drop (k + 1))) := by show _ = _; rw [Hs.out, if_neg (by omega), if_neg hB]
          have hB2 : (N : Int) * 16 + V ≤ 4294967295 := by omega
          clear HK Hs hB
          go_wp2_with fail
          refine (HD.out _).mono ?_
          rintro e w1 ⟨rfl, rfl⟩
          go_wp2
          go_round
          case rel => exact ⟨k + 1, N * 16 + V, by go_num, by go_num, by omega, by omega, fun h => by omega, fun _ => HA.out⟩
          case measure => simp [intOf]; omega
    · obtain rfl : k = ds.length := by omega
      by_cases h0 : ds.length = 0
      · have HA : Hid (R = none) := HR0.out h0
        have HZ : Hid (N = 0) := HN.out h0
        have h0' : ds.isEmpty = true := by simpa using List.length_eq_zero_iff.1 h0
        clear HK
        go_wp2
        go_ret2
        exact ⟨by rw [HA.out]; show Ending.returned (.tuple #[.int .i64 (N : Int), .bool false]) = _; rw [HZ.out]; rfl, rfl⟩
      · have HA : Hid (R = some N) := by
          have := HK.out (by omega)
          rw [List.drop_length, reckP] at this
          exact this
        have h0' : ds.isEmpty = false := by simpa using (fun h : ds = [] => h0 (by rw [h]; rfl))
        clear HK
        go_wp2
        go_ret2
        exact ⟨by rw [HA.out]; rfl, rfl⟩

end Go.Proofs.Ythnnmgiihpdblab
