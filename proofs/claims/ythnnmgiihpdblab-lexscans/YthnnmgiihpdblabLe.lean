/- The program's numbers: reckon, number. -/
import Derived.Test.YthnnmgiihpdblabLd
namespace Go.Proofs.Ythnnmgiihpdblab
open Go.RowKit

def reckAns : Option Nat → Value
  | some n => .tuple #[.int .i64 (n : Int), .bool true]
  | none => .tuple #[.int .i64 0, .bool false]

theorem reckP_le (base most : Nat) : ∀ (l : List UInt8) (n m : Nat), n ≤ most → reckP base most n l = some m → m ≤ most
  | [], n, m, hn, h => by simp only [reckP, Option.some.injEq] at h; omega
  | c :: r, n, m, hn, h => by
    simp only [reckP] at h
    split at h
    · cases h
    split at h
    · cases h
    exact reckP_le base most r _ m (by omega) h

theorem digV_lt (c : UInt8) : digV c ≤ 16 := by
  have := all_bytes (fun c => decide (digV c ≤ 16)) (by decide +kernel) c
  exact of_decide_eq_true this

set_option maxHeartbeats 2000000 in
theorem reckon_8 (ds : List UInt8) (M : Nat) (hm : (M : Int) ≤ 4294967295) (hl : (ds.length : Int) ≤ 9223372036854775807) (w : World) :
    Calls Try.prog 46 #[S ds, .int .i64 8, .int .i64 M] w fun e w' => e = .returned (reckAns (reckV ds 8 M)) ∧ w' = w := by
  obtain ⟨R, hR⟩ : ∃ R, reckV ds 8 M = R := ⟨_, rfl⟩
  have HR0 : Hid (ds.length = 0 → R = none) := fun h => by rw [← hR]; unfold reckV; rw [if_pos (List.length_eq_zero_iff.1 h)]
  have HR1 : Hid (0 < ds.length → R = reckP 8 M 0 ds) := fun h => by rw [← hR]; unfold reckV; rw [if_neg (fun h2 => by rw [h2] at h; simp at h)]
  rw [hR]
  clear hR
  go_enter Try.func46, Try.ntmps46
  go_wp2_with fail
  go_loop [8, 13] (fun n i => ∃ k N : Nat, i = .int .i64 k ∧ n = .int .i64 N ∧ k ≤ ds.length ∧ (N : Int) ≤ M ∧ Hid (ds.length = 0 → N = 0) ∧ Hid (0 < ds.length → R = reckP 8 M N (ds.drop k))) (fun _ i => ds.length - (intOf i).toNat)
  case atStart => exact ⟨0, 0, rfl, rfl, by omega, by omega, fun _ => rfl, HR1.out⟩
  case round =>
    obtain ⟨k, N, rfl, rfl, hk, hN, HN, HK⟩ := hrel
    by_cases hlt : k < ds.length
    · have hk' : (k : Int) < ds.length := by omega
      have hcs : ({ data := ds.toArray } : ByteArray)[k] = ds[k] := rfl
      have hv := digV_lt ds[k]
      have HD : Hid (∀ w, Calls Try.prog 47 #[.int .u8 (ds[k].toNat : Int)] w fun e w' => e = .returned (.int .i64 (digV ds[k] : Nat)) ∧ w' = w) := fun w => digit_any _ w
      have hs0 := HK.out (by omega)
      rw [List.drop_eq_getElem_cons hlt, reckP] at hs0
      generalize digV ds[k] = V at *
      have Hs : Hid (R = if 8 ≤ V then none else if M < N * 8 + V then none else reckP 8 M (N * 8 + V) (ds.drop (k + 1))) := hs0
      clear hs0
      by_cases hV : V < 8
      rotate_left
      · have HA : Hid (R = none) := by show _ = _; rw [Hs.out, if_pos (by omega)]
        have hV2 : (8 : Int) ≤ V := by omega
        clear HK Hs HN
        go_wp2_with fail
        refine (HD.out _).mono ?_
        rintro e w1 ⟨rfl, rfl⟩
        go_wp2
        go_ret2
        exact ⟨by rw [HA.out]; rfl, rfl⟩
      · have hV2 : (V : Int) < 8 := by omega
        by_cases hB : M < N * 8 + V
        · have HA : Hid (R = none) := by show _ = _; rw [Hs.out, if_neg (by omega), if_pos hB]
          have hB2 : (M : Int) < N * 8 + V := by omega
          clear HK Hs HN hB
          go_wp2_with fail
          refine (HD.out _).mono ?_
          rintro e w1 ⟨rfl, rfl⟩
          go_wp2
          go_ret2
          exact ⟨by rw [HA.out]; rfl, rfl⟩
        · have HA : Hid (R = reckP 8 M (N * 8 + V) (ds.drop (k + 1))) := by show _ = _; rw [Hs.out, if_neg (by omega), if_neg hB]
          have hB2 : (N : Int) * 8 + V ≤ M := by omega
          clear HK Hs hB
          go_wp2_with fail
          refine (HD.out _).mono ?_
          rintro e w1 ⟨rfl, rfl⟩
          go_wp2
          go_round
          case rel => exact ⟨k + 1, N * 8 + V, by go_num, by go_num, by omega, by omega, fun h => by omega, fun _ => HA.out⟩
          case measure => simp [intOf]; omega
    · obtain rfl : k = ds.length := by omega
      by_cases h0 : ds.length = 0
      · have HA : Hid (R = none) := HR0.out h0
        have HZ : Hid (N = 0) := HN.out h0
        have h0' : decide (0 < ds.length) = false := decide_eq_false (by omega)
        clear HK
        go_wp2
        go_ret2
        exact ⟨by rw [HA.out]; show Ending.returned (.tuple #[.int .i64 (N : Int), .bool false]) = _; rw [HZ.out]; rfl, rfl⟩
      · have HA : Hid (R = some N) := by
          have := HK.out (by omega)
          rw [List.drop_length, reckP] at this
          exact this
        have h0' : decide (0 < ds.length) = true := decide_eq_true (by omega)
        clear HK
        go_wp2
        go_ret2
        exact ⟨by rw [HA.out]; rfl, rfl⟩

set_option maxHeartbeats 2000000 in
theorem reckon_10 (ds : List UInt8) (M : Nat) (hm : (M : Int) ≤ 4294967295) (hl : (ds.length : Int) ≤ 9223372036854775807) (w : World) :
    Calls Try.prog 46 #[S ds, .int .i64 10, .int .i64 M] w fun e w' => e = .returned (reckAns (reckV ds 10 M)) ∧ w' = w := by
  obtain ⟨R, hR⟩ : ∃ R, reckV ds 10 M = R := ⟨_, rfl⟩
  have HR0 : Hid (ds.length = 0 → R = none) := fun h => by rw [← hR]; unfold reckV; rw [if_pos (List.length_eq_zero_iff.1 h)]
  have HR1 : Hid (0 < ds.length → R = reckP 10 M 0 ds) := fun h => by rw [← hR]; unfold reckV; rw [if_neg (fun h2 => by rw [h2] at h; simp at h)]
  rw [hR]
  clear hR
  go_enter Try.func46, Try.ntmps46
  go_wp2_with fail
  go_loop [8, 13] (fun n i => ∃ k N : Nat, i = .int .i64 k ∧ n = .int .i64 N ∧ k ≤ ds.length ∧ (N : Int) ≤ M ∧ Hid (ds.length = 0 → N = 0) ∧ Hid (0 < ds.length → R = reckP 10 M N (ds.drop k))) (fun _ i => ds.length - (intOf i).toNat)
  case atStart => exact ⟨0, 0, rfl, rfl, by omega, by omega, fun _ => rfl, HR1.out⟩
  case round =>
    obtain ⟨k, N, rfl, rfl, hk, hN, HN, HK⟩ := hrel
    by_cases hlt : k < ds.length
    · have hk' : (k : Int) < ds.length := by omega
      have hcs : ({ data := ds.toArray } : ByteArray)[k] = ds[k] := rfl
      have hv := digV_lt ds[k]
      have HD : Hid (∀ w, Calls Try.prog 47 #[.int .u8 (ds[k].toNat : Int)] w fun e w' => e = .returned (.int .i64 (digV ds[k] : Nat)) ∧ w' = w) := fun w => digit_any _ w
      have hs0 := HK.out (by omega)
      rw [List.drop_eq_getElem_cons hlt, reckP] at hs0
      generalize digV ds[k] = V at *
      have Hs : Hid (R = if 10 ≤ V then none else if M < N * 10 + V then none else reckP 10 M (N * 10 + V) (ds.drop (k + 1))) := hs0
      clear hs0
      by_cases hV : V < 10
      rotate_left
      · have HA : Hid (R = none) := by show _ = _; rw [Hs.out, if_pos (by omega)]
        have hV2 : (10 : Int) ≤ V := by omega
        clear HK Hs HN
        go_wp2_with fail
        refine (HD.out _).mono ?_
        rintro e w1 ⟨rfl, rfl⟩
        go_wp2
        go_ret2
        exact ⟨by rw [HA.out]; rfl, rfl⟩
      · have hV2 : (V : Int) < 10 := by omega
        by_cases hB : M < N * 10 + V
        · have HA : Hid (R = none) := by show _ = _; rw [Hs.out, if_neg (by omega), if_pos hB]
          have hB2 : (M : Int) < N * 10 + V := by omega
          clear HK Hs HN hB
          go_wp2_with fail
          refine (HD.out _).mono ?_
          rintro e w1 ⟨rfl, rfl⟩
          go_wp2
          go_ret2
          exact ⟨by rw [HA.out]; rfl, rfl⟩
        · have HA : Hid (R = reckP 10 M (N * 10 + V) (ds.drop (k + 1))) := by show _ = _; rw [Hs.out, if_neg (by omega), if_neg hB]
          have hB2 : (N : Int) * 10 + V ≤ M := by omega
          clear HK Hs hB
          go_wp2_with fail
          refine (HD.out _).mono ?_
          rintro e w1 ⟨rfl, rfl⟩
          go_wp2
          go_round
          case rel => exact ⟨k + 1, N * 10 + V, by go_num, by go_num, by omega, by omega, fun h => by omega, fun _ => HA.out⟩
          case measure => simp [intOf]; omega
    · obtain rfl : k = ds.length := by omega
      by_cases h0 : ds.length = 0
      · have HA : Hid (R = none) := HR0.out h0
        have HZ : Hid (N = 0) := HN.out h0
        have h0' : decide (0 < ds.length) = false := decide_eq_false (by omega)
        clear HK
        go_wp2
        go_ret2
        exact ⟨by rw [HA.out]; show Ending.returned (.tuple #[.int .i64 (N : Int), .bool false]) = _; rw [HZ.out]; rfl, rfl⟩
      · have HA : Hid (R = some N) := by
          have := HK.out (by omega)
          rw [List.drop_length, reckP] at this
          exact this
        have h0' : decide (0 < ds.length) = true := decide_eq_true (by omega)
        clear HK
        go_wp2
        go_ret2
        exact ⟨by rw [HA.out]; rfl, rfl⟩

set_option maxHeartbeats 2000000 in
theorem reckon_16 (ds : List UInt8) (M : Nat) (hm : (M : Int) ≤ 4294967295) (hl : (ds.length : Int) ≤ 9223372036854775807) (w : World) :
    Calls Try.prog 46 #[S ds, .int .i64 16, .int .i64 M] w fun e w' => e = .returned (reckAns (reckV ds 16 M)) ∧ w' = w := by
  obtain ⟨R, hR⟩ : ∃ R, reckV ds 16 M = R := ⟨_, rfl⟩
  have HR0 : Hid (ds.length = 0 → R = none) := fun h => by rw [← hR]; unfold reckV; rw [if_pos (List.length_eq_zero_iff.1 h)]
  have HR1 : Hid (0 < ds.length → R = reckP 16 M 0 ds) := fun h => by rw [← hR]; unfold reckV; rw [if_neg (fun h2 => by rw [h2] at h; simp at h)]
  rw [hR]
  clear hR
  go_enter Try.func46, Try.ntmps46
  go_wp2_with fail
  go_loop [8, 13] (fun n i => ∃ k N : Nat, i = .int .i64 k ∧ n = .int .i64 N ∧ k ≤ ds.length ∧ (N : Int) ≤ M ∧ Hid (ds.length = 0 → N = 0) ∧ Hid (0 < ds.length → R = reckP 16 M N (ds.drop k))) (fun _ i => ds.length - (intOf i).toNat)
  case atStart => exact ⟨0, 0, rfl, rfl, by omega, by omega, fun _ => rfl, HR1.out⟩
  case round =>
    obtain ⟨k, N, rfl, rfl, hk, hN, HN, HK⟩ := hrel
    by_cases hlt : k < ds.length
    · have hk' : (k : Int) < ds.length := by omega
      have hcs : ({ data := ds.toArray } : ByteArray)[k] = ds[k] := rfl
      have hv := digV_lt ds[k]
      have HD : Hid (∀ w, Calls Try.prog 47 #[.int .u8 (ds[k].toNat : Int)] w fun e w' => e = .returned (.int .i64 (digV ds[k] : Nat)) ∧ w' = w) := fun w => digit_any _ w
      have hs0 := HK.out (by omega)
      rw [List.drop_eq_getElem_cons hlt, reckP] at hs0
      generalize digV ds[k] = V at *
      have Hs : Hid (R = if 16 ≤ V then none else if M < N * 16 + V then none else reckP 16 M (N * 16 + V) (ds.drop (k + 1))) := hs0
      clear hs0
      by_cases hV : V < 16
      rotate_left
      · have HA : Hid (R = none) := by show _ = _; rw [Hs.out, if_pos (by omega)]
        have hV2 : (16 : Int) ≤ V := by omega
        clear HK Hs HN
        go_wp2_with fail
        refine (HD.out _).mono ?_
        rintro e w1 ⟨rfl, rfl⟩
        go_wp2
        go_ret2
        exact ⟨by rw [HA.out]; rfl, rfl⟩
      · have hV2 : (V : Int) < 16 := by omega
        by_cases hB : M < N * 16 + V
        · have HA : Hid (R = none) := by show _ = _; rw [Hs.out, if_neg (by omega), if_pos hB]
          have hB2 : (M : Int) < N * 16 + V := by omega
          clear HK Hs HN hB
          go_wp2_with fail
          refine (HD.out _).mono ?_
          rintro e w1 ⟨rfl, rfl⟩
          go_wp2
          go_ret2
          exact ⟨by rw [HA.out]; rfl, rfl⟩
        · have HA : Hid (R = reckP 16 M (N * 16 + V) (ds.drop (k + 1))) := by show _ = _; rw [Hs.out, if_neg (by omega), if_neg hB]
          have hB2 : (N : Int) * 16 + V ≤ M := by omega
          clear HK Hs hB
          go_wp2_with fail
          refine (HD.out _).mono ?_
          rintro e w1 ⟨rfl, rfl⟩
          go_wp2
          go_round
          case rel => exact ⟨k + 1, N * 16 + V, by go_num, by go_num, by omega, by omega, fun h => by omega, fun _ => HA.out⟩
          case measure => simp [intOf]; omega
    · obtain rfl : k = ds.length := by omega
      by_cases h0 : ds.length = 0
      · have HA : Hid (R = none) := HR0.out h0
        have HZ : Hid (N = 0) := HN.out h0
        have h0' : decide (0 < ds.length) = false := decide_eq_false (by omega)
        clear HK
        go_wp2
        go_ret2
        exact ⟨by rw [HA.out]; show Ending.returned (.tuple #[.int .i64 (N : Int), .bool false]) = _; rw [HZ.out]; rfl, rfl⟩
      · have HA : Hid (R = some N) := by
          have := HK.out (by omega)
          rw [List.drop_length, reckP] at this
          exact this
        have h0' : decide (0 < ds.length) = true := decide_eq_true (by omega)
        clear HK
        go_wp2
        go_ret2
        exact ⟨by rw [HA.out]; rfl, rfl⟩

theorem reckon_any (ds : List UInt8) (base M : Nat) (hb : base = 8 ∨ base = 10 ∨ base = 16) (hm : (M : Int) ≤ 4294967295) (hl : (ds.length : Int) ≤ 9223372036854775807) (w : World) :
    Calls Try.prog 46 #[S ds, .int .i64 base, .int .i64 M] w fun e w' => e = .returned (reckAns (reckV ds base M)) ∧ w' = w := by
  rcases hb with rfl | rfl | rfl
  · exact reckon_8 ds M hm hl w
  · exact reckon_10 ds M hm hl w
  · exact reckon_16 ds M hm hl w

def numAns : Option Int → Value
  | some n => .tuple #[.int .i64 n, .bool true]
  | none => .tuple #[.int .i64 0, .bool false]

theorem formP_base (r : List UInt8) : (formP r).2 = 8 ∨ (formP r).2 = 10 ∨ (formP r).2 = 16 := by
  unfold formP; repeat' split
  all_goals simp
theorem formP_len (r : List UInt8) : (formP r).1.length ≤ r.length := by
  unfold formP; repeat' split
  all_goals simp

set_option maxHeartbeats 2000000 in
theorem number_any (t : List UInt8) (w : World) (h0 : 0 < t.length) (h1 : t.getD 0 0 = 45 → 1 < t.length) (hl : (t.length : Int) ≤ 9223372036854775807) : Calls Try.prog 43 #[S t] w fun e w' => e = .returned (numAns (numP t)) ∧ w' = w := by
  have e0 : t.getD 0 0 = t[0] := getD_lt h0
  obtain ⟨c, hc⟩ : ∃ c, t[0] = c := ⟨_, rfl⟩
  have hb := byte_eq c 45
  have hcc : ({ data := t.toArray } : ByteArray)[0]'h0 = c := hc
  have h0' : (0 : Int) < t.length := by omega
  have hn0 : ((t.length : Int) == 0) = false := beq_eq_false_iff_ne.2 (by omega)
  rw [e0, hc] at h1
  obtain ⟨N, hN⟩ : ∃ N, numP t = N := ⟨_, rfl⟩
  rw [hN]
  unfold numP at hN
  rw [e0, hc] at hN
  by_cases h45 : c = 45
  · subst h45
    have h1' := h1 rfl
    have h1i : (1 : Int) ≤ t.length := by omega
    rw [if_neg (by simp)] at hN
    have hdl : (t.drop 1).length = t.length - 1 := by simp
    have HF : Hid (∀ w, Calls Try.prog 45 #[S (t.drop 1)] w fun e w' => e = .returned (.tuple #[S (formP (t.drop 1)).1, .int .i64 ((formP (t.drop 1)).2 : Nat)]) ∧ w' = w) := fun w => form_any (t.drop 1) w (by omega) (by omega)
    have hfl := formP_len (t.drop 1)
    by_cases h10 : (formP (t.drop 1)).2 = 10
    · rw [if_neg (by simpa using h10)] at hN
      have HR : Hid (∀ w, Calls Try.prog 46 #[S (formP (t.drop 1)).1, .int .i64 10, .int .i64 2147483648] w fun e w' => e = .returned (reckAns (reckV (formP (t.drop 1)).1 10 2147483648)) ∧ w' = w) := fun w => reckon_any _ 10 2147483648 (by omega) (by omega) (by omega) w
      rw [h10] at HF
      have HB : ∀ n, reckV (formP (t.drop 1)).1 10 2147483648 = some n → n ≤ 2147483648 := fun n hn => by
        unfold reckV at hn
        split at hn
        · cases hn
        · exact reckP_le _ _ _ _ _ (by omega) hn
      generalize reckV (formP (t.drop 1)).1 10 2147483648 = rv at *
      generalize (formP (t.drop 1)).1 = ds at *
      cases rv with
      | none =>
        have HN : Hid (N = none) := by show _ = _; rw [← hN]; rfl
        clear hN e0 hb h1 h10 hdl hfl HB
        go_enter Try.func43, Try.ntmps43
        go_wp2_with fail
        simp only [S_from]
        refine (HF.out _).mono ?_
        rintro e w1 ⟨rfl, rfl⟩
        go_wp2_with fail
        refine (HR.out _).mono ?_
        rintro e w1 ⟨rfl, rfl⟩
        simp only [reckAns]
        go_wp2
        go_ret2
        exact ⟨by rw [HN.out]; rfl, rfl⟩
      | some n =>
        have HN : Hid (N = some (-(n : Int))) := by show _ = _; rw [← hN]; rfl
        have hn := HB n rfl
        have hn' : (n : Int) ≤ 2147483648 := by omega
        clear hN e0 hb h1 h10 hdl hfl HB hn
        go_enter Try.func43, Try.ntmps43
        go_wp2_with fail
        simp only [S_from]
        refine (HF.out _).mono ?_
        rintro e w1 ⟨rfl, rfl⟩
        go_wp2_with fail
        refine (HR.out _).mono ?_
        rintro e w1 ⟨rfl, rfl⟩
        simp only [reckAns]
        go_wp2
        go_ret2
        exact ⟨by rw [HN.out]; rfl, rfl⟩
    · rw [if_pos (by simpa using h10)] at hN
      have HN : Hid (N = none) := hN.symm
      have hb10 : (((formP (t.drop 1)).2 : Int) == 10) = false := beq_eq_false_iff_ne.2 (by omega)
      generalize (formP (t.drop 1)).2 = bs at *
      generalize (formP (t.drop 1)).1 = ds at *
      clear hN e0 hb h1 h10 hdl hfl
      go_enter Try.func43, Try.ntmps43
      go_wp2_with fail
      simp only [S_from]
      refine (HF.out _).mono ?_
      rintro e w1 ⟨rfl, rfl⟩
      go_wp2
      go_ret2
      exact ⟨by rw [HN.out]; rfl, rfl⟩
  · rw [if_pos h45] at hN
    have hb3 : ((c.toNat : Int) == 45) = false := hb.trans (by simpa using h45)
    have HF : Hid (∀ w, Calls Try.prog 45 #[S t] w fun e w' => e = .returned (.tuple #[S (formP t).1, .int .i64 ((formP t).2 : Nat)]) ∧ w' = w) := fun w => form_any t w h0 hl
    have hfl := formP_len t
    have hfb := formP_base t
    have HR : Hid (∀ w, Calls Try.prog 46 #[S (formP t).1, .int .i64 ((formP t).2 : Nat), .int .i64 4294967295] w fun e w' => e = .returned (reckAns (reckV (formP t).1 (formP t).2 4294967295)) ∧ w' = w) := fun w => reckon_any _ _ 4294967295 hfb (by omega) (by omega) w
    generalize reckV (formP t).1 (formP t).2 4294967295 = rv at *
    generalize (formP t).1 = ds at *
    generalize (formP t).2 = bs at *
    cases rv with
    | none =>
      have HN : Hid (N = none) := by show _ = _; rw [← hN]; rfl
      clear hN e0 hb h1 hfl hfb h45
      go_enter Try.func43, Try.ntmps43
      go_wp2_with fail
      refine (HF.out _).mono ?_
      rintro e w1 ⟨rfl, rfl⟩
      go_wp2_with fail
      refine (HR.out _).mono ?_
      rintro e w1 ⟨rfl, rfl⟩
      simp only [reckAns]
      go_wp2
      go_ret2
      exact ⟨by rw [HN.out]; rfl, rfl⟩
    | some n =>
      have HN : Hid (N = some (n : Int)) := by show _ = _; rw [← hN]; rfl
      clear hN e0 hb h1 hfl hfb h45
      go_enter Try.func43, Try.ntmps43
      go_wp2_with fail
      refine (HF.out _).mono ?_
      rintro e w1 ⟨rfl, rfl⟩
      go_wp2_with fail
      refine (HR.out _).mono ?_
      rintro e w1 ⟨rfl, rfl⟩
      simp only [reckAns]
      go_wp2
      go_ret2
      exact ⟨by rw [HN.out]; rfl, rfl⟩

end Go.Proofs.Ythnnmgiihpdblab
