/- The second reader's guess, walked. -/
import Derived.Test.YtbbikogpfpghbaaDoorW25
import Derived.Deep.CutBlock
import Derived.Deep.DeepCutAuto
namespace Go.Proofs.YtbbikogpfpghbaaDoor
open Go.RowKit

theorem rcut_ex (s f : ByteArray) : ∃ t : ByteArray, t.data.toList = (cutL s.data.toList f.data.toList).1 ∧ Hid (∀ w, Calls Tryd.prog 118 #[.string s, .string f] w fun e w' => e = .returned (.tuple #[.string t, .bool (cutL s.data.toList f.data.toList).2]) ∧ w' = w) :=
  ⟨⟨(cutL s.data.toList f.data.toList).1.toArray⟩, by simp, fun w => rcut_any s f w⟩

def tenF (l : List UInt8) : Int := l.foldl (fun e c => 10 * e + (c.toNat : Int) - 48) 0
theorem ten_snoc (l : List UInt8) (c : UInt8) : tenF (l ++ [c]) = 10 * tenF l + (c.toNat : Int) - 48 := by
  unfold tenF; rw [List.foldl_append]; rfl

theorem hex_stop (k N : Nat) (u : List UInt8) (H : Nat) (r : List UInt8) (h : hexRun (13 - k) u N = (H, r)) (hk : k ≤ 13) (hs : k = 13 ∨ u = [] ∨ ∃ c l, u = c :: l ∧ hexV c = none) : N * 16 ^ (13 - k) = H ∧ u = r := by
  by_cases h13 : k = 13
  · subst h13
    simp only [Nat.sub_self, hexRun, Prod.mk.injEq] at h
    simpa using h
  · obtain ⟨m, hm⟩ : ∃ m, 13 - k = m + 1 := ⟨12 - k, by omega⟩
    rw [hm] at h ⊢
    rcases hs with hs | hs | ⟨c, l, hs, hv⟩
    · exact absurd hs h13
    · subst hs
      simpa [hexRun] using h
    · subst hs
      simp only [hexRun, hv, Prod.mk.injEq] at h
      exact h

theorem get0 (u : ByteArray) (c : UInt8) (l : List UInt8) (h : u.data.toList = c :: l) (hs : 0 < u.size) : u[0] = c := by
  rw [ByteArray.getElem_eq_getElem_data]
  have : u.data[0]'hs = u.data.toList[0]'(by rw [h]; simp) := by simp
  rw [this]
  simp [h]

theorem ten_take (t : ByteArray) (k : Nat) (h1 : 1 ≤ k) (h : k < t.size) : tenF ((t.data.toList.drop 1).take (k + 1 - 1)) = 10 * tenF ((t.data.toList.drop 1).take (k - 1)) + (t[k].toNat : Int) - 48 := by
  have hl : t.data.toList.length = t.size := by rw [Array.length_toList]; rfl
  have e : (t.data.toList.drop 1).take (k + 1 - 1) = (t.data.toList.drop 1).take (k - 1) ++ [t[k]] := by
    obtain ⟨m, rfl⟩ : ∃ m, k = m + 1 := ⟨k - 1, by omega⟩
    rw [show m + 1 + 1 - 1 = m + 1 by omega, show m + 1 - 1 = m by omega, List.take_add_one]
    congr 1
    rw [List.getElem?_drop, Nat.add_comm 1 m, List.getElem?_eq_getElem (by rw [hl]; exact h), ByteArray.getElem_eq_getElem_data]
    simp
  rw [e, ten_snoc]

theorem tenF_pow (l : List UInt8) : -(30 * 10 ^ l.length - 30) ≤ tenF l ∧ tenF l ≤ 30 * 10 ^ l.length - 30 := by
  suffices H : ∀ n (l : List UInt8), l.length = n → -(30 * 10 ^ n - 30) ≤ tenF l ∧ tenF l ≤ 30 * 10 ^ n - 30 from H _ l rfl
  intro n
  induction n with
  | zero => intro l h; rw [List.length_eq_zero_iff] at h; subst h; decide
  | succ n ih =>
    intro l h
    have hne : l ≠ [] := by intro e; subst e; simp at h
    have e := (List.dropLast_concat_getLast hne)
    have hd := ih l.dropLast (by rw [List.length_dropLast]; omega)
    rw [← e, ten_snoc]
    have hc := (l.getLast hne).toNat_lt
    generalize (l.getLast hne).toNat = c at *
    have hp : (10 : Int) ^ (n + 1) = 10 * 10 ^ n := by rw [Int.pow_succ]; omega
    rw [hp]
    generalize (10 : Int) ^ n = P at *
    omega
theorem tenF_bd (l : List UInt8) (h : l.length ≤ 5) : -4000000 ≤ tenF l ∧ tenF l ≤ 4000000 := by
  have hb := tenF_pow l
  have : l.length = 0 ∨ l.length = 1 ∨ l.length = 2 ∨ l.length = 3 ∨ l.length = 4 ∨ l.length = 5 := by omega
  rcases this with e | e | e | e | e | e <;> rw [e] at hb <;> omega

set_option maxRecDepth 4000 in
set_option maxHeartbeats 4000000 in
theorem guess_word (s t t2 t3 t5 : ByteArray) (b b2 b3 b5 mi : Bool) (sg : Int) (H : Nat) (r : List UInt8) (w : World) (hc : ∀ w, Calls Tryd.prog 118 #[.string s, .string ⟨#[45]⟩] w fun e w' => e = .returned (.tuple #[.string t, .bool b]) ∧ w' = w)
   (hsg : sg = if b then 9223372036854775808 else 0)
   (hc2 : ∀ w, Calls Tryd.prog 118 #[.string t, .string ⟨#[48, 120, 49]⟩] w fun e w' => e = .returned (.tuple #[.string t2, .bool b2]) ∧ w' = w)
   (hc3 : ∀ w, Calls Tryd.prog 118 #[.string t2, .string ⟨#[46]⟩] w fun e w' => e = .returned (.tuple #[.string t3, .bool b3]) ∧ w' = w)
   (hc5 : ∀ w, Calls Tryd.prog 118 #[.string ⟨r.toArray⟩, .string ⟨#[112]⟩] w fun e w' => e = .returned (.tuple #[.string t5, .bool b5]) ∧ w' = w)
   (hH : hexRun 13 t3.data.toList 1 = (H, r)) (hH2 : H < 9007199254740992)
   (hmi : (t5.toList.isEmpty = true ∧ mi = false) ∨ (t5.toList.isEmpty = false ∧ ∃ hs : 0 < t5.size, ((t5[0].toNat : Int) == 45) = mi)) (E : Int) (hE : tenF ((t5.data.toList.drop 1).take 5) = E) (hEb : -4000000 ≤ E ∧ E ≤ 4000000) (G : Nat)
   (hz : ∀ e : Int, e = (if mi then -E else E) → (1023 < e ∨ e < -1074) → (0 : Int) = (G : Int))
   (hn : ∀ e : Int, e = (if mi then -E else E) → -1022 ≤ e → e ≤ 1023 → bits .or .u64 (bits .or .u64 sg ((e + 1023) * 4503599627370496)) (IntKind.u64.wrap ((H : Int) - 4503599627370496)) = (G : Int))
   (hsb : ∀ e k : Int, e = (if mi then -E else E) → k = -1022 - e → e < -1022 → -1074 ≤ e → bits .or .u64 sg ((H : Int) / 2 ^ k.toNat) = (G : Int))
   (h1 : (t.toList == [110, 97, 110]) = false) (h2 : (t.toList == [105, 110, 102]) = false) (h3 : (t.toList == [48, 120, 48, 112, 43, 48]) = false) :
    Calls Tryd.prog 93 #[.string s] w fun e w' => e = .returned (.int .u64 (G : Int)) ∧ w' = w := by
  have HC : Hid (∀ w, Calls Tryd.prog 118 #[.string s, .string ⟨#[45]⟩] w fun e w' => e = .returned (.tuple #[.string t, .bool b]) ∧ w' = w) := hc
  have HC2 : Hid (∀ w, Calls Tryd.prog 118 #[.string t, .string ⟨#[48, 120, 49]⟩] w fun e w' => e = .returned (.tuple #[.string t2, .bool b2]) ∧ w' = w) := hc2
  have HC3 : Hid (∀ w, Calls Tryd.prog 118 #[.string t2, .string ⟨#[46]⟩] w fun e w' => e = .returned (.tuple #[.string t3, .bool b3]) ∧ w' = w) := hc3
  have HC5 : Hid (∀ w, Calls Tryd.prog 118 #[.string ⟨r.toArray⟩, .string ⟨#[112]⟩] w fun e w' => e = .returned (.tuple #[.string t5, .bool b5]) ∧ w' = w) := hc5
  have HH : Hid (hexRun 13 t3.data.toList 1 = (H, r)) := hH
  have HH2 : Hid (H < 9007199254740992) := hH2
  have HSG : Hid (sg = if b then 9223372036854775808 else 0) := hsg
  have HX : Hid (∀ (c : UInt8) w, Calls Tryd.prog 119 #[.int .u8 (c.toNat : Int)] w fun e w' => e = .returned (.int .i64 (hexI c)) ∧ w' = w) := fun c w => rhex_any c w
  have HMI : Hid ((t5.toList.isEmpty = true ∧ mi = false) ∨ (t5.toList.isEmpty = false ∧ ∃ hs : 0 < t5.size, ((t5[0].toNat : Int) == 45) = mi)) := hmi
  have HE : Hid (tenF ((t5.data.toList.drop 1).take 5) = E) := hE
  have HZ : Hid (∀ e : Int, e = (if mi then -E else E) → (1023 < e ∨ e < -1074) → (0 : Int) = (G : Int)) := hz
  have HNm : Hid (∀ e : Int, e = (if mi then -E else E) → -1022 ≤ e → e ≤ 1023 → bits .or .u64 (bits .or .u64 sg ((e + 1023) * 4503599627370496)) (IntKind.u64.wrap ((H : Int) - 4503599627370496)) = (G : Int)) := hn
  have HSb : Hid (∀ e k : Int, e = (if mi then -E else E) → k = -1022 - e → e < -1022 → -1074 ≤ e → bits .or .u64 sg ((H : Int) / 2 ^ k.toNat) = (G : Int)) := hsb
  obtain ⟨hE1, hE2⟩ := hEb
  clear hc hc2 hc3 hc5 hH hH2 hsg hmi hE hz hn hsb
  go_enter Tryd.func93, Tryd.ntmps93
  go_wp2_with fail
  refine (HC.out _).mono ?_
  rintro e w' ⟨rfl, rfl⟩
  go_upto_if 15 with fail
  go_cut [3] (fun v wx => v = .int .u64 sg ∧ wx = w')
  case first =>
    cases b with
    | true =>
      go_wp2_with fail
      go_meet
      exact ⟨by rw [HSG.out]; rfl, rfl⟩
    | false =>
      go_wp2_with fail
      go_meet
      exact ⟨by rw [HSG.out]; rfl, rfl⟩
  case rest =>
    obtain ⟨rfl, rfl⟩ := hcut
    go_wp2_with fail
    refine (HC2.out _).mono ?_
    rintro e w' ⟨rfl, rfl⟩
    go_wp2_with fail
    refine (HC3.out _).mono ?_
    rintro e w' ⟨rfl, rfl⟩
    go_upto_block 1 with fail
    go_cut [0, 5, 6] (fun vs vn vm wx => wx = w' ∧ vs = .string ⟨r.toArray⟩ ∧ ∃ (k N : Nat), vn = .int .u64 N ∧ vm = .int .i64 k ∧ k ≤ 13 ∧ N * 16 ^ (13 - k) = H)
    case first =>
      go_wp2_with fail
      go_loop [0, 5, 6] (fun vs vn vm => ∃ (k N : Nat) (u : ByteArray), vs = .string u ∧ vn = .int .u64 N ∧ vm = .int .i64 k ∧ k ≤ 13 ∧ N < 2 * 16 ^ k ∧ hexRun (13 - k) u.data.toList N = (H, r)) (fun _ _ m => 20 - (intOf m).toNat)
      case atStart => exact ⟨0, 1, t3, rfl, rfl, rfl, by omega, by decide, HH.out⟩
      case round =>
        obtain ⟨k, N, u, rfl, rfl, rfl, hk, hN, hR⟩ := hrel
        have HR : Hid (hexRun (13 - k) u.data.toList N = (H, r)) := hR
        have HN : Hid (N < 2 * 16 ^ k) := hN
        clear hR hN
        have hlen : u.data.toList.length = u.size := by rw [Array.length_toList]; rfl
        have htl : u.toList = u.data.toList := Lib.toList_data u
        have hex : (k < 13 ∧ ∃ c l v, u.data.toList = c :: l ∧ hexV c = some v) ∨ (N * 16 ^ (13 - k) = H ∧ u.data.toList = r ∧ ((k = 13 ∧ u.toList.isEmpty = true) ∨ (k = 13 ∧ u.toList.isEmpty = false ∧ 0 < u.size) ∨ (k < 13 ∧ u.toList.isEmpty = true) ∨ (k < 13 ∧ u.toList.isEmpty = false ∧ ∃ hs : 0 < u.size, hexI u[0] = -1))) := by
          by_cases hlt : k < 13
          · cases hu : u.data.toList with
            | nil =>
              refine .inr ?_
              have := hex_stop k N _ H r HR.out hk (.inr (.inl hu))
              exact ⟨this.1, by rw [← hu]; exact this.2, .inr (.inr (.inl ⟨hlt, by rw [htl, hu]; rfl⟩))⟩
            | cons c l =>
              cases hv : hexV c with
              | some v => exact .inl ⟨hlt, c, l, v, rfl, hv⟩
              | none =>
                refine .inr ?_
                have := hex_stop k N _ H r HR.out hk (.inr (.inr ⟨c, l, hu, hv⟩))
                have hs : 0 < u.size := by rw [← hlen, hu]; simp
                exact ⟨this.1, by rw [← hu]; exact this.2, .inr (.inr (.inr ⟨hlt, by rw [htl, hu]; rfl, hs, by rw [get0 u c l hu hs]; unfold hexI; rw [hv]⟩))⟩
          · obtain rfl : k = 13 := by omega
            have := hex_stop 13 N _ H r HR.out hk (.inl rfl)
            refine .inr ⟨this.1, this.2, ?_⟩
            cases hu : u.data.toList with
            | nil => exact .inl ⟨rfl, by rw [htl, hu]; rfl⟩
            | cons c l => exact .inr (.inl ⟨rfl, by rw [htl, hu]; rfl, by rw [← hlen, hu]; simp⟩)
        rcases hex with ⟨hlt, c, l, v, hu, hv⟩ | ⟨hNH, hur, hex⟩
        · have hk' : (k : Int) < 13 := by omega
          have he : u.toList.isEmpty = false := by rw [htl, hu]; rfl
          have hsz : 0 < u.size := by rw [← hlen, hu]; simp
          have hc0 := get0 u c l hu hsz
          have HXC : Hid (∀ w, Calls Tryd.prog 119 #[.int .u8 (c.toNat : Int)] w fun e w' => e = .returned (.int .i64 (v : Int)) ∧ w' = w) := fun w => by
            have := rhex_any c w
            rw [show hexI c = (v : Int) by unfold hexI; rw [hv]] at this
            exact this
          have hN2 : (N : Int) < 18014398509481984 := by
            have : 2 * 16 ^ k ≤ 2 * 16 ^ 12 := Nat.mul_le_mul_left _ (Nat.pow_le_pow_right (by omega) (by omega))
            have h12 : 2 * 16 ^ 12 = 562949953421312 := by decide
            have := HN.out
            omega
          have HU : Hid (u.data.toList = c :: l ∧ hexV c = some v) := ⟨hu, hv⟩
          clear htl hlen hu hv
          have hv16 : (v : Int) < 16 := by have := (hexB_hexV c v HU.out.2).2; omega
          go_wp2_with (go_at_call 119; refine (HXC.out _).mono ?_; rintro e w' ⟨rfl, rfl⟩)
          obtain ⟨hu, hv⟩ := HU.out
          have hN3 := HN.out
          have hRR := HR.out
          refine ⟨⟨k + 1, 16 * N + v, u.extract 1 u.size, rfl, by go_num, by go_num, by omega, ?_, ?_⟩, ?_⟩
          · rw [Nat.pow_succ]; omega
          · rw [ext_back, hu]
            obtain ⟨m, hm⟩ : ∃ m, 13 - k = m + 1 := ⟨12 - k, by omega⟩
            rw [hm, hu] at hRR
            simp only [hexRun, hv] at hRR
            rw [show 13 - (k + 1) = m by omega]
            exact hRR
          · simp [intOf]; omega
        · have HNH : Hid (N * 16 ^ (13 - k) = H ∧ u = ⟨r.toArray⟩) := ⟨hNH, by rw [← hur]⟩
          clear hNH hur htl hlen
          rcases hex with ⟨rfl, he⟩ | ⟨rfl, he, hs⟩ | ⟨hlt, he⟩ | ⟨hlt, he, hs, hx⟩
          all_goals
            try (have hx' := HX.out u[0]; rw [hx] at hx'; have HX' : Hid (∀ w, Calls Tryd.prog 119 #[.int .u8 (u[0].toNat : Int)] w fun e w' => e = .returned (.int .i64 (-1)) ∧ w' = w) := hx'; clear hx' hx)
            go_wp2_with (go_at_call 119; refine (HX'.out _).mono ?_; rintro e w' ⟨rfl, rfl⟩)
            go_meet
            exact ⟨rfl, by rw [HNH.out.2], _, N, rfl, rfl, hk, HNH.out.1⟩
    case rest =>
      obtain ⟨rfl, rfl, k, N, rfl, rfl, hk, hNH⟩ := hcut
      have HNH : Hid (N * 16 ^ (13 - k) = H) := hNH
      clear hNH
      go_wp2_with fail
      go_loop [5, 6] (fun vn vm => ∃ j M : Nat, vn = .int .u64 M ∧ vm = .int .i64 j ∧ j ≤ 13 ∧ M * 16 ^ (13 - j) = H) (fun _ m => 20 - (intOf m).toNat)
      case atStart => exact ⟨k, N, rfl, rfl, hk, HNH.out⟩
      case round =>
        obtain ⟨j, M, rfl, rfl, hj, hM⟩ := hrel
        have HM : Hid (M * 16 ^ (13 - j) = H) := hM
        clear hM
        by_cases hlt : j < 13
        · have hj' : (j : Int) < 13 := by omega
          have hM2 : (M : Int) < 562949953421312 := by
            obtain ⟨m, hm⟩ : ∃ m, 13 - j = m + 1 := ⟨12 - j, by omega⟩
            have h := HM.out
            have h2 := HH2.out
            rw [hm, Nat.pow_succ, ← Nat.mul_assoc] at h
            have : M ≤ M * 16 ^ m := Nat.le_mul_of_pos_right _ (Nat.pow_pos (by omega))
            omega
          go_wp2
          refine ⟨⟨j + 1, M * 16, by go_num, by go_num, by omega, ?_⟩, ?_⟩
          · have h := HM.out
            obtain ⟨m, hm⟩ : ∃ m, 13 - j = m + 1 := ⟨12 - j, by omega⟩
            rw [hm, Nat.pow_succ] at h
            rw [show 13 - (j + 1) = m by omega, Nat.mul_assoc, Nat.mul_comm 16]
            exact h
          · simp [intOf]; omega
        · obtain rfl : j = 13 := by omega
          have hMH : M = H := by have := HM.out; simpa using this
          subst hMH
          clear hlt hj HM HNH hk
          go_wp2_with fail
          refine (HC5.out _).mono ?_
          rintro e w' ⟨rfl, rfl⟩
          go_upto_region 24 with fail
          go_cut [7] (fun v wx => v = .bool mi ∧ wx = w')
          case first =>
            rcases HMI.out with ⟨he, rfl⟩ | ⟨he, hs, hm⟩
            · go_wp2_with fail
              go_meet
              exact ⟨rfl, rfl⟩
            · go_wp2_with fail
              go_meet
              exact ⟨rfl, rfl⟩
          case rest =>
            obtain ⟨rfl, rfl⟩ := hcut
            go_upto_block 5 with fail
            go_cut [8, 9] (fun ve vi wx => wx = wc ∧ ve = .int .i64 E ∧ ∃ i : Int, vi = .int .i64 i)
            case first =>
              go_wp2_with fail
              go_loop [8, 9] (fun ve vi => ∃ (k : Nat) (q : Int), ve = .int .i64 q ∧ vi = .int .i64 k ∧ 1 ≤ k ∧ k ≤ 6 ∧ q = tenF ((t5.data.toList.drop 1).take (k - 1))) (fun _ i => 20 - (intOf i).toNat)
              case atStart => exact ⟨1, 0, rfl, rfl, by omega, by omega, rfl⟩
              case round =>
                obtain ⟨k, q, rfl, rfl, hk1, hk6, hq⟩ := hrel
                have HQ : Hid (q = tenF ((t5.data.toList.drop 1).take (k - 1))) := hq
                clear hq
                have hk1' : 1 ≤ (k : Int) := by omega
                by_cases hlt : k < t5.size
                · by_cases h6 : k < 6
                  · have hlt' : (k : Int) < t5.size := by omega
                    have h6' : (k : Int) < 6 := by omega
                    obtain ⟨hq1, hq2⟩ : -4000000 ≤ q ∧ q ≤ 4000000 := by rw [HQ.out]; exact tenF_bd _ (by rw [List.length_take]; omega)
                    have hb1 : (t5[k].toNat : Int) < 256 := by have := t5[k].toNat_lt; omega
                    go_wp2
                    refine ⟨⟨k + 1, _, rfl, by go_num, by omega, by omega, ?_⟩, ?_⟩
                    · rw [ten_take t5 k hk1 hlt, ← HQ.out]
                    · simp [intOf]; omega
                  · obtain rfl : k = 6 := by omega
                    have hlt' : 6 < (t5.size : Int) := by omega
                    go_wp2
                    go_meet
                    exact ⟨rfl, by rw [HQ.out, ← HE.out], _, rfl⟩
                · have hlt' : (t5.size : Int) ≤ k := by omega
                  have hqE : q = E := by
                    rw [HQ.out, ← HE.out, List.take_of_length_le (i := k - 1), List.take_of_length_le (i := 5)]
                    all_goals (rw [List.length_drop, Array.length_toList]; have : t5.data.size = t5.size := rfl; omega)
                  subst hqE
                  go_wp2
                  go_meet
                  exact ⟨rfl, rfl, _, rfl⟩
            case rest =>
              obtain ⟨rfl, rfl, i, rfl⟩ := hcut
              cases mi with
              | true =>
                by_cases hb1 : 1023 < (-E)
                · go_wp2
                  go_ret
                  exact ⟨by rw [← HZ.out (-E) rfl (.inl (by omega))]; rfl, rfl⟩
                · by_cases hb2 : (-E) < -1074
                  · go_wp2
                    go_ret
                    exact ⟨by rw [← HZ.out (-E) rfl (.inr (by omega))]; rfl, rfl⟩
                  · by_cases hb3 : -1022 ≤ (-E)
                    · go_wp2
                      go_ret
                      exact ⟨by rw [← HNm.out (-E) rfl (by omega) (by omega)]; rfl, rfl⟩
                    · go_wp2
                      go_ret
                      exact ⟨by rw [← HSb.out (-E) (-1022 + E) rfl (by omega) (by omega) (by omega)]; rfl, rfl⟩
              | false =>
                by_cases hb1 : 1023 < E
                · go_wp2
                  go_ret
                  exact ⟨by rw [← HZ.out E rfl (.inl (by omega))]; rfl, rfl⟩
                · by_cases hb2 : E < -1074
                  · go_wp2
                    go_ret
                    exact ⟨by rw [← HZ.out E rfl (.inr (by omega))]; rfl, rfl⟩
                  · by_cases hb3 : -1022 ≤ E
                    · go_wp2
                      go_ret
                      exact ⟨by rw [← HNm.out E rfl (by omega) (by omega)]; rfl, rfl⟩
                    · go_wp2
                      go_ret
                      exact ⟨by rw [← HSb.out E (-1022 - E) rfl (by omega) (by omega) (by omega)]; rfl, rfl⟩
end Go.Proofs.YtbbikogpfpghbaaDoor
