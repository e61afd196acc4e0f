/- The package's readings of texts, walked. -/
import Derived.Test.YtbbikogpfpghbaaDoorW18
import Derived.Test.YtbbikogpfpghbaaDoorW14
namespace Go.Proofs.YtbbikogpfpghbaaDoor
open Go.RowKit
attribute [local go_sem] x35 x36 x40 x41

/-- A reading's answer. -/
def optI (k : IntKind) (o : Option Int) : Value := .tuple #[.int k (o.getD 0), .bool o.isSome]

theorem getD_at (l : List UInt8) (k : Nat) (h : k < l.length) : l.getD k 0 = l[k] := by simp [List.getD, h]
theorem decV_snoc (l : List UInt8) (c : UInt8) : decV (l ++ [c]) 0 = decV l 0 * 10 + (c.toNat - 48) := by simp [decV]
theorem take_snoc1 (l : List UInt8) (k : Nat) (h1 : 1 ≤ k) (h : k < l.length) : (l.take (k + 1)).drop 1 = (l.take k).drop 1 ++ [l[k]] := by
  rw [List.take_succ_eq_append_getElem h, List.drop_append_of_le_length (by rw [List.length_take]; omega)]

theorem pow_none (l : List UInt8) (h : l ≠ [43, 48]) (k : Nat) (h1 : 1 ≤ k) (hk : k < l.length) (hc : isDec (l.getD k 0) = false) : parsePowL l = none := by
  rw [getD_at _ _ hk] at hc
  cases l with
  | nil => simp at hk
  | cons c ds =>
    unfold parsePowL
    rw [if_neg h]
    simp only
    rw [if_pos]
    right; right; right
    obtain ⟨j, rfl⟩ : ∃ j, k = j + 1 := ⟨k - 1, by omega⟩
    rw [List.getElem_cons_succ] at hc
    rw [List.all_eq_false]
    exact ⟨_, List.getElem_mem _, by rw [hc]; simp⟩

theorem pow_some (l : List UInt8) (h : l ≠ [43, 48]) (h2 : 2 ≤ l.length) (h5 : l.length ≤ 5) (h48 : l.getD 1 0 ≠ 48) (ha : (l.drop 1).all isDec = true) :
    parsePowL l = if l.getD 0 0 = 43 then some ((decV (l.drop 1) 0 : Nat) : Int) else if l.getD 0 0 = 45 then some (-((decV (l.drop 1) 0 : Nat) : Int)) else none := by
  match l, h2 with
  | a :: b :: ds, _ =>
    unfold parsePowL
    rw [if_neg h]
    simp only [List.drop_succ_cons, List.drop_zero] at ha ⊢
    rw [if_neg]
    · rfl
    · simp only [not_or]
      refine ⟨by simp, by simp only [List.length_cons] at h5 ⊢; omega, ?_, by rw [ha]; simp⟩
      simpa using h48

theorem pow_short (l : List UInt8) (h : l ≠ [43, 48]) (hs : l.length < 2 ∨ 5 < l.length) : parsePowL l = none := by
  cases l with
  | nil => rfl
  | cons c ds =>
    unfold parsePowL
    rw [if_neg h]
    simp only
    rw [if_pos]
    simp only [List.length_cons] at hs
    rcases hs with hs | hs
    · left; exact List.eq_nil_of_length_eq_zero (by omega)
    · right; left; omega

theorem pow_zero (l : List UInt8) (h : l ≠ [43, 48]) (h2 : 2 ≤ l.length) (h48 : l.getD 1 0 = 48) : parsePowL l = none := by
  match l, h2 with
  | a :: b :: ds, _ =>
    unfold parsePowL
    rw [if_neg h]
    simp only
    rw [if_pos]
    right; right; left
    simpa using h48

theorem byte_cast (c : UInt8) (n : Nat) (h : n < 256) : ((c.toNat : Int) == (n : Int)) = decide (c = UInt8.ofNat n) := by
  rw [Bool.eq_iff_iff, beq_iff_eq, decide_eq_true_eq]
  constructor
  · intro e
    have : c.toNat = n := Int.natCast_inj.1 e
    rw [← this]; simp
  · intro e
    subst e
    simp [Nat.mod_eq_of_lt h]

set_option maxHeartbeats 1000000 in
theorem parsePower_any (s : ByteArray) (w : World) (hs : s.size ≤ 2147483647) :
    Calls Tryd.prog 123 #[.string s] w fun e w' => e = .returned (optI .i64 (parsePowL s.data.toList)) ∧ w' = w := by
  have hl : s.data.toList.length = s.size := by rw [Array.length_toList]; rfl
  have htl : s.toList = s.data.toList := Lib.toList_data s
  by_cases h0 : s.data.toList = [43, 48]
  · have hb : (s.toList == [43, 48]) = true := by rw [htl, h0]; rfl
    have e : parsePowL s.data.toList = some 0 := by rw [h0]; rfl
    rw [e]
    clear htl hl e h0
    go_enter Tryd.func123, Tryd.ntmps123
    go_wp2
    go_ret2
    exact ⟨rfl, rfl⟩
  · have hb : (s.toList == [43, 48]) = false := by rw [htl, beq_eq_false_iff_ne]; exact h0
    by_cases h1 : s.size < 2 ∨ 5 < s.size
    · have e := pow_short _ h0 (by rw [hl]; exact h1)
      rw [e]
      clear e htl h0 hl
      rcases h1 with h1 | h1
      · have h1' : (s.size : Int) < 2 := by omega
        go_enter Tryd.func123, Tryd.ntmps123
        go_wp2
        go_ret2
        exact ⟨rfl, rfl⟩
      · have h1' : 5 < (s.size : Int) := by omega
        go_enter Tryd.func123, Tryd.ntmps123
        go_wp2
        go_ret2
        exact ⟨rfl, rfl⟩
    · have h2 : 2 ≤ s.size := by omega
      have h5 : s.size ≤ 5 := by omega
      have hg : ∀ k (hk : k < s.size), s[k] = s.data.toList.getD k 0 := fun k hk => by
        rw [getD_at _ _ (by rw [hl]; exact hk)]
        simp [ByteArray.getElem_eq_getElem_data]
      by_cases h48 : s[1] = 48
      · have e := pow_zero _ h0 (by rw [hl]; exact h2) (by rw [← hg 1 (by omega)]; exact h48)
        rw [e]
        have hc : ((s[1].toNat : Int) == 48) = true := by rw [h48]; rfl
        clear e htl h0 hl hg h48
        go_enter Tryd.func123, Tryd.ntmps123
        go_wp2
        go_ret2
        exact ⟨rfl, rfl⟩
      · have hc : ((s[1].toNat : Int) == 48) = false := by
          have := byte_cast s[1] 48 (by omega)
          rw [show ((48 : Nat) : Int) = 48 from rfl] at this
          rw [this]; simpa using h48
        have HG : Hid (∀ k (hk : k < s.size), s[k] = s.data.toList.getD k 0) := hg
        have HE : Hid (∀ ha : (s.data.toList.drop 1).all isDec = true, parsePowL s.data.toList = if s.data.toList.getD 0 0 = 43 then some ((decV (s.data.toList.drop 1) 0 : Nat) : Int) else if s.data.toList.getD 0 0 = 45 then some (-((decV (s.data.toList.drop 1) 0 : Nat) : Int)) else none) := fun ha => pow_some _ h0 (by omega) (by omega) (by rw [← hg 1 (by omega)]; exact h48) ha
        have HNo : Hid (∀ k (h1 : 1 ≤ k) (hk : k < s.data.toList.length), isDec (s.data.toList.getD k 0) = false → parsePowL s.data.toList = none) := fun k h1 hk => pow_none _ h0 k h1 hk
        have HL : Hid (s.data.toList.length = s.size) := hl
        have h2' : 2 ≤ (s.size : Int) := by omega
        have h5' : (s.size : Int) ≤ 5 := by omega
        have hs1 : 1 < s.size := by omega
        clear hg h48 h0 htl hl h1 h5 hs
        have hd1 : decide ((s.size : Int) < 2) = false := by simp; omega
        have hd2 : decide (5 < (s.size : Int)) = false := by simp; omega
        go_enter Tryd.func123, Tryd.ntmps123
        go_wp2
        go_loop [4, 5] (fun p i => ∃ (k : Nat) (q : Int), p = .int .i64 q ∧ i = .int .i64 k ∧ 1 ≤ k ∧ k ≤ s.size ∧ q = (decV ((s.data.toList.take k).drop 1) 0 : Nat) ∧ ((s.data.toList.take k).drop 1).all isDec = true ∧ 0 ≤ q ∧ q ≤ 9999 ∧ (k ≤ 4 → q ≤ 999) ∧ (k ≤ 3 → q ≤ 99) ∧ (k ≤ 2 → q ≤ 9) ∧ (k ≤ 1 → q ≤ 0)) (fun _ i => 10 - (intOf i).toNat)
        case atStart =>
          refine ⟨1, 0, rfl, rfl, by omega, by omega, ?_, ?_, by omega, by omega, by omega, by omega, by omega, by omega⟩
          · have : (s.data.toList.take 1).drop 1 = [] := by
              apply List.eq_nil_of_length_eq_zero; rw [List.length_drop, List.length_take]; omega
            rw [this]; rfl
          · have : (s.data.toList.take 1).drop 1 = [] := by
              apply List.eq_nil_of_length_eq_zero; rw [List.length_drop, List.length_take]; omega
            rw [this]; rfl
        case round =>
          obtain ⟨k, q, rfl, rfl, hk1, hk2, hq, ha, hq0, hq1, hq4, hq3, hq2, hq1'⟩ := hrel
          have HQ : Hid (q = (decV ((s.data.toList.take k).drop 1) 0 : Nat)) := hq
          have HA : Hid (((s.data.toList.take k).drop 1).all isDec = true) := ha
          clear hq ha
          by_cases hlt : k < s.size
          · have hk5 : k ≤ 4 := by omega
            have hq9 : q ≤ 999 := hq4 hk5
            have HQ3 : Hid ((k ≤ 3 → q ≤ 99) ∧ (k ≤ 2 → q ≤ 9) ∧ (k ≤ 1 → q ≤ 0)) := ⟨hq3, hq2, hq1'⟩
            clear hq4 hq3 hq2 hq1'
            have HC : Hid (s[k] = s.data.toList.getD k 0) := HG.out k hlt
            generalize hcc : s[k] = c at *
            have hcl := UInt8.toNat_lt c
            by_cases hdec : isDec c = true
            · have hdd := hdec
              unfold isDec at hdd
              simp only [Bool.and_eq_true, decide_eq_true_eq] at hdd
              have hc1 : 48 ≤ (c.toNat : Int) := by omega
              have hc2 : (c.toNat : Int) ≤ 57 := by omega
              have HDec : Hid (isDec c = true) := hdec
              clear hdec hdd hcl
              go_wp2
              have hkl : k < s.data.toList.length := by rw [HL.out]; exact hlt
              have hsn := take_snoc1 s.data.toList k hk1 hkl
              have hlk : s.data.toList[k] = c := by rw [HC.out, getD_at _ _ hkl]
              rw [hlk] at hsn
              have hqn : q * 10 + ((c.toNat : Int) - 48) = ((decV ((s.data.toList.take (k + 1)).drop 1) 0 : Nat) : Int) := by
                rw [hsn, decV_snoc]
                have := HQ.out
                omega
              have han : ((s.data.toList.take (k + 1)).drop 1).all isDec = true := by
                rw [hsn, List.all_append, HA.out]
                simp [HDec.out]
              obtain ⟨hq3, hq2, hq1'⟩ := HQ3.out
              refine ⟨⟨k + 1, _, rfl, by go_num, by omega, by omega, hqn, han, by omega, by omega, fun _ => ?_, fun _ => ?_, fun _ => ?_, fun _ => ?_⟩, ?_⟩
              · have := hq3 (by omega); omega
              · have := hq2 (by omega); omega
              · have := hq1' (by omega); omega
              · omega
              · simp [intOf]; omega
            · have hno := HNo.out k hk1 (by rw [HL.out]; exact hlt) (by rw [← HC.out]; simpa using hdec)
              have HNO : Hid (parsePowL s.data.toList = none) := hno
              have hdd : c.toNat < 48 ∨ 57 < c.toNat := by
                unfold isDec at hdec
                simp only [Bool.and_eq_true, decide_eq_true_eq, not_and] at hdec
                omega
              clear hdec hcl hno
              rcases hdd with hdd | hdd
              · have hc1 : (c.toNat : Int) < 48 := by omega
                go_wp2
                go_ret2
                exact ⟨by rw [HNO.out]; rfl, rfl⟩
              · have hc1 : 57 < (c.toNat : Int) := by omega
                go_wp2
                go_ret2
                exact ⟨by rw [HNO.out]; rfl, rfl⟩
          · obtain rfl : k = s.size := by omega
            have hs0 : 0 < s.size := by omega
            have htk : s.data.toList.take s.size = s.data.toList := List.take_of_length_le (by rw [HL.out]; exact Nat.le_refl _)
            have ha' := HA.out
            have hq' := HQ.out
            rw [htk] at ha' hq'
            have he := HE.out ha'
            rw [← hq', ← HG.out 0 hs0] at he
            have HE2 : Hid (parsePowL s.data.toList = if s[0] = 43 then some q else if s[0] = 45 then some (-q) else none) := he
            clear he ha' hq' htk hlt hq4 hq3 hq2 hq1' HQ HA
            have hx1 := byte_cast s[0] 43 (by omega)
            have hx2 := byte_cast s[0] 45 (by omega)
            rw [show ((43 : Nat) : Int) = 43 from rfl] at hx1
            rw [show ((45 : Nat) : Int) = 45 from rfl] at hx2
            by_cases h43 : s[0] = 43
            · have hy1 : ((s[0].toNat : Int) == 43) = true := by rw [hx1]; simpa using h43
              have hfin : parsePowL s.data.toList = some q := by rw [HE2.out, if_pos h43]
              have HFin : Hid (parsePowL s.data.toList = some q) := hfin
              clear hx1 hx2 h43 hfin
              go_wp2
              go_ret2
              exact ⟨by rw [HFin.out]; rfl, rfl⟩
            · have hy1 : ((s[0].toNat : Int) == 43) = false := by rw [hx1]; simpa using h43
              by_cases h45 : s[0] = 45
              · have hy2 : ((s[0].toNat : Int) == 45) = true := by rw [hx2]; simpa using h45
                have hfin : parsePowL s.data.toList = some (-q) := by rw [HE2.out, if_neg h43, if_pos h45]
                have HFin : Hid (parsePowL s.data.toList = some (-q)) := hfin
                clear hx1 hx2 h43 h45 hfin
                go_wp2
                go_ret2
                exact ⟨by rw [HFin.out]; rfl, rfl⟩
              · have hy2 : ((s[0].toNat : Int) == 45) = false := by rw [hx2]; simpa using h45
                have hfin : parsePowL s.data.toList = none := by rw [HE2.out, if_neg h43, if_neg h45]
                have HFin : Hid (parsePowL s.data.toList = none) := hfin
                clear hx1 hx2 h43 h45 hfin
                go_wp2
                go_ret2
                exact ⟨by rw [HFin.out]; rfl, rfl⟩

/-! A digit of the base 16. -/
set_option maxHeartbeats 400000 in
theorem hexDigit_dec (c : Int) (w : World) (a1 : 48 ≤ c) (a2 : c ≤ 57) :
    Calls Tryd.prog 136 #[.int .u8 c] w fun e w' => e = .returned (.tuple #[.int .u64 (c - 48), .bool true]) ∧ w' = w := by
  go_enter Tryd.func136, Tryd.ntmps136
  go_wp2
  go_ret2
  exact ⟨rfl, rfl⟩
set_option maxHeartbeats 400000 in
theorem hexDigit_let (c : Int) (w : World) (a1 : 97 ≤ c) (a2 : c ≤ 102) :
    Calls Tryd.prog 136 #[.int .u8 c] w fun e w' => e = .returned (.tuple #[.int .u64 (c - 97 + 10), .bool true]) ∧ w' = w := by
  have a3 : 57 < c := by omega
  go_enter Tryd.func136, Tryd.ntmps136
  go_wp2
  go_ret2
  exact ⟨rfl, rfl⟩
set_option maxHeartbeats 400000 in
theorem hexDigit_no (c : Int) (w : World) (h : c < 48 ∨ (57 < c ∧ c < 97) ∨ 102 < c) :
    Calls Tryd.prog 136 #[.int .u8 c] w fun e w' => e = .returned (.tuple #[.int .u64 0, .bool false]) ∧ w' = w := by
  rcases h with h | ⟨h, h'⟩ | h
  all_goals
    go_enter Tryd.func136, Tryd.ntmps136
    go_wp2
    go_ret2
    exact ⟨rfl, rfl⟩

theorem hexDigit_some (c : UInt8) (v : Nat) (w : World) (h : hexV c = some v) :
    Calls Tryd.prog 136 #[.int .u8 (c.toNat : Int)] w fun e w' => e = .returned (.tuple #[.int .u64 v, .bool true]) ∧ w' = w := by
  unfold hexV at h
  split at h
  · rename_i hh
    simp only [Option.some.injEq] at h
    have r := hexDigit_dec (c.toNat : Int) w (by omega) (by omega)
    have e : (c.toNat : Int) - 48 = (v : Int) := by omega
    rw [e] at r
    exact r
  · split at h
    · rename_i hh2
      simp only [Option.some.injEq] at h
      have r := hexDigit_let (c.toNat : Int) w (by omega) (by omega)
      have e : (c.toNat : Int) - 97 + 10 = (v : Int) := by omega
      rw [e] at r
      exact r
    · simp at h
theorem hexDigit_none (c : UInt8) (w : World) (h : hexV c = none) :
    Calls Tryd.prog 136 #[.int .u8 (c.toNat : Int)] w fun e w' => e = .returned (.tuple #[.int .u64 0, .bool false]) ∧ w' = w := by
  unfold hexV at h
  split at h
  · simp at h
  · split at h
    · simp at h
    · exact hexDigit_no (c.toNat : Int) w (by omega)

/-! The fraction. -/
theorem foldHex_snoc (l : List UInt8) (c : UInt8) : foldHex (l ++ [c]) 0 = (foldHex l 0).bind fun b => (hexV c).map fun v => b * 16 + v := by
  rw [foldHex_append]
  cases foldHex l 0 with
  | none => rfl
  | some b =>
    simp only [Option.bind_some, foldHex]
    cases hexV c <;> rfl

theorem fold_none (l : List UInt8) (k : Nat) (hk : k < l.length) (h : hexV l[k] = none) : foldHex l 0 = none := by
  have e : l = l.take k ++ l[k] :: l.drop (k + 1) := by
    rw [← List.drop_eq_getElem_cons hk, List.take_append_drop]
  rw [e, foldHex_append]
  cases foldHex (l.take k) 0 with
  | none => rfl
  | some b => simp only [Option.bind_some, foldHex, h]

theorem or_nibble (V v : Nat) (hV : V < 281474976710656) (hv : v < 16) : bits .or .u64 ((V : Int) * 16) (v : Int) = ((V * 16 + v : Nat) : Int) := by
  have e := or64 (V * 16) v 4 (by omega) (by rw [show (2 : Nat) ^ 4 = 16 from rfl]; exact Nat.mul_mod_left _ _) (by rw [show (2 : Nat) ^ 4 = 16 from rfl]; exact hv) (by omega)
  rw [Int.natCast_mul] at e
  exact e

theorem shl_frac (V n : Nat) (hV : V * 16 ^ (13 - n) < 18446744073709551616) : IntKind.u64.wrap ((V : Int) * 2 ^ (4 * (13 - n))) = ((V * 16 ^ (13 - n) : Nat) : Int) := by
  have e2 : (2 : Int) ^ (4 * (13 - n)) = ((16 ^ (13 - n) : Nat) : Int) := by
    rw [Int.pow_mul, Int.natCast_pow]; rfl
  rw [e2, ← Int.natCast_mul, IntKind.wrap_u64, Int.emod_eq_of_lt (by omega) (by omega)]

set_option maxHeartbeats 1000000 in
theorem parseFraction_main (s : ByteArray) (w : World) (ds : List UInt8) (h0 : (s.toList.isEmpty) = false) (hp : ∀ w, Calls Tryd.prog 94 #[.string s, .string ⟨#[46]⟩] w fun e w' => e = .returned (.tuple #[.string ⟨ds.toArray⟩, .bool true]) ∧ w' = w)
    (hs : ∀ w, Calls Tryd.prog 135 #[.string ⟨ds.toArray⟩, .string ⟨#[48]⟩] w fun e w' => e = .returned (.bool false) ∧ w' = w) (hd0 : ds.isEmpty = false) (hdl : ds.length ≤ 13) :
    Calls Tryd.prog 122 #[.string s] w fun e w' => e = .returned (optI .u64 ((foldHex ds 0).map fun V => ((V * 16 ^ (13 - ds.length) : Nat) : Int))) ∧ w' = w := by
  have HP : Hid (∀ w, Calls Tryd.prog 94 #[.string s, .string ⟨#[46]⟩] w fun e w' => e = .returned (.tuple #[.string ⟨ds.toArray⟩, .bool true]) ∧ w' = w) := hp
  have HS : Hid (∀ w, Calls Tryd.prog 135 #[.string ⟨ds.toArray⟩, .string ⟨#[48]⟩] w fun e w' => e = .returned (.bool false) ∧ w' = w) := hs
  clear hp hs
  have hd13 : decide (13 < (ds.length : Int)) = false := by simp; omega
  go_enter Tryd.func122, Tryd.ntmps122
  go_wp2_with (first | (go_at_call 94; refine (HP.out _).mono ?_; rintro e w' ⟨rfl, rfl⟩) | (go_at_call 135; refine (HS.out _).mono ?_; rintro e w' ⟨rfl, rfl⟩))
  go_loop [6, 34] (fun f i => ∃ k V : Nat, f = .int .u64 V ∧ i = .int .i64 k ∧ k ≤ ds.length ∧ foldHex (ds.take k) 0 = some V) (fun _ i => 20 - (intOf i).toNat)
  case atStart => exact ⟨0, 0, rfl, rfl, Nat.zero_le _, rfl⟩
  case round =>
    obtain ⟨k, V, rfl, rfl, hk, hf⟩ := hrel
    have HF : Hid (foldHex (ds.take k) 0 = some V) := hf
    clear hf
    by_cases hlt : k < ds.length
    · have hk' : (k : Int) < ds.length := by omega
      obtain ⟨hdd, hV⟩ := dig_fold k (ds.take k) V (by rw [List.length_take]; omega) HF.out
      have hV12 : V < 281474976710656 := Nat.lt_of_lt_of_le hV (Nat.le_trans (Nat.pow_le_pow_right (by omega) (show k ≤ 12 by omega)) (by decide))
      clear hdd hV
      go_wp2_with fail
      have hcs : ({ data := ds.toArray } : ByteArray)[k] = ds[k] := rfl
      cases hv : hexV ds[k] with
      | none =>
        have HNO : Hid (foldHex ds 0 = none) := fold_none ds k hlt hv
        refine (hexDigit_none _ _ (by rw [hcs]; exact hv)).mono ?_
        rintro e w1 ⟨rfl, rfl⟩
        clear hv hcs hV12
        go_wp2
        go_ret2
        exact ⟨by rw [HNO.out]; rfl, rfl⟩
      | some v =>
        have hv16 := (hexB_hexV _ _ hv).2
        have HN : Hid (foldHex (ds.take (k + 1)) 0 = some (V * 16 + v)) := by
          show foldHex (ds.take (k + 1)) 0 = some (V * 16 + v)
          rw [List.take_succ_eq_append_getElem hlt, foldHex_snoc, HF.out, hv]
          rfl
        have hor := or_nibble V v hV12 hv16
        have HOr : Hid (bits .or .u64 ((V : Int) * 16) (v : Int) = ((V * 16 + v : Nat) : Int)) := hor
        obtain ⟨Vi, HVi⟩ : ∃ Vi : Int, Hid (Vi = (V : Int)) := ⟨_, rfl⟩
        have hVi0 : 0 ≤ Vi := by have := HVi.out; omega
        have hVi1 : Vi < 281474976710656 := by have := HVi.out; omega
        refine (hexDigit_some _ v _ (by rw [hcs]; exact hv)).mono ?_
        rintro e w1 ⟨rfl, rfl⟩
        rw [← HVi.out]
        clear hv hcs hV12 hor hv16
        go_wp2
        go_round
        case rel => exact ⟨k + 1, V * 16 + v, in_eq (by rw [HVi.out]; exact HOr.out), by go_num, by omega, HN.out⟩
        case measure => simp [intOf]; omega
    · obtain rfl : k = ds.length := by omega
      have hf := HF.out
      rw [List.take_length] at hf
      obtain ⟨-, hV⟩ := dig_fold ds.length ds V rfl hf
      have hbig : V * 16 ^ (13 - ds.length) < 18446744073709551616 := by
        have h1 : V * 16 ^ (13 - ds.length) < 16 ^ ds.length * 16 ^ (13 - ds.length) := Nat.mul_lt_mul_of_pos_right hV (Nat.pow_pos (by omega))
        rw [← Nat.pow_add, show ds.length + (13 - ds.length) = 13 by omega] at h1
        exact Nat.lt_of_lt_of_le h1 (by decide)
      have HSh : Hid (IntKind.u64.wrap ((V : Int) * 2 ^ (4 * (13 - ds.length))) = ((V * 16 ^ (13 - ds.length) : Nat) : Int)) := shl_frac V ds.length hbig
      have HFin : Hid (foldHex ds 0 = some V) := hf
      have hdl' : (ds.length : Int) ≤ 13 := by omega
      clear hf hV hbig hdl hlt hk HF
      go_wp2
      go_ret2
      refine ⟨?_, rfl⟩
      rw [HFin.out]
      show Ending.returned (.tuple #[.int .u64 (IntKind.u64.wrap ((V : Int) * 2 ^ (4 * (13 - ds.length)))), .bool true]) = _
      rw [HSh.out]
      rfl

end Go.Proofs.YtbbikogpfpghbaaDoor
