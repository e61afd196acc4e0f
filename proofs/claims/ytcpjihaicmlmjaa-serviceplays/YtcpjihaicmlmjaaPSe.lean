/- Services: a procedure is looked for. -/
import Derived.Test.YtcpjihaicmlmjaaPSc
namespace Go.Proofs.Ytcpjihaicmlmjaa
open Go.RowKit
theorem rise_lt : ∀ (gs : List Int) (la : Int), riseP la gs = true → ∀ i, i < gs.length → la < gs.getD i 0
  | [], _, _, i, hi => by simp at hi
  | x :: l, la, h, i, hi => by
    simp only [riseP, Bool.and_eq_true, decide_eq_true_eq] at h
    cases i with
    | zero => simpa using h.1.1
    | succ i =>
      have := rise_lt l x h.2 i (by simpa using hi)
      simp only [List.getD_cons_succ]
      omega
theorem rise_mono : ∀ (gs : List Int) (la : Int), riseP la gs = true → ∀ i j, i < j → j < gs.length → gs.getD i 0 < gs.getD j 0
  | [], _, _, i, j, _, hj => by simp at hj
  | x :: l, la, h, i, j, hij, hj => by
    simp only [riseP, Bool.and_eq_true, decide_eq_true_eq] at h
    cases j with
    | zero => omega
    | succ j =>
      cases i with
      | zero => simpa using rise_lt l x h.2 j (by simpa using hj)
      | succ i => simpa using rise_mono l x h.2 i j (by omega) (by simpa using hj)
theorem mem_at (gs : List Int) (p : Int) : p ∈ gs ↔ ∃ i, i < gs.length ∧ gs.getD i 0 = p := by
  rw [List.mem_iff_getElem]
  constructor
  · rintro ⟨i, hi, he⟩; exact ⟨i, hi, by rw [List.getD_eq_getElem?_getD, List.getElem?_eq_getElem hi]; exact he⟩
  · rintro ⟨i, hi, he⟩; exact ⟨i, hi, by rw [List.getD_eq_getElem?_getD, List.getElem?_eq_getElem hi] at he; exact he⟩
theorem half {i j : Nat} (h : i < j) : i ≤ (i + j) / 2 ∧ (i + j) / 2 < j := by omega
theorem u64_small {x : Int} (h0 : 0 ≤ x) (h1 : x < 18446744073709551616) : IntKind.u64.wrap x = x := by
  show x % 18446744073709551616 = x
  exact Int.emod_eq_of_lt h0 h1
theorem wrap_small {x : Int} (h0 : 0 ≤ x) (h1 : x ≤ 200000000000000) : wrap64 x = x := by unfold wrap64; omega
theorem mid_eq {a b m n : Nat} (hm : (a + b) / 2 = m) (hb : b ≤ n) (hab : a ≤ b) (hn : n ≤ 100000000000000) : wrap64 (IntKind.u64.wrap (wrap64 ((a : Int) + (b : Int))) / 2) = (m : Int) := by
  have h1 : (a : Int) + (b : Int) ≤ 200000000000000 := by omega
  have h0 : 0 ≤ (a : Int) + (b : Int) := by omega
  rw [wrap_small h0 h1, u64_small h0 (Int.lt_of_le_of_lt h1 (by decide))]
  have h2 : ((a : Int) + (b : Int)) / 2 = (m : Int) := by rw [← hm]; omega
  rw [h2]
  exact wrap_small (by omega) (by omega)
theorem meas_hi {a b m : Nat} {q : Int} (h : a ≤ m) (h2 : m < b) (hq : q = (m : Int)) : (intOf (.int .i64 q)).toNat - (intOf (.int .i64 (a : Int))).toNat < (intOf (.int .i64 (b : Int))).toNat - (intOf (.int .i64 (a : Int))).toNat := by
  show q.toNat - (a : Int).toNat < (b : Int).toNat - (a : Int).toNat
  omega
theorem meas_lo {a b m : Nat} {q : Int} (h : a ≤ m) (h2 : m < b) (hq : q = (m : Int) + 1) : (intOf (.int .i64 (b : Int))).toNat - (intOf (.int .i64 q)).toNat < (intOf (.int .i64 (b : Int))).toNat - (intOf (.int .i64 (a : Int))).toNat := by
  show (b : Int).toNat - q.toNat < (b : Int).toNat - (a : Int).toNat
  omega
theorem search_hi {gs : List Int} {n m : Nat} {x p : Int} (hr : riseP 0 gs = true) (hn : gs.length = n) (hx : gs.getD m 0 = x) (hxp : decide (x < p) = false) : ∀ k, m ≤ k → k < n → p ≤ gs.getD k 0 := fun k hk hk2 => by
  rw [decide_eq_false_iff_not] at hxp
  rcases Nat.lt_or_ge m k with h | h
  · have := rise_mono gs 0 hr m k h (by omega)
    omega
  · obtain rfl : k = m := by omega
    omega
theorem search_lo {gs : List Int} {n m : Nat} {x p : Int} (hr : riseP 0 gs = true) (hn : gs.length = n) (hx : gs.getD m 0 = x) (hm : m < n) (hxp : decide (x < p) = true) : ∀ k, k < m + 1 → gs.getD k 0 < p := fun k hk => by
  rw [decide_eq_true_eq] at hxp
  rcases Nat.lt_or_ge k m with h | h
  · have := rise_mono gs 0 hr k m h (by omega)
    omega
  · obtain rfl : k = m := by omega
    omega
theorem search_end {gs : List Int} {n a : Nat} {p : Int} (hr : riseP 0 gs = true) (hn : gs.length = n) (hA : ∀ k, k < a → gs.getD k 0 < p) (hP : ∀ k, a ≤ k → k < n → p ≤ gs.getD k 0) (ha : a ≤ n) : decide (p ∈ gs) = decide (a < n ∧ gs.getD a 0 = p) := by
  rw [decide_eq_decide, mem_at]
  constructor
  · rintro ⟨k, hk, he⟩
    have h1 : a ≤ k := by
      rcases Nat.lt_or_ge k a with h | h
      · have := hA k h; omega
      · exact h
    rcases Nat.lt_or_ge a k with h | h
    · have := rise_mono gs 0 hr a k h hk
      have := hP a (Nat.le_refl _) (by omega)
      omega
    · obtain rfl : k = a := by omega
      exact ⟨by omega, he⟩
  · rintro ⟨h1, h2⟩; exact ⟨a, by omega, h2⟩
set_option maxRecDepth 8000 in
theorem search_any (oa : Option Addr) (cap : Nat) (gs : List Int) (p : Int) (w : World) (hg : GsAt w w.heap.size oa gs) (hl : gs.length ≤ 100000000000000) (hri : riseP 0 gs = true) :
    Calls Try.prog 32 #[.slice oa gs.length cap, .int .i64 p] w fun e w' => (∃ i, e = .returned (.tuple #[.int .i64 i, .bool (decide (p ∈ gs))])) ∧ Below w.heap.size w w' := by
  have HG := hid hg
  obtain ⟨n, hn⟩ : ∃ n, gs.length = n := ⟨_, rfl⟩
  have HN := hid hn
  have HR := hid hri
  obtain ⟨r, hr⟩ : ∃ r, decide (p ∈ gs) = r := ⟨_, rfl⟩
  have HQ := hid hr
  rw [hn, hr]
  rw [hn] at hl
  have HL := hid hl
  have HLE := hid (fun a w => less_any a p w)
  have HNA := hid (fun a w => nan_any a w)
  clear hg hn hr hl hri
  go_enter Try.func32, Try.ntmps32
  go_wp2_with fail
  go_loopw [7, 8] (fun i j wr => ∃ (a b : Nat), i = .int .i64 a ∧ j = .int .i64 b ∧ a ≤ b ∧ b ≤ n ∧ Hid (∀ k, k < a → gs.getD k 0 < p) ∧ Hid (∀ k, b ≤ k → k < n → p ≤ gs.getD k 0) ∧ Hid (Below w.heap.size w wr)) (fun i j _ => (intOf j).toNat - (intOf i).toNat)
  case atStart => exact ⟨0, n, rfl, rfl, by omega, by omega, (fun k hk => by omega : ∀ k, k < 0 → gs.getD k 0 < p), (fun k hk hk2 => by omega : ∀ k, n ≤ k → k < n → p ≤ gs.getD k 0), (Below.refl _ _ : Below w.heap.size w w)⟩
  case round =>
    obtain ⟨a, b, rfl, rfl, hab, hbn, HA, HP, HB⟩ := hrel
    by_cases hlt : a < b
    · obtain ⟨q, off, ho, hq, hc⟩ := HG.out (by have := HN.out; omega)
      obtain ⟨m, hm⟩ : ∃ m, (a + b) / 2 = m := ⟨_, rfl⟩
      have hmm := half hlt
      rw [hm] at hmm
      have d1 : wr.cell? ⟨q, off + m, none⟩ = some (.int .i64 (gs.getD m 0)) := (cell_of_block (HB.out.block q hq)).trans (hc m (by have := HN.out; omega))
      subst ho
      have j1 : (a : Int) < (b : Int) := by omega
      have hmid : wrap64 (IntKind.u64.wrap (wrap64 ((a : Int) + (b : Int))) / 2) = (m : Int) := mid_eq hm hbn hab HL.out
      have m0 : (0 : Int) ≤ (m : Int) := by omega
      have m1 : (m : Int) < (n : Int) := by omega
      obtain ⟨x, hx⟩ : ∃ x, gs.getD m 0 = x := ⟨_, rfl⟩
      rw [hx] at d1
      have HM := hid (And.intro hmm hx)
      have hwm := wrapJ (show m < n by omega) HL.out
      clear hc hm hmm hx
      go_wp2_with fail
      refine (HLE.out _ _).mono ?_
      rintro _ w' ⟨rfl, hw'⟩
      have HB' : Hid (Below w.heap.size w w') := by rw [hw']; exact HB.out
      clear hw'
      cases hxp : decide (x < p)
      · go_wp2
        go_roundw
        case rel => exact ⟨a, m, rfl, by go_num, HM.out.1.1, by have := HM.out.1; omega, HA, search_hi HR.out HN.out HM.out.2 hxp, HB'⟩
        case measure => exact meas_hi HM.out.1.1 HM.out.1.2 (by go_num)
      · go_wp2
        go_roundw
        case rel => exact ⟨m + 1, b, by go_num, rfl, HM.out.1.2, hbn, search_lo HR.out HN.out HM.out.2 (by have := HM.out.1; omega) hxp, HP, HB'⟩
        case measure => exact meas_lo HM.out.1.1 HM.out.1.2 (by go_num)
    · obtain rfl : a = b := by omega
      have HF := hid (search_end HR.out HN.out HA.out HP.out hbn)
      by_cases hln : a < n
      · obtain ⟨q, off, ho, hq, hc⟩ := HG.out (by have := HN.out; omega)
        have d1 : wr.cell? ⟨q, off + a, none⟩ = some (.int .i64 (gs.getD a 0)) := (cell_of_block (HB.out.block q hq)).trans (hc a (by have := HN.out; omega))
        subst ho
        obtain ⟨x, hx⟩ : ∃ x, gs.getD a 0 = x := ⟨_, rfl⟩
        rw [hx] at d1 HF
        have m0 : (0 : Int) ≤ (a : Int) := by omega
        have m1 : (a : Int) < (n : Int) := by omega
        have hrr : r = (x == p) := by
          rw [← HQ.out, HF.out]
          rw [show (x == p) = decide (x = p) from rfl, decide_eq_decide]
          exact ⟨fun h => h.2, fun h => ⟨hln, h⟩⟩
        clear hc hx HF
        cases hxp : (x == p)
        · rw [hxp] at hrr
          subst hrr
          go_wp2_with fail
          refine (HNA.out _ _).mono ?_
          rintro _ w' ⟨rfl, hw'⟩
          have HB' : Hid (Below w.heap.size w w') := by rw [hw']; exact HB.out
          clear hw'
          go_wp2
          go_ret2
          exact ⟨⟨_, rfl⟩, HB'.out⟩
        · rw [hxp] at hrr
          subst hrr
          go_wp2
          go_ret2
          exact ⟨⟨_, rfl⟩, HB.out⟩
      · have hrr : r = false := by
          rw [← HQ.out, HF.out, decide_eq_false_iff_not]
          exact fun h => hln h.1
        subst hrr
        have m1 : ¬ (a : Int) < (n : Int) := by omega
        go_wp2
        go_ret2
        exact ⟨⟨_, rfl⟩, HB.out⟩
end Go.Proofs.Ytcpjihaicmlmjaa
