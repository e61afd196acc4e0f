/- The document's own numbers, signs, comments. -/
import Derived.Test.YthnnmgiihpdblabMb
namespace Go.Proofs.Ythnnmgiihpdblab
open Go.RowKit

def NumPost (o : Option Int) (w : World) (e : Ending) (w' : World) : Prop :=
  w' = w ∧ match o with | some n => e = .returned (.tuple #[.int .i64 n, .bool true]) | none => ∃ m : Int, e = .returned (.tuple #[.int .i64 m, .bool false])

theorem numPost_none {w : World} {m : Int} : NumPost none w (.returned (.tuple #[.int .i64 m, .bool false])) w := ⟨rfl, m, rfl⟩
theorem numPost_some {w : World} {m n : Int} (h : m = n) : NumPost (some n) w (.returned (.tuple #[.int .i64 m, .bool true])) w := ⟨rfl, by rw [h]⟩

set_option maxHeartbeats 2000000 in
theorem rnumber_minus (r : List UInt8) (h0 : 0 < r.length) (hl : (r.length : Int) ≤ 9223372036854775807) (w : World) : Calls Try.prog 30 #[S r, .bool true] w (NumPost (numR r true) w) := by
  have H1 : Hid (∀ w, Calls Try.prog 39 #[S r, .int .i64 10] w fun e w' => e = .returned (reckAns (reckV r 10 4294967295)) ∧ w' = w) := fun w => rdigits_10 r hl w
  have hn : numR r true = (reckV r 10 4294967295).bind fun n => if r.getD 0 0 ≠ 48 ∧ n ≤ 2147483648 then some (-(n : Int)) else none := by unfold numR; rw [if_pos rfl]
  have hB : ∀ n, reckV r 10 4294967295 = some n → n ≤ 4294967295 := fun n hn => by
    unfold reckV at hn
    split at hn
    · cases hn
    · exact reckP_le _ _ _ _ _ (by omega) hn
  rw [hn]
  clear hn
  have h0' : (0 : Int) < r.length := by omega
  have hcs : ({ data := r.toArray } : ByteArray)[0]'h0 = r.getD 0 0 := (getD_lt h0).symm
  have hbe := byte_eq (r.getD 0 0) 48
  generalize r.getD 0 0 = c at *
  cases hrv : reckV r 10 4294967295 with
  | none =>
    rw [hrv] at H1
    clear hB hrv hbe
    go_enter Try.func30, Try.ntmps30
    go_wp2_with fail
    refine (H1.out _).mono ?_
    rintro e w1 ⟨rfl, rfl⟩
    simp only [reckAns]
    go_wp2
    go_ret2
    exact numPost_none
  | some n =>
    have hn1 := hB n hrv
    rw [hrv] at H1
    clear hB hrv
    have hn2 : (n : Int) ≤ 4294967295 := by omega
    show Calls Try.prog 30 #[S r, .bool true] w (NumPost (if c ≠ 48 ∧ n ≤ 2147483648 then some (-(n : Int)) else none) w)
    by_cases h48 : c = 48
    · rw [if_neg (fun h => h.1 h48)]
      subst h48
      clear hbe
      go_enter Try.func30, Try.ntmps30
      go_wp2_with fail
      refine (H1.out _).mono ?_
      rintro e w1 ⟨rfl, rfl⟩
      simp only [reckAns]
      go_wp2
      go_ret2
      exact numPost_none
    · have hb : ((c.toNat : Int) == 48) = false := hbe.trans (by simpa using h48)
      have hb2 : ¬ (c.toNat : Int) = 48 := by simpa using hb
      have HBN : Hid (((c.toNat : Int) != 48) = true) := by show _ = _; simpa using hb2
      by_cases hle : n ≤ 2147483648
      · rw [if_pos ⟨h48, hle⟩]
        have hle' : (n : Int) ≤ 2147483648 := by omega
        clear hbe h48
        go_enter Try.func30, Try.ntmps30
        go_wp2_with fail
        refine (H1.out _).mono ?_
        rintro e w1 ⟨rfl, rfl⟩
        simp only [reckAns]
        go_wp2
        go_ret2
        exact (show NumPost (some (-(n : Int))) w1 (.returned (.tuple #[.int .i64 (-(n : Int)), .bool ((c.toNat : Int) != 48)])) w1 from by rw [HBN.out]; exact numPost_some rfl)
      · rw [if_neg (fun h => hle h.2)]
        have hle' : decide ((n : Int) ≤ 2147483648) = false := decide_eq_false (by omega)
        clear hbe h48
        go_enter Try.func30, Try.ntmps30
        go_wp2_with fail
        refine (H1.out _).mono ?_
        rintro e w1 ⟨rfl, rfl⟩
        simp only [reckAns]
        go_wp2
        go_ret2
        exact numPost_none

set_option maxHeartbeats 2000000 in
theorem rnumber_plain (r : List UInt8) (h0 : 0 < r.length) (hl : (r.length : Int) ≤ 9223372036854775807) (w : World) : Calls Try.prog 30 #[S r, .bool false] w (NumPost (numR r false) w) := by
  have H10 : Hid (∀ w, Calls Try.prog 39 #[S r, .int .i64 10] w fun e w' => e = .returned (reckAns (reckV r 10 4294967295)) ∧ w' = w) := fun w => rdigits_10 r hl w
  have H8 : Hid (∀ w, Calls Try.prog 39 #[.string ((⟨r.toArray⟩ : ByteArray).extract 1 r.length), .int .i64 8] w fun e w' => e = .returned (reckAns (reckV (r.drop 1) 8 4294967295)) ∧ w' = w) := fun w => by
    rw [S_from]; exact rdigits_8 (r.drop 1) (by simp; omega) w
  have H16 : Hid (∀ w, Calls Try.prog 39 #[.string ((⟨r.toArray⟩ : ByteArray).extract 2 r.length), .int .i64 16] w fun e w' => e = .returned (reckAns (reckV (r.drop 2) 16 4294967295)) ∧ w' = w) := fun w => by
    rw [S_from]; exact rdigits_16 (r.drop 2) (by simp; omega) w
  have h0' : (0 : Int) < r.length := by omega
  have hcs : ({ data := r.toArray } : ByteArray)[0]'h0 = r.getD 0 0 := (getD_lt h0).symm
  have hbe := byte_eq (r.getD 0 0) 48
  unfold numR
  rw [if_neg (by decide)]
  by_cases h1 : r = [48]
  · subst h1
    rw [if_pos rfl]
    clear H10 H8 H16 hbe hcs
    go_enter Try.func30, Try.ntmps30
    go_wp2
    go_ret2
    exact numPost_some rfl
  rw [if_neg h1]
  generalize r.getD 0 0 = c at *
  have hb1 : (r == [48]) = false := by simpa using h1
  have hex : ((⟨r.toArray⟩ : ByteArray).extract 0 2).toList = r.take 2 := by rw [S_extract, ByteArray.toList_eq]; simp
  by_cases hx : 2 < r.length ∧ r.take 2 = [48, 120]
  · rw [if_pos hx]
    have hx1 : (2 : Int) < r.length := by omega
    have hx2 : (((⟨r.toArray⟩ : ByteArray).extract 0 2).toList == [48, 120]) = true := by rw [hex, hx.2]; rfl
    clear hx hbe h1 hex
    cases hv : reckV (r.drop 2) 16 4294967295 with
    | none =>
      rw [hv] at H16
      go_enter Try.func30, Try.ntmps30
      go_wp2_with fail
      refine (H16.out _).mono ?_
      rintro e w1 ⟨rfl, rfl⟩
      simp only [reckAns]
      go_wp2
      go_ret2
      exact numPost_none
    | some n =>
      rw [hv] at H16
      go_enter Try.func30, Try.ntmps30
      go_wp2_with fail
      refine (H16.out _).mono ?_
      rintro e w1 ⟨rfl, rfl⟩
      simp only [reckAns]
      go_wp2
      go_ret2
      exact numPost_some rfl
  · rw [if_neg hx]
    have hx2 : decide ((2 : Int) < r.length) = false ∨ ((2 : Int) < r.length ∧ (((⟨r.toArray⟩ : ByteArray).extract 0 2).toList == [48, 120]) = false) := by
      by_cases h2 : 2 < r.length
      · right
        refine ⟨by omega, ?_⟩
        rw [hex]
        simpa using fun h => hx ⟨h2, h⟩
      · exact .inl (decide_eq_false (by omega))
    clear hx h1 hex
    by_cases h48 : c = 48
    · rw [if_pos h48]
      have h2 : (1 : Int) ≤ r.length := by omega
      have hb : ((c.toNat : Int) == 48) = true := by rw [h48]; rfl
      clear hbe h48
      rcases hx2 with hx2 | ⟨hx1, hx2⟩
      · cases hv : reckV (r.drop 1) 8 4294967295 with
        | none =>
          rw [hv] at H8
          go_enter Try.func30, Try.ntmps30
          go_wp2_with fail
          refine (H8.out _).mono ?_
          rintro e w1 ⟨rfl, rfl⟩
          simp only [reckAns]
          go_wp2
          go_ret2
          exact numPost_none
        | some n =>
          rw [hv] at H8
          go_enter Try.func30, Try.ntmps30
          go_wp2_with fail
          refine (H8.out _).mono ?_
          rintro e w1 ⟨rfl, rfl⟩
          simp only [reckAns]
          go_wp2
          go_ret2
          exact numPost_some rfl
      · cases hv : reckV (r.drop 1) 8 4294967295 with
        | none =>
          rw [hv] at H8
          go_enter Try.func30, Try.ntmps30
          go_wp2_with fail
          refine (H8.out _).mono ?_
          rintro e w1 ⟨rfl, rfl⟩
          simp only [reckAns]
          go_wp2
          go_ret2
          exact numPost_none
        | some n =>
          rw [hv] at H8
          go_enter Try.func30, Try.ntmps30
          go_wp2_with fail
          refine (H8.out _).mono ?_
          rintro e w1 ⟨rfl, rfl⟩
          simp only [reckAns]
          go_wp2
          go_ret2
          exact numPost_some rfl
    · rw [if_neg h48]
      have hb : ((c.toNat : Int) == 48) = false := hbe.trans (by simpa using h48)
      clear hbe h48
      rcases hx2 with hx2 | ⟨hx1, hx2⟩
      · cases hv : reckV r 10 4294967295 with
        | none =>
          rw [hv] at H10
          go_enter Try.func30, Try.ntmps30
          go_wp2_with fail
          refine (H10.out _).mono ?_
          rintro e w1 ⟨rfl, rfl⟩
          simp only [reckAns]
          go_wp2
          go_ret2
          exact numPost_none
        | some n =>
          rw [hv] at H10
          go_enter Try.func30, Try.ntmps30
          go_wp2_with fail
          refine (H10.out _).mono ?_
          rintro e w1 ⟨rfl, rfl⟩
          simp only [reckAns]
          go_wp2
          go_ret2
          exact numPost_some rfl
      · cases hv : reckV r 10 4294967295 with
        | none =>
          rw [hv] at H10
          go_enter Try.func30, Try.ntmps30
          go_wp2_with fail
          refine (H10.out _).mono ?_
          rintro e w1 ⟨rfl, rfl⟩
          simp only [reckAns]
          go_wp2
          go_ret2
          exact numPost_none
        | some n =>
          rw [hv] at H10
          go_enter Try.func30, Try.ntmps30
          go_wp2_with fail
          refine (H10.out _).mono ?_
          rintro e w1 ⟨rfl, rfl⟩
          simp only [reckAns]
          go_wp2
          go_ret2
          exact numPost_some rfl

end Go.Proofs.Ythnnmgiihpdblab
