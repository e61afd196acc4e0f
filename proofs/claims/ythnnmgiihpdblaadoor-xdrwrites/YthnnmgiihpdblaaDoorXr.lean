/- The program's Writer: Int, Uint, Hyper. -/
import Derived.Test.YthnnmgiihpdblaaDoorXq
namespace Go.Proofs.YthnnmgiihpdblaaDoor
open Go.RowKit

theorem isWord_any (n : Int) (w : World) : Calls Tryd.prog 99 #[.int .i64 n] w fun e w' => e = .returned (.bool (decide (0 ≤ n) && decide (n ≤ 4294967295))) ∧ w' = w := by
  by_cases h0 : 0 ≤ n
  · by_cases h1 : n ≤ 4294967295
    · rw [decide_eq_true h0, decide_eq_true h1]
      go_enter Tryd.func99, Tryd.ntmps99
      go_wp2
      go_ret
      exact ⟨rfl, rfl⟩
    · rw [decide_eq_true h0, decide_eq_false h1]
      have h2 : decide (n ≤ 4294967295) = false := decide_eq_false h1
      go_enter Tryd.func99, Tryd.ntmps99
      go_wp2
      go_ret
      exact ⟨rfl, rfl⟩
  · rw [decide_eq_false h0]
    have h2 : decide (0 ≤ n) = false := decide_eq_false h0
    go_enter Tryd.func99, Tryd.ntmps99
    go_wp2
    go_ret
    exact ⟨rfl, rfl⟩

theorem isInt_any (n : Int) (w : World) : Calls Tryd.prog 96 #[.int .i64 n] w fun e w' => e = .returned (.bool (decide (-2147483648 ≤ n) && decide (n ≤ 2147483647))) ∧ w' = w := by
  by_cases h0 : -2147483648 ≤ n
  · by_cases h1 : n ≤ 2147483647
    · rw [decide_eq_true h0, decide_eq_true h1]
      go_enter Tryd.func96, Tryd.ntmps96
      go_wp2
      go_ret
      exact ⟨rfl, rfl⟩
    · rw [decide_eq_true h0, decide_eq_false h1]
      have h2 : decide (n ≤ 2147483647) = false := decide_eq_false h1
      go_enter Tryd.func96, Tryd.ntmps96
      go_wp2
      go_ret
      exact ⟨rfl, rfl⟩
  · rw [decide_eq_false h0]
    have h2 : decide (-2147483648 ≤ n) = false := decide_eq_false h0
    go_enter Tryd.func96, Tryd.ntmps96
    go_wp2
    go_ret
    exact ⟨rfl, rfl⟩

set_option maxHeartbeats 1000000 in
theorem pint_ok (p : Nat) (v : Value) (n M E : Int) (S : ByteArray) (w : World) (h : PW w p v M (Lib.strCells S) E) (hM0 : 0 ≤ M) (hM1 : M ≤ 9223372036854775807) (hb : S.size + 4 ≤ 140737488355328) (hw : (decide (-2147483648 ≤ n) && decide (n ≤ 2147483647)) = true) :
    Calls Tryd.prog 56 #[.pointer (some ⟨p, 0, none⟩), .int .i64 n] w (PWrote p v M (rlay M S E ⟨(byL 4 n).toArray⟩) w) := by
  obtain ⟨t, ht⟩ : ∃ t : ByteArray, t = ⟨(byL 4 n).toArray⟩ := ⟨_, rfl⟩
  have hts : t.size = 4 := by rw [ht, size_bytes, byL_len]
  have H : Hid (∀ q w1, Below w.heap.size w w1 → w.heap.size ≤ q → q < w1.heap.size → w1.cell? ⟨q, 0, none⟩ = some (.string t) → Calls Tryd.prog 97 #[.pointer (some ⟨p, 0, none⟩), .slice (some ⟨q, 0, none⟩) 1 1] w1 (PWrote p v M (rlay M S E t) w)) :=
    fun q w1 hB h0 h1 hc => lay_one p q v M E S t w w1 h hB h0 h1 hc hM0 hM1 (by rw [hts]; exact hb)
  have H1 : Hid (∀ z w, z = n % 4294967296 → Calls Tryd.prog 98 #[.int .u32 z] w fun e w' => e = .returned (.string t) ∧ Below w.heap.size w w') := fun z w hz => by
    have hz2 : z = ((n % 4294967296).toNat : Int) := by omega
    rw [hz2, ht]
    exact fourBytes_any (n % 4294967296).toNat w (by omega)
  have HG : Hid (∀ w, Calls Tryd.prog 96 #[.int .i64 n] w fun e w' => e = .returned (.bool true) ∧ w' = w) := fun w => hw ▸ isInt_any n w
  rw [← ht]
  clear h hM0 hM1 hb hts ht
  go_enter Tryd.func56, Tryd.ntmps56
  go_wp2_with fail
  refine (HG.out _).mono ?_
  rintro e w0 ⟨rfl, hw0⟩
  have hw1 := hw0.symm
  clear hw0
  subst hw1
  go_wp2_with fail
  refine (H1.out _ _ (by first | rfl | (rw [IntKind.wrap_u32]) | (simp [IntKind.wrap, IntKind.bits, IntKind.signed]) | omega)).mono ?_
  rintro e w1 ⟨rfl, hB⟩
  have HB : Hid (Below w.heap.size w w1) := hB
  clear hB
  go_wp2_with fail
  refine (H.out _ _ (HB.out.alloc HB.out.size _) HB.out.size (by simp) (by simp)).mono ?_
  intro e w2 hp
  obtain ⟨rfl, hp2⟩ := hp
  have HP : Hid (∃ v', PW w2 p v' M (Lib.strCells (rlay M S E t).1) (rlay M S E t).2 ∧ Kept p v v' w w2) := hp2
  clear hp2
  go_wp2
  first | go_end0 | refine bodyPost_ret (results_none rfl _ _ _) rfl ?_
  exact ⟨rfl, HP.out⟩

set_option maxHeartbeats 1000000 in
theorem pint_bad (p : Nat) (v : Value) (n M E : Int) (S : ByteArray) (w : World) (h : PW w p v M (Lib.strCells S) E) (hw : (decide (-2147483648 ≤ n) && decide (n ≤ 2147483647)) = false) :
    Calls Tryd.prog 56 #[.pointer (some ⟨p, 0, none⟩), .int .i64 n] w (PWrote p v M (S, firstE E 22) w) := by
  have H : Hid (Calls Tryd.prog 84 #[.pointer (some ⟨p, 0, none⟩), .int .i64 22] w (PWrote p v M (S, firstE E 22) w)) := pfail_any p v M E 22 S w h
  have HG : Hid (∀ w, Calls Tryd.prog 96 #[.int .i64 n] w fun e w' => e = .returned (.bool false) ∧ w' = w) := fun w => hw ▸ isInt_any n w
  clear h
  go_enter Tryd.func56, Tryd.ntmps56
  go_wp2_with fail
  refine (HG.out _).mono ?_
  rintro e w0 ⟨rfl, hw0⟩
  have hw1 := hw0.symm
  clear hw0
  subst hw1
  go_wp2_with fail
  refine H.out.mono ?_
  intro e w2 hp
  obtain ⟨rfl, hp2⟩ := hp
  have HP : Hid (∃ v', PW w2 p v' M (Lib.strCells (S, firstE E 22).1) (S, firstE E 22).2 ∧ Kept p v v' w w2) := hp2
  clear hp2
  go_wp2
  first | go_end0 | refine bodyPost_ret (results_none rfl _ _ _) rfl ?_
  exact ⟨rfl, HP.out⟩

set_option maxHeartbeats 1000000 in
theorem puint_ok (p : Nat) (v : Value) (n M E : Int) (S : ByteArray) (w : World) (h : PW w p v M (Lib.strCells S) E) (hM0 : 0 ≤ M) (hM1 : M ≤ 9223372036854775807) (hb : S.size + 4 ≤ 140737488355328) (hw : (decide (0 ≤ n) && decide (n ≤ 4294967295)) = true) :
    Calls Tryd.prog 66 #[.pointer (some ⟨p, 0, none⟩), .int .i64 n] w (PWrote p v M (rlay M S E ⟨(byL 4 n).toArray⟩) w) := by
  obtain ⟨t, ht⟩ : ∃ t : ByteArray, t = ⟨(byL 4 n).toArray⟩ := ⟨_, rfl⟩
  have hts : t.size = 4 := by rw [ht, size_bytes, byL_len]
  have H : Hid (∀ q w1, Below w.heap.size w w1 → w.heap.size ≤ q → q < w1.heap.size → w1.cell? ⟨q, 0, none⟩ = some (.string t) → Calls Tryd.prog 97 #[.pointer (some ⟨p, 0, none⟩), .slice (some ⟨q, 0, none⟩) 1 1] w1 (PWrote p v M (rlay M S E t) w)) :=
    fun q w1 hB h0 h1 hc => lay_one p q v M E S t w w1 h hB h0 h1 hc hM0 hM1 (by rw [hts]; exact hb)
  have H1 : Hid (∀ z w, z = n % 4294967296 → Calls Tryd.prog 98 #[.int .u32 z] w fun e w' => e = .returned (.string t) ∧ Below w.heap.size w w') := fun z w hz => by
    have hz2 : z = ((n % 4294967296).toNat : Int) := by omega
    rw [hz2, ht]
    exact fourBytes_any (n % 4294967296).toNat w (by omega)
  have HG : Hid (∀ w, Calls Tryd.prog 99 #[.int .i64 n] w fun e w' => e = .returned (.bool true) ∧ w' = w) := fun w => hw ▸ isWord_any n w
  rw [← ht]
  clear h hM0 hM1 hb hts ht
  go_enter Tryd.func66, Tryd.ntmps66
  go_wp2_with fail
  refine (HG.out _).mono ?_
  rintro e w0 ⟨rfl, hw0⟩
  have hw1 := hw0.symm
  clear hw0
  subst hw1
  go_wp2_with fail
  refine (H1.out _ _ (by first | rfl | (rw [IntKind.wrap_u32]) | (simp [IntKind.wrap, IntKind.bits, IntKind.signed]) | omega)).mono ?_
  rintro e w1 ⟨rfl, hB⟩
  have HB : Hid (Below w.heap.size w w1) := hB
  clear hB
  go_wp2_with fail
  refine (H.out _ _ (HB.out.alloc HB.out.size _) HB.out.size (by simp) (by simp)).mono ?_
  intro e w2 hp
  obtain ⟨rfl, hp2⟩ := hp
  have HP : Hid (∃ v', PW w2 p v' M (Lib.strCells (rlay M S E t).1) (rlay M S E t).2 ∧ Kept p v v' w w2) := hp2
  clear hp2
  go_wp2
  first | go_end0 | refine bodyPost_ret (results_none rfl _ _ _) rfl ?_
  exact ⟨rfl, HP.out⟩

set_option maxHeartbeats 1000000 in
theorem puint_bad (p : Nat) (v : Value) (n M E : Int) (S : ByteArray) (w : World) (h : PW w p v M (Lib.strCells S) E) (hw : (decide (0 ≤ n) && decide (n ≤ 4294967295)) = false) :
    Calls Tryd.prog 66 #[.pointer (some ⟨p, 0, none⟩), .int .i64 n] w (PWrote p v M (S, firstE E 22) w) := by
  have H : Hid (Calls Tryd.prog 84 #[.pointer (some ⟨p, 0, none⟩), .int .i64 22] w (PWrote p v M (S, firstE E 22) w)) := pfail_any p v M E 22 S w h
  have HG : Hid (∀ w, Calls Tryd.prog 99 #[.int .i64 n] w fun e w' => e = .returned (.bool false) ∧ w' = w) := fun w => hw ▸ isWord_any n w
  clear h
  go_enter Tryd.func66, Tryd.ntmps66
  go_wp2_with fail
  refine (HG.out _).mono ?_
  rintro e w0 ⟨rfl, hw0⟩
  have hw1 := hw0.symm
  clear hw0
  subst hw1
  go_wp2_with fail
  refine H.out.mono ?_
  intro e w2 hp
  obtain ⟨rfl, hp2⟩ := hp
  have HP : Hid (∃ v', PW w2 p v' M (Lib.strCells (S, firstE E 22).1) (S, firstE E 22).2 ∧ Kept p v v' w w2) := hp2
  clear hp2
  go_wp2
  first | go_end0 | refine bodyPost_ret (results_none rfl _ _ _) rfl ?_
  exact ⟨rfl, HP.out⟩

set_option maxHeartbeats 1000000 in
theorem phyper (p : Nat) (v : Value) (n M E : Int) (S : ByteArray) (w : World) (h : PW w p v M (Lib.strCells S) E) (hM0 : 0 ≤ M) (hM1 : M ≤ 9223372036854775807) (hb : S.size + 8 ≤ 140737488355328) :
    Calls Tryd.prog 68 #[.pointer (some ⟨p, 0, none⟩), .int .i64 n] w (PWrote p v M (rlay M S E ⟨(byL 8 n).toArray⟩) w) := by
  obtain ⟨t, ht⟩ : ∃ t : ByteArray, t = ⟨(byL 8 n).toArray⟩ := ⟨_, rfl⟩
  have hts : t.size = 8 := by rw [ht, size_bytes, byL_len]
  have H : Hid (∀ q w1, Below w.heap.size w w1 → w.heap.size ≤ q → q < w1.heap.size → w1.cell? ⟨q, 0, none⟩ = some (.string t) → Calls Tryd.prog 97 #[.pointer (some ⟨p, 0, none⟩), .slice (some ⟨q, 0, none⟩) 1 1] w1 (PWrote p v M (rlay M S E t) w)) :=
    fun q w1 hB h0 h1 hc => lay_one p q v M E S t w w1 h hB h0 h1 hc hM0 hM1 (by rw [hts]; exact hb)
  have H1 : Hid (∀ z w, z = n % 18446744073709551616 → Calls Tryd.prog 110 #[.int .u64 z] w fun e w' => e = .returned (.string t) ∧ Below w.heap.size w w') := fun z w hz => by
    have hz2 : z = ((n % 18446744073709551616).toNat : Int) := by omega
    rw [hz2, ht]
    exact eightBytes_any (n % 18446744073709551616).toNat w (by omega)
  rw [← ht]
  clear h hM0 hM1 hb hts ht
  go_enter Tryd.func68, Tryd.ntmps68
  go_wp2_with fail
  refine (H1.out _ _ (by first | rfl | (rw [IntKind.wrap_u64]) | (simp [IntKind.wrap, IntKind.bits, IntKind.signed]) | omega)).mono ?_
  rintro e w1 ⟨rfl, hB⟩
  have HB : Hid (Below w.heap.size w w1) := hB
  clear hB
  go_wp2_with fail
  refine (H.out _ _ (HB.out.alloc HB.out.size _) HB.out.size (by simp) (by simp)).mono ?_
  intro e w2 hp
  obtain ⟨rfl, hp2⟩ := hp
  have HP : Hid (∃ v', PW w2 p v' M (Lib.strCells (rlay M S E t).1) (rlay M S E t).2 ∧ Kept p v v' w w2) := hp2
  clear hp2
  go_wp2
  first | go_end0 | refine bodyPost_ret (results_none rfl _ _ _) rfl ?_
  exact ⟨rfl, HP.out⟩

end Go.Proofs.YthnnmgiihpdblaaDoor
