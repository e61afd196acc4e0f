/- The program's Writer: Int, Uint, Hyper. The program's Writer: Bool, Count, numbers with a point. The program's Writer: Fixed, Opaque, Len. -/
import Derived.Test.YtihcdahmfdijoaaGreatDoorHx4
namespace Go.Proofs.YtihcdahmfdijoaaGreatDoor
open Go.RowKit
theorem isWord_any (n : Int) (w : World) : Calls Tryz.prog 75 #[.int .i64 n] w fun e w' => e = .returned (.bool (decide (0 ≤ n) && decide (n ≤ 4294967295))) ∧ w' = w := by
  by_cases h0 : 0 ≤ n
  · by_cases h1 : n ≤ 4294967295
    · rw [decide_eq_true h0, decide_eq_true h1]
      go_enter Tryz.func75, Tryz.ntmps75
      go_wp2
      go_ret
      exact ⟨rfl, rfl⟩
    · rw [decide_eq_true h0, decide_eq_false h1]
      have h2 : decide (n ≤ 4294967295) = false := decide_eq_false h1
      go_enter Tryz.func75, Tryz.ntmps75
      go_wp2
      go_ret
      exact ⟨rfl, rfl⟩
  · rw [decide_eq_false h0]
    have h2 : decide (0 ≤ n) = false := decide_eq_false h0
    go_enter Tryz.func75, Tryz.ntmps75
    go_wp2
    go_ret
    exact ⟨rfl, rfl⟩

set_option maxHeartbeats 1000000 in
theorem puint_ok (p : Nat) (v : Value) (n M E : Int) (S : ByteArray) (w : World) (h : PW w p v M (Lib.strCells S) E) (hM0 : 0 ≤ M) (hM1 : M ≤ 9223372036854775807) (hb : S.size + 4 ≤ 140737488355328) (hw : (decide (0 ≤ n) && decide (n ≤ 4294967295)) = true) :
    Calls Tryz.prog 55 #[.pointer (some ⟨p, 0, none⟩), .int .i64 n] w (PWrote p v M (rlay M S E ⟨(byL 4 n).toArray⟩) w) := by
  obtain ⟨t, ht⟩ : ∃ t : ByteArray, t = ⟨(byL 4 n).toArray⟩ := ⟨_, rfl⟩
  have hts : t.size = 4 := by rw [ht, size_bytes, byL_len]
  have H : Hid (∀ q w1, Below w.heap.size w w1 → w.heap.size ≤ q → q < w1.heap.size → w1.cell? ⟨q, 0, none⟩ = some (.string t) → Calls Tryz.prog 76 #[.pointer (some ⟨p, 0, none⟩), .slice (some ⟨q, 0, none⟩) 1 1] w1 (PWrote p v M (rlay M S E t) w)) :=
    fun q w1 hB h0 h1 hc => lay_one p q v M E S t w w1 h hB h0 h1 hc hM0 hM1 (by rw [hts]; exact hb)
  have H1 : Hid (∀ z w, z = n % 4294967296 → Calls Tryz.prog 77 #[.int .u32 z] w fun e w' => e = .returned (.string t) ∧ Below w.heap.size w w') := fun z w hz => by
    have hz2 : z = ((n % 4294967296).toNat : Int) := by omega
    rw [hz2, ht]
    exact fourBytes_any (n % 4294967296).toNat w (by omega)
  have HG : Hid (∀ w, Calls Tryz.prog 75 #[.int .i64 n] w fun e w' => e = .returned (.bool true) ∧ w' = w) := fun w => hw ▸ isWord_any n w
  rw [← ht]
  clear h hM0 hM1 hb hts ht
  go_enter Tryz.func55, Tryz.ntmps55
  go_wp2_with fail
  refine (HG.out _).mono ?_
  rintro e w0 ⟨rfl, hw0⟩
  have hw1 := hw0.symm
  clear hw0
  subst hw1
  go_wp2_with fail
  refine (H1.out _ _ (by first | rfl | (rw [IntKind.wrap_u32]) | (simp [IntKind.wrap, IntKind.bits, IntKind.signed]) | omega)).mono ?_
  rintro e w1 ⟨rfl, hB⟩
  have HB : Hid (Below w.heap.size w w1) := hB
  clear hB
  go_wp2_with fail
  refine (H.out _ _ (HB.out.alloc HB.out.size _) HB.out.size (by simp) (by simp)).mono ?_
  intro e w2 hp
  obtain ⟨rfl, hp2⟩ := hp
  have HP : Hid (∃ v', PW w2 p v' M (Lib.strCells (rlay M S E t).1) (rlay M S E t).2 ∧ Kept p v v' w w2) := hp2
  clear hp2
  go_wp2
  first | go_end0 | refine bodyPost_ret (results_none rfl _ _ _) rfl ?_
  exact ⟨rfl, HP.out⟩

set_option maxHeartbeats 1000000 in
theorem puint_bad (p : Nat) (v : Value) (n M E : Int) (S : ByteArray) (w : World) (h : PW w p v M (Lib.strCells S) E) (hw : (decide (0 ≤ n) && decide (n ≤ 4294967295)) = false) :
    Calls Tryz.prog 55 #[.pointer (some ⟨p, 0, none⟩), .int .i64 n] w (PWrote p v M (S, firstE E 22) w) := by
  have H : Hid (Calls Tryz.prog 59 #[.pointer (some ⟨p, 0, none⟩), .int .i64 22] w (PWrote p v M (S, firstE E 22) w)) := pfail_any p v M E 22 S w h
  have HG : Hid (∀ w, Calls Tryz.prog 75 #[.int .i64 n] w fun e w' => e = .returned (.bool false) ∧ w' = w) := fun w => hw ▸ isWord_any n w
  clear h
  go_enter Tryz.func55, Tryz.ntmps55
  go_wp2_with fail
  refine (HG.out _).mono ?_
  rintro e w0 ⟨rfl, hw0⟩
  have hw1 := hw0.symm
  clear hw0
  subst hw1
  go_wp2_with fail
  refine H.out.mono ?_
  intro e w2 hp
  obtain ⟨rfl, hp2⟩ := hp
  have HP : Hid (∃ v', PW w2 p v' M (Lib.strCells (S, firstE E 22).1) (S, firstE E 22).2 ∧ Kept p v v' w w2) := hp2
  clear hp2
  go_wp2
  first | go_end0 | refine bodyPost_ret (results_none rfl _ _ _) rfl ?_
  exact ⟨rfl, HP.out⟩

set_option maxHeartbeats 1000000 in
theorem phyper (p : Nat) (v : Value) (n M E : Int) (S : ByteArray) (w : World) (h : PW w p v M (Lib.strCells S) E) (hM0 : 0 ≤ M) (hM1 : M ≤ 9223372036854775807) (hb : S.size + 8 ≤ 140737488355328) :
    Calls Tryz.prog 60 #[.pointer (some ⟨p, 0, none⟩), .int .i64 n] w (PWrote p v M (rlay M S E ⟨(byL 8 n).toArray⟩) w) := by
  obtain ⟨t, ht⟩ : ∃ t : ByteArray, t = ⟨(byL 8 n).toArray⟩ := ⟨_, rfl⟩
  have hts : t.size = 8 := by rw [ht, size_bytes, byL_len]
  have H : Hid (∀ q w1, Below w.heap.size w w1 → w.heap.size ≤ q → q < w1.heap.size → w1.cell? ⟨q, 0, none⟩ = some (.string t) → Calls Tryz.prog 76 #[.pointer (some ⟨p, 0, none⟩), .slice (some ⟨q, 0, none⟩) 1 1] w1 (PWrote p v M (rlay M S E t) w)) :=
    fun q w1 hB h0 h1 hc => lay_one p q v M E S t w w1 h hB h0 h1 hc hM0 hM1 (by rw [hts]; exact hb)
  have H1 : Hid (∀ z w, z = n % 18446744073709551616 → Calls Tryz.prog 78 #[.int .u64 z] w fun e w' => e = .returned (.string t) ∧ Below w.heap.size w w') := fun z w hz => by
    have hz2 : z = ((n % 18446744073709551616).toNat : Int) := by omega
    rw [hz2, ht]
    exact eightBytes_any (n % 18446744073709551616).toNat w (by omega)
  rw [← ht]
  clear h hM0 hM1 hb hts ht
  go_enter Tryz.func60, Tryz.ntmps60
  go_wp2_with fail
  refine (H1.out _ _ (by first | rfl | (rw [IntKind.wrap_u64]) | (simp [IntKind.wrap, IntKind.bits, IntKind.signed]) | omega)).mono ?_
  rintro e w1 ⟨rfl, hB⟩
  have HB : Hid (Below w.heap.size w w1) := hB
  clear hB
  go_wp2_with fail
  refine (H.out _ _ (HB.out.alloc HB.out.size _) HB.out.size (by simp) (by simp)).mono ?_
  intro e w2 hp
  obtain ⟨rfl, hp2⟩ := hp
  have HP : Hid (∃ v', PW w2 p v' M (Lib.strCells (rlay M S E t).1) (rlay M S E t).2 ∧ Kept p v v' w w2) := hp2
  clear hp2
  go_wp2
  first | go_end0 | refine bodyPost_ret (results_none rfl _ _ _) rfl ?_
  exact ⟨rfl, HP.out⟩



end Go.Proofs.YtihcdahmfdijoaaGreatDoor
namespace Go.Proofs.YtihcdahmfdijoaaGreatDoor
open Go.RowKit
set_option maxHeartbeats 1000000 in
theorem pcount_long (p : Nat) (v : Value) (m n M E : Int) (S : ByteArray) (w : World) (h : PW w p v M (Lib.strCells S) E) (hw : (decide (0 ≤ m) && decide (m ≤ 4294967295)) = true) (hn : 0 ≤ n) (hl : m < n) :
    Calls Tryz.prog 57 #[.pointer (some ⟨p, 0, none⟩), .int .i64 m, .int .i64 n] w (PWrote p v M (S, firstE E 23) w) := by
  have H : Hid (Calls Tryz.prog 59 #[.pointer (some ⟨p, 0, none⟩), .int .i64 23] w (PWrote p v M (S, firstE E 23) w)) := pfail_any p v M E 23 S w h
  have HG : Hid (∀ w, Calls Tryz.prog 75 #[.int .i64 m] w fun e w' => e = .returned (.bool true) ∧ w' = w) := fun w => hw ▸ isWord_any m w
  clear h hw
  go_enter Tryz.func57, Tryz.ntmps57
  go_wp2_with fail
  refine (HG.out _).mono ?_
  rintro e w0 ⟨rfl, hw0⟩
  have hw1 := hw0.symm
  clear hw0
  subst hw1
  go_wp2_with fail
  refine H.out.mono ?_
  intro e w2 hp
  obtain ⟨rfl, hp2⟩ := hp
  have HP : Hid (∃ v', PW w2 p v' M (Lib.strCells (S, firstE E 23).1) (S, firstE E 23).2 ∧ Kept p v v' w w2) := hp2
  clear hp2
  go_wp2
  first | go_end0 | refine bodyPost_ret (results_none rfl _ _ _) rfl ?_
  exact ⟨rfl, HP.out⟩

set_option maxHeartbeats 1000000 in
theorem pcount_ok (p : Nat) (v : Value) (m n M E : Int) (S : ByteArray) (w : World) (h : PW w p v M (Lib.strCells S) E) (hM0 : 0 ≤ M) (hM1 : M ≤ 9223372036854775807) (hb : S.size + 4 ≤ 140737488355328) (hw : (decide (0 ≤ m) && decide (m ≤ 4294967295)) = true) (hn : 0 ≤ n) (hl : n ≤ m) :
    Calls Tryz.prog 57 #[.pointer (some ⟨p, 0, none⟩), .int .i64 m, .int .i64 n] w (PWrote p v M (rlay M S E ⟨(byL 4 n).toArray⟩) w) := by
  obtain ⟨t, ht⟩ : ∃ t : ByteArray, t = ⟨(byL 4 n).toArray⟩ := ⟨_, rfl⟩
  have hts : t.size = 4 := by rw [ht, size_bytes, byL_len]
  have H : Hid (∀ q w1, Below w.heap.size w w1 → w.heap.size ≤ q → q < w1.heap.size → w1.cell? ⟨q, 0, none⟩ = some (.string t) → Calls Tryz.prog 76 #[.pointer (some ⟨p, 0, none⟩), .slice (some ⟨q, 0, none⟩) 1 1] w1 (PWrote p v M (rlay M S E t) w)) :=
    fun q w1 hB h0 h1 hc => lay_one p q v M E S t w w1 h hB h0 h1 hc hM0 hM1 (by rw [hts]; exact hb)
  have H1 : Hid (∀ z w, z = n % 4294967296 → Calls Tryz.prog 77 #[.int .u32 z] w fun e w' => e = .returned (.string t) ∧ Below w.heap.size w w') := fun z w hz => by
    have hz2 : z = ((n % 4294967296).toNat : Int) := by omega
    rw [hz2, ht]
    exact fourBytes_any (n % 4294967296).toNat w (by omega)
  have HG : Hid (∀ w, Calls Tryz.prog 75 #[.int .i64 m] w fun e w' => e = .returned (.bool true) ∧ w' = w) := fun w => hw ▸ isWord_any m w
  rw [← ht]
  clear h hM0 hM1 hb hts ht hw
  go_enter Tryz.func57, Tryz.ntmps57
  go_wp2_with fail
  refine (HG.out _).mono ?_
  rintro e w0 ⟨rfl, hw0⟩
  have hw1 := hw0.symm
  clear hw0
  subst hw1
  go_wp2_with fail
  refine (H1.out _ _ (by first | rfl | (rw [IntKind.wrap_u32]) | (simp [IntKind.wrap, IntKind.bits, IntKind.signed]) | omega)).mono ?_
  rintro e w1 ⟨rfl, hB⟩
  have HB : Hid (Below w.heap.size w w1) := hB
  clear hB
  go_wp2_with fail
  refine (H.out _ _ (HB.out.alloc HB.out.size _) HB.out.size (by simp) (by simp)).mono ?_
  intro e w2 hp
  obtain ⟨rfl, hp2⟩ := hp
  have HP : Hid (∃ v', PW w2 p v' M (Lib.strCells (rlay M S E t).1) (rlay M S E t).2 ∧ Kept p v v' w w2) := hp2
  clear hp2
  go_wp2
  first | go_end0 | refine bodyPost_ret (results_none rfl _ _ _) rfl ?_
  exact ⟨rfl, HP.out⟩

end Go.Proofs.YtihcdahmfdijoaaGreatDoor
namespace Go.Proofs.YtihcdahmfdijoaaGreatDoor
open Go.RowKit
set_option maxHeartbeats 1000000 in
theorem popaque_long (p : Nat) (v : Value) (m M E : Int) (S s : ByteArray) (w : World) (h : PW w p v M (Lib.strCells S) E) (hw : (decide (0 ≤ m) && decide (m ≤ 4294967295)) = true) (hl : m < (s.size : Int)) :
    Calls Tryz.prog 56 #[.pointer (some ⟨p, 0, none⟩), .int .i64 m, .string s] w (PWrote p v M (S, firstE E 23) w) := by
  have H : Hid (Calls Tryz.prog 59 #[.pointer (some ⟨p, 0, none⟩), .int .i64 23] w (PWrote p v M (S, firstE E 23) w)) := pfail_any p v M E 23 S w h
  have HG : Hid (∀ w, Calls Tryz.prog 75 #[.int .i64 m] w fun e w' => e = .returned (.bool true) ∧ w' = w) := fun w => hw ▸ isWord_any m w
  clear h hw
  go_enter Tryz.func56, Tryz.ntmps56
  go_wp2_with fail
  refine (HG.out _).mono ?_
  rintro e w0 ⟨rfl, hw0⟩
  have hw1 := hw0.symm
  clear hw0
  subst hw1
  go_wp2_with fail
  refine H.out.mono ?_
  intro e w2 hp
  obtain ⟨rfl, hp2⟩ := hp
  have HP : Hid (∃ v', PW w2 p v' M (Lib.strCells (S, firstE E 23).1) (S, firstE E 23).2 ∧ Kept p v v' w w2) := hp2
  clear hp2
  go_wp2
  first | go_end0 | refine bodyPost_ret (results_none rfl _ _ _) rfl ?_
  exact ⟨rfl, HP.out⟩

set_option maxHeartbeats 1000000 in
theorem popaque_ok (p : Nat) (v : Value) (m M E : Int) (S s : ByteArray) (w : World) (h : PW w p v M (Lib.strCells S) E) (hM0 : 0 ≤ M) (hM1 : M ≤ 9223372036854775807) (hb : S.size + (s.size + 7) ≤ 140737488355328) (hw : (decide (0 ≤ m) && decide (m ≤ 4294967295)) = true) (hl : (s.size : Int) ≤ m) :
    Calls Tryz.prog 56 #[.pointer (some ⟨p, 0, none⟩), .int .i64 m, .string s] w (PWrote p v M (rlay M S E (⟨(byL 4 (s.size : Int)).toArray⟩ ++ s ++ ⟨(padL s.size).toArray⟩)) w) := by
  obtain ⟨t, ht⟩ : ∃ t : ByteArray, t = ⟨(padL s.size).toArray⟩ := ⟨_, rfl⟩
  obtain ⟨u, hu⟩ : ∃ u : ByteArray, u = ⟨(byL 4 (s.size : Int)).toArray⟩ := ⟨_, rfl⟩
  have hts : t.size ≤ 3 := by rw [ht, size_bytes]; exact padL_len s.size
  have hus : u.size = 4 := by rw [hu, size_bytes, byL_len]
  have H : Hid (∀ q w1, Below w.heap.size w w1 → w.heap.size ≤ q → q < w1.heap.size → w1.cell? ⟨q, 0, none⟩ = some (.string u) → w1.cell? ⟨q, 1, none⟩ = some (.string s) → w1.cell? ⟨q, 2, none⟩ = some (.string t) → Calls Tryz.prog 76 #[.pointer (some ⟨p, 0, none⟩), .slice (some ⟨q, 0, none⟩) 3 3] w1 (PWrote p v M (rlay M S E (u ++ s ++ t)) w)) :=
    fun q w1 hB h0 h1 hc hc1 hc2 => lay_three p q v M E S u s t w w1 h hB h0 h1 hc hc1 hc2 hM0 hM1 (by omega)
  have H1 : Hid (∀ w, Calls Tryz.prog 65 #[.int .i64 (s.size : Int)] w fun e w' => e = .returned (.string t) ∧ w' = w) := fun w => by
    rw [ht]
    exact padding_any s.size w (by omega)
  have H0 : Hid (∀ z w, z = (s.size : Int) % 4294967296 → Calls Tryz.prog 77 #[.int .u32 z] w fun e w' => e = .returned (.string u) ∧ Below w.heap.size w w') := fun z w hz => by
    have hz2 : z = (((s.size : Int) % 4294967296).toNat : Int) := by omega
    rw [hz2, hu]
    exact fourBytes_any ((s.size : Int) % 4294967296).toNat w (by omega)
  have HG : Hid (∀ w, Calls Tryz.prog 75 #[.int .i64 m] w fun e w' => e = .returned (.bool true) ∧ w' = w) := fun w => hw ▸ isWord_any m w
  rw [← ht, ← hu]
  clear h hM0 hM1 hb hts ht hu hus hw
  generalize rlay M S E (u ++ s ++ t) = r at H ⊢
  go_enter Tryz.func56, Tryz.ntmps56
  go_wp2_with fail
  refine (HG.out _).mono ?_
  rintro e w0 ⟨rfl, hw0⟩
  have hw1 := hw0.symm
  clear hw0
  subst hw1
  go_wp2_with fail
  refine (H0.out _ _ (by first | rfl | (rw [IntKind.wrap_u32]) | (simp [IntKind.wrap, IntKind.bits, IntKind.signed]) | omega)).mono ?_
  rintro e w1 ⟨rfl, hB⟩
  have HB : Hid (Below w.heap.size w w1) := hB
  clear hB
  go_wp2_with fail
  refine (H1.out _).mono ?_
  rintro e w0 ⟨rfl, hw0⟩
  have hw1 := hw0.symm
  clear hw0
  subst hw1
  go_wp2_with fail
  refine (H.out _ _ (HB.out.alloc HB.out.size _) HB.out.size (by simp) (by simp) (by simp) (by simp)).mono ?_
  intro e w2 hp
  obtain ⟨rfl, hp2⟩ := hp
  have HP : Hid (∃ v', PW w2 p v' M (Lib.strCells r.1) r.2 ∧ Kept p v v' w w2) := hp2
  clear hp2
  go_wp2
  first | go_end0 | refine bodyPost_ret (results_none rfl _ _ _) rfl ?_
  exact ⟨rfl, HP.out⟩

end Go.Proofs.YtihcdahmfdijoaaGreatDoor
