/- The program's Writer: Bool, Count, numbers with a point. -/
import Derived.Test.YthnnmgiihpdblaaDoorXr
namespace Go.Proofs.YthnnmgiihpdblaaDoor
open Go.RowKit

set_option maxHeartbeats 1000000 in
theorem pbool_true (p : Nat) (v : Value) (M E : Int) (S : ByteArray) (w : World) (h : PW w p v M (Lib.strCells S) E) (hM0 : 0 ≤ M) (hM1 : M ≤ 9223372036854775807) (hb : S.size + 4 ≤ 140737488355328) :
    Calls Tryd.prog 70 #[.pointer (some ⟨p, 0, none⟩), .bool true] w (PWrote p v M (rlay M S E ⟨(byL 4 1).toArray⟩) w) := by
  have H : Hid (Calls Tryd.prog 66 #[.pointer (some ⟨p, 0, none⟩), .int .i64 1] w (PWrote p v M (rlay M S E ⟨(byL 4 1).toArray⟩) w)) := puint_ok p v 1 M E S w h hM0 hM1 hb (by decide)
  generalize rlay M S E ⟨(byL 4 1).toArray⟩ = r at H ⊢
  clear h hM0 hM1 hb
  go_enter Tryd.func70, Tryd.ntmps70
  go_wp2_with fail
  refine H.out.mono ?_
  intro e w2 hp
  obtain ⟨rfl, hp2⟩ := hp
  have HP : Hid (∃ v', PW w2 p v' M (Lib.strCells r.1) r.2 ∧ Kept p v v' w w2) := hp2
  clear hp2
  go_wp2
  first | go_end0 | refine bodyPost_ret (results_none rfl _ _ _) rfl ?_
  exact ⟨rfl, HP.out⟩

set_option maxHeartbeats 1000000 in
theorem pbool_false (p : Nat) (v : Value) (M E : Int) (S : ByteArray) (w : World) (h : PW w p v M (Lib.strCells S) E) (hM0 : 0 ≤ M) (hM1 : M ≤ 9223372036854775807) (hb : S.size + 4 ≤ 140737488355328) :
    Calls Tryd.prog 70 #[.pointer (some ⟨p, 0, none⟩), .bool false] w (PWrote p v M (rlay M S E ⟨(byL 4 0).toArray⟩) w) := by
  have H : Hid (Calls Tryd.prog 66 #[.pointer (some ⟨p, 0, none⟩), .int .i64 0] w (PWrote p v M (rlay M S E ⟨(byL 4 0).toArray⟩) w)) := puint_ok p v 0 M E S w h hM0 hM1 hb (by decide)
  generalize rlay M S E ⟨(byL 4 0).toArray⟩ = r at H ⊢
  clear h hM0 hM1 hb
  go_enter Tryd.func70, Tryd.ntmps70
  go_wp2_with fail
  refine H.out.mono ?_
  intro e w2 hp
  obtain ⟨rfl, hp2⟩ := hp
  have HP : Hid (∃ v', PW w2 p v' M (Lib.strCells r.1) r.2 ∧ Kept p v v' w w2) := hp2
  clear hp2
  go_wp2
  first | go_end0 | refine bodyPost_ret (results_none rfl _ _ _) rfl ?_
  exact ⟨rfl, HP.out⟩

set_option maxHeartbeats 1000000 in
theorem pcount_most (p : Nat) (v : Value) (m n M E : Int) (S : ByteArray) (w : World) (h : PW w p v M (Lib.strCells S) E) (hw : (decide (0 ≤ m) && decide (m ≤ 4294967295)) = false)  :
    Calls Tryd.prog 80 #[.pointer (some ⟨p, 0, none⟩), .int .i64 m, .int .i64 n] w (PWrote p v M (S, firstE E 22) w) := by
  have H : Hid (Calls Tryd.prog 84 #[.pointer (some ⟨p, 0, none⟩), .int .i64 22] w (PWrote p v M (S, firstE E 22) w)) := pfail_any p v M E 22 S w h
  have HG : Hid (∀ w, Calls Tryd.prog 99 #[.int .i64 m] w fun e w' => e = .returned (.bool false) ∧ w' = w) := fun w => hw ▸ isWord_any m w
  clear h hw
  go_enter Tryd.func80, Tryd.ntmps80
  go_wp2_with fail
  refine (HG.out _).mono ?_
  rintro e w0 ⟨rfl, hw0⟩
  have hw1 := hw0.symm
  clear hw0
  subst hw1
  go_wp2_with fail
  refine H.out.mono ?_
  intro e w2 hp
  obtain ⟨rfl, hp2⟩ := hp
  have HP : Hid (∃ v', PW w2 p v' M (Lib.strCells (S, firstE E 22).1) (S, firstE E 22).2 ∧ Kept p v v' w w2) := hp2
  clear hp2
  go_wp2
  first | go_end0 | refine bodyPost_ret (results_none rfl _ _ _) rfl ?_
  exact ⟨rfl, HP.out⟩

set_option maxHeartbeats 1000000 in
theorem pcount_neg (p : Nat) (v : Value) (m n M E : Int) (S : ByteArray) (w : World) (h : PW w p v M (Lib.strCells S) E) (hw : (decide (0 ≤ m) && decide (m ≤ 4294967295)) = true) (hn : n < 0) :
    Calls Tryd.prog 80 #[.pointer (some ⟨p, 0, none⟩), .int .i64 m, .int .i64 n] w (PWrote p v M (S, firstE E 22) w) := by
  have H : Hid (Calls Tryd.prog 84 #[.pointer (some ⟨p, 0, none⟩), .int .i64 22] w (PWrote p v M (S, firstE E 22) w)) := pfail_any p v M E 22 S w h
  have HG : Hid (∀ w, Calls Tryd.prog 99 #[.int .i64 m] w fun e w' => e = .returned (.bool true) ∧ w' = w) := fun w => hw ▸ isWord_any m w
  clear h hw
  go_enter Tryd.func80, Tryd.ntmps80
  go_wp2_with fail
  refine (HG.out _).mono ?_
  rintro e w0 ⟨rfl, hw0⟩
  have hw1 := hw0.symm
  clear hw0
  subst hw1
  go_wp2_with fail
  refine H.out.mono ?_
  intro e w2 hp
  obtain ⟨rfl, hp2⟩ := hp
  have HP : Hid (∃ v', PW w2 p v' M (Lib.strCells (S, firstE E 22).1) (S, firstE E 22).2 ∧ Kept p v v' w w2) := hp2
  clear hp2
  go_wp2
  first | go_end0 | refine bodyPost_ret (results_none rfl _ _ _) rfl ?_
  exact ⟨rfl, HP.out⟩

set_option maxHeartbeats 1000000 in
theorem pcount_long (p : Nat) (v : Value) (m n M E : Int) (S : ByteArray) (w : World) (h : PW w p v M (Lib.strCells S) E) (hw : (decide (0 ≤ m) && decide (m ≤ 4294967295)) = true) (hn : 0 ≤ n) (hl : m < n) :
    Calls Tryd.prog 80 #[.pointer (some ⟨p, 0, none⟩), .int .i64 m, .int .i64 n] w (PWrote p v M (S, firstE E 23) w) := by
  have H : Hid (Calls Tryd.prog 84 #[.pointer (some ⟨p, 0, none⟩), .int .i64 23] w (PWrote p v M (S, firstE E 23) w)) := pfail_any p v M E 23 S w h
  have HG : Hid (∀ w, Calls Tryd.prog 99 #[.int .i64 m] w fun e w' => e = .returned (.bool true) ∧ w' = w) := fun w => hw ▸ isWord_any m w
  clear h hw
  go_enter Tryd.func80, Tryd.ntmps80
  go_wp2_with fail
  refine (HG.out _).mono ?_
  rintro e w0 ⟨rfl, hw0⟩
  have hw1 := hw0.symm
  clear hw0
  subst hw1
  go_wp2_with fail
  refine H.out.mono ?_
  intro e w2 hp
  obtain ⟨rfl, hp2⟩ := hp
  have HP : Hid (∃ v', PW w2 p v' M (Lib.strCells (S, firstE E 23).1) (S, firstE E 23).2 ∧ Kept p v v' w w2) := hp2
  clear hp2
  go_wp2
  first | go_end0 | refine bodyPost_ret (results_none rfl _ _ _) rfl ?_
  exact ⟨rfl, HP.out⟩

set_option maxHeartbeats 1000000 in
theorem pcount_ok (p : Nat) (v : Value) (m n M E : Int) (S : ByteArray) (w : World) (h : PW w p v M (Lib.strCells S) E) (hM0 : 0 ≤ M) (hM1 : M ≤ 9223372036854775807) (hb : S.size + 4 ≤ 140737488355328) (hw : (decide (0 ≤ m) && decide (m ≤ 4294967295)) = true) (hn : 0 ≤ n) (hl : n ≤ m) :
    Calls Tryd.prog 80 #[.pointer (some ⟨p, 0, none⟩), .int .i64 m, .int .i64 n] w (PWrote p v M (rlay M S E ⟨(byL 4 n).toArray⟩) w) := by
  obtain ⟨t, ht⟩ : ∃ t : ByteArray, t = ⟨(byL 4 n).toArray⟩ := ⟨_, rfl⟩
  have hts : t.size = 4 := by rw [ht, size_bytes, byL_len]
  have H : Hid (∀ q w1, Below w.heap.size w w1 → w.heap.size ≤ q → q < w1.heap.size → w1.cell? ⟨q, 0, none⟩ = some (.string t) → Calls Tryd.prog 97 #[.pointer (some ⟨p, 0, none⟩), .slice (some ⟨q, 0, none⟩) 1 1] w1 (PWrote p v M (rlay M S E t) w)) :=
    fun q w1 hB h0 h1 hc => lay_one p q v M E S t w w1 h hB h0 h1 hc hM0 hM1 (by rw [hts]; exact hb)
  have H1 : Hid (∀ z w, z = n % 4294967296 → Calls Tryd.prog 98 #[.int .u32 z] w fun e w' => e = .returned (.string t) ∧ Below w.heap.size w w') := fun z w hz => by
    have hz2 : z = ((n % 4294967296).toNat : Int) := by omega
    rw [hz2, ht]
    exact fourBytes_any (n % 4294967296).toNat w (by omega)
  have HG : Hid (∀ w, Calls Tryd.prog 99 #[.int .i64 m] w fun e w' => e = .returned (.bool true) ∧ w' = w) := fun w => hw ▸ isWord_any m w
  rw [← ht]
  clear h hM0 hM1 hb hts ht hw
  go_enter Tryd.func80, Tryd.ntmps80
  go_wp2_with fail
  refine (HG.out _).mono ?_
  rintro e w0 ⟨rfl, hw0⟩
  have hw1 := hw0.symm
  clear hw0
  subst hw1
  go_wp2_with fail
  refine (H1.out _ _ (by first | rfl | (rw [IntKind.wrap_u32]) | (simp [IntKind.wrap, IntKind.bits, IntKind.signed]) | omega)).mono ?_
  rintro e w1 ⟨rfl, hB⟩
  have HB : Hid (Below w.heap.size w w1) := hB
  clear hB
  go_wp2_with fail
  refine (H.out _ _ (HB.out.alloc HB.out.size _) HB.out.size (by simp) (by simp)).mono ?_
  intro e w2 hp
  obtain ⟨rfl, hp2⟩ := hp
  have HP : Hid (∃ v', PW w2 p v' M (Lib.strCells (rlay M S E t).1) (rlay M S E t).2 ∧ Kept p v v' w w2) := hp2
  clear hp2
  go_wp2
  first | go_end0 | refine bodyPost_ret (results_none rfl _ _ _) rfl ?_
  exact ⟨rfl, HP.out⟩

set_option maxHeartbeats 1000000 in
theorem pfloat (p x : Nat) (v : Value) (M E : Int) (S : ByteArray) (w : World) (h : PW w p v M (Lib.strCells S) E) (hM0 : 0 ≤ M) (hM1 : M ≤ 9223372036854775807) (hb : S.size + 4 ≤ 140737488355328) (hx : x < 4294967296) (hc : c32 x < 4294967296) :
    Calls Tryd.prog 59 #[.pointer (some ⟨p, 0, none⟩), .float .f32 x] w (PWrote p v M (rlay M S E ⟨(beL 4 (c32 x)).toArray⟩) w) := by
  obtain ⟨t, ht⟩ : ∃ t : ByteArray, t = ⟨(beL 4 (c32 x)).toArray⟩ := ⟨_, rfl⟩
  have hts : t.size = 4 := by rw [ht, size_bytes, beL_len]
  obtain ⟨n, hn⟩ : ∃ n : Int, (c32 x : Int) = n := ⟨_, rfl⟩
  have H : Hid (∀ q w1, Below w.heap.size w w1 → w.heap.size ≤ q → q < w1.heap.size → w1.cell? ⟨q, 0, none⟩ = some (.string t) → Calls Tryd.prog 97 #[.pointer (some ⟨p, 0, none⟩), .slice (some ⟨q, 0, none⟩) 1 1] w1 (PWrote p v M (rlay M S E t) w)) :=
    fun q w1 hB h0 h1 hc => lay_one p q v M E S t w w1 h hB h0 h1 hc hM0 hM1 (by rw [hts]; exact hb)
  have H0 : Hid (∀ w, Calls Tryd.prog 19 #[.float .f32 x] w fun e w' => e = .returned (.int .u32 n) ∧ w' = w) := fun w => by
    have := rbits32 x w hx; rw [hn] at this; exact this
  have H1 : Hid (∀ w, Calls Tryd.prog 98 #[.int .u32 n] w fun e w' => e = .returned (.string t) ∧ Below w.heap.size w w') := fun w => by
    rw [← hn, ht]
    exact fourBytes_any (c32 x) w hc
  rw [← ht]
  clear h hM0 hM1 hb hts ht hn hx hc
  go_enter Tryd.func59, Tryd.ntmps59
  go_wp2_with fail
  refine (H0.out _).mono ?_
  rintro e w0 ⟨rfl, hw0⟩
  have hw1 := hw0.symm
  clear hw0
  subst hw1
  go_wp2_with fail
  refine (H1.out _).mono ?_
  rintro e w1 ⟨rfl, hB⟩
  have HB : Hid (Below w.heap.size w w1) := hB
  clear hB
  go_wp2_with fail
  refine (H.out _ _ (HB.out.alloc HB.out.size _) HB.out.size (by simp) (by simp)).mono ?_
  intro e w2 hp
  obtain ⟨rfl, hp2⟩ := hp
  have HP : Hid (∃ v', PW w2 p v' M (Lib.strCells (rlay M S E t).1) (rlay M S E t).2 ∧ Kept p v v' w w2) := hp2
  clear hp2
  go_wp2
  first | go_end0 | refine bodyPost_ret (results_none rfl _ _ _) rfl ?_
  exact ⟨rfl, HP.out⟩

set_option maxHeartbeats 1000000 in
theorem pdouble (p x : Nat) (v : Value) (M E : Int) (S : ByteArray) (w : World) (h : PW w p v M (Lib.strCells S) E) (hM0 : 0 ≤ M) (hM1 : M ≤ 9223372036854775807) (hb : S.size + 8 ≤ 140737488355328) (hx : x < 18446744073709551616) (hc : c64 x < 18446744073709551616) :
    Calls Tryd.prog 74 #[.pointer (some ⟨p, 0, none⟩), .float .f64 x] w (PWrote p v M (rlay M S E ⟨(beL 8 (c64 x)).toArray⟩) w) := by
  obtain ⟨t, ht⟩ : ∃ t : ByteArray, t = ⟨(beL 8 (c64 x)).toArray⟩ := ⟨_, rfl⟩
  have hts : t.size = 8 := by rw [ht, size_bytes, beL_len]
  obtain ⟨n, hn⟩ : ∃ n : Int, (c64 x : Int) = n := ⟨_, rfl⟩
  have H : Hid (∀ q w1, Below w.heap.size w w1 → w.heap.size ≤ q → q < w1.heap.size → w1.cell? ⟨q, 0, none⟩ = some (.string t) → Calls Tryd.prog 97 #[.pointer (some ⟨p, 0, none⟩), .slice (some ⟨q, 0, none⟩) 1 1] w1 (PWrote p v M (rlay M S E t) w)) :=
    fun q w1 hB h0 h1 hc => lay_one p q v M E S t w w1 h hB h0 h1 hc hM0 hM1 (by rw [hts]; exact hb)
  have H0 : Hid (∀ w, Calls Tryd.prog 18 #[.float .f64 x] w fun e w' => e = .returned (.int .u64 n) ∧ w' = w) := fun w => by
    have := rbits64 x w hx; rw [hn] at this; exact this
  have H1 : Hid (∀ w, Calls Tryd.prog 110 #[.int .u64 n] w fun e w' => e = .returned (.string t) ∧ Below w.heap.size w w') := fun w => by
    rw [← hn, ht]
    exact eightBytes_any (c64 x) w hc
  rw [← ht]
  clear h hM0 hM1 hb hts ht hn hx hc
  go_enter Tryd.func74, Tryd.ntmps74
  go_wp2_with fail
  refine (H0.out _).mono ?_
  rintro e w0 ⟨rfl, hw0⟩
  have hw1 := hw0.symm
  clear hw0
  subst hw1
  go_wp2_with fail
  refine (H1.out _).mono ?_
  rintro e w1 ⟨rfl, hB⟩
  have HB : Hid (Below w.heap.size w w1) := hB
  clear hB
  go_wp2_with fail
  refine (H.out _ _ (HB.out.alloc HB.out.size _) HB.out.size (by simp) (by simp)).mono ?_
  intro e w2 hp
  obtain ⟨rfl, hp2⟩ := hp
  have HP : Hid (∃ v', PW w2 p v' M (Lib.strCells (rlay M S E t).1) (rlay M S E t).2 ∧ Kept p v v' w w2) := hp2
  clear hp2
  go_wp2
  first | go_end0 | refine bodyPost_ret (results_none rfl _ _ _) rfl ?_
  exact ⟨rfl, HP.out⟩

end Go.Proofs.YthnnmgiihpdblaaDoor
