/- The program's Writer: laying of one part, of two, of three that were just put together; Raw. The program's Writer: Int, Uint, Hyper. The program's Writer: Bool, Count, numbers with a point. The program's Writer: Fixed, Opaque, Len. The program's Writer: Done. Both Writers: new ones; are both alike? Both Writers at once: one call of both. One call of both Writers: the document's answer. -/
import Derived.Test.YtfcbjcebkahehaaGreatDoorZab
namespace Go.Proofs.YtfcbjcebkahehaaGreatDoor
open Go.RowKit
theorem PWrote.behind {p : Nat} {v : Value} {M : Int} {r : ByteArray × Int} {w w1 : World} {e : Ending} {w' : World} (hB : Below w.heap.size w w1) (h : PWrote p v M r w1 e w') : PWrote p v M r w e w' := by
  obtain ⟨h1, v', h2, h3⟩ := h
  exact ⟨h1, v', h2, (Kept.of_below hB).trans h3⟩

theorem lay_list (p q m : Nat) (v : Value) (M E : Int) (S J : ByteArray) (ps : List ByteArray) (w w1 : World) (h : PW w p v M (Lib.strCells S) E) (hB : Below w.heap.size w w1) (hq0 : w.heap.size ≤ q) (hq1 : q < w1.heap.size)
    (hc : ∀ j, j < ps.length → w1.cell? ⟨q, j, none⟩ = some (.string (ps.getD j ⟨#[]⟩))) (hps : ps.length = m) (hm : m ≤ 100) (hJ : cellsOf ps ps.length = Lib.strCells J) (hM0 : 0 ≤ M) (hM1 : M ≤ 9223372036854775807) (hb : S.size + J.size ≤ 140737488355328) :
    Calls Tryz.prog 156 #[.pointer (some ⟨p, 0, none⟩), .slice (some ⟨q, 0, none⟩) m m] w1 (PWrote p v M (rlay M S E J) w) := by
  have hlt := h.lt
  refine (lay_any p q m v M E S J ps w1 (h.below hB) hc hq1 (by omega) (fun e => ?_) hps hm hJ hM0 hM1 hb).mono fun e w' hp => hp.behind hB
  have := (h.own.lt q e.symm).2
  omega

theorem lay_one (p q : Nat) (v : Value) (M E : Int) (S s : ByteArray) (w w1 : World) (h : PW w p v M (Lib.strCells S) E) (hB : Below w.heap.size w w1) (hq0 : w.heap.size ≤ q) (hq1 : q < w1.heap.size)
    (hc : w1.cell? ⟨q, 0, none⟩ = some (.string s)) (hM0 : 0 ≤ M) (hM1 : M ≤ 9223372036854775807) (hb : S.size + s.size ≤ 140737488355328) :
    Calls Tryz.prog 156 #[.pointer (some ⟨p, 0, none⟩), .slice (some ⟨q, 0, none⟩) 1 1] w1 (PWrote p v M (rlay M S E s) w) :=
  lay_list p q 1 v M E S s [s] w w1 h hB hq0 hq1 (fun j hj => by obtain rfl : j = 0 := by simp at hj; omega
                                                                 exact hc) rfl (by omega) (by simp [cellsOf]) hM0 hM1 hb

theorem lay_three (p q : Nat) (v : Value) (M E : Int) (S s t u : ByteArray) (w w1 : World) (h : PW w p v M (Lib.strCells S) E) (hB : Below w.heap.size w w1) (hq0 : w.heap.size ≤ q) (hq1 : q < w1.heap.size)
    (hc : w1.cell? ⟨q, 0, none⟩ = some (.string s)) (hc1 : w1.cell? ⟨q, 1, none⟩ = some (.string t)) (hc2 : w1.cell? ⟨q, 2, none⟩ = some (.string u)) (hM0 : 0 ≤ M) (hM1 : M ≤ 9223372036854775807) (hb : S.size + (s.size + t.size + u.size) ≤ 140737488355328) :
    Calls Tryz.prog 156 #[.pointer (some ⟨p, 0, none⟩), .slice (some ⟨q, 0, none⟩) 3 3] w1 (PWrote p v M (rlay M S E (s ++ t ++ u)) w) :=
  lay_list p q 3 v M E S (s ++ t ++ u) [s, t, u] w w1 h hB hq0 hq1 (fun j hj => by
    obtain rfl | rfl | rfl : j = 0 ∨ j = 1 ∨ j = 2 := by simp at hj; omega
    · exact hc
    · exact hc1
    · exact hc2) rfl (by omega) (by simp [cellsOf, Lib.strCells]) hM0 hM1 (by rw [ByteArray.size_append, ByteArray.size_append]; exact hb)


end Go.Proofs.YtfcbjcebkahehaaGreatDoor
namespace Go.Proofs.YtfcbjcebkahehaaGreatDoor
open Go.RowKit
theorem isWord_any (n : Int) (w : World) : Calls Tryz.prog 155 #[.int .i64 n] w fun e w' => e = .returned (.bool (decide (0 ≤ n) && decide (n ≤ 4294967295))) ∧ w' = w := by
  by_cases h0 : 0 ≤ n
  · by_cases h1 : n ≤ 4294967295
    · rw [decide_eq_true h0, decide_eq_true h1]
      go_enter Tryz.func155, Tryz.ntmps155
      go_wp2
      go_ret
      exact ⟨rfl, rfl⟩
    · rw [decide_eq_true h0, decide_eq_false h1]
      have h2 : decide (n ≤ 4294967295) = false := decide_eq_false h1
      go_enter Tryz.func155, Tryz.ntmps155
      go_wp2
      go_ret
      exact ⟨rfl, rfl⟩
  · rw [decide_eq_false h0]
    have h2 : decide (0 ≤ n) = false := decide_eq_false h0
    go_enter Tryz.func155, Tryz.ntmps155
    go_wp2
    go_ret
    exact ⟨rfl, rfl⟩

set_option maxHeartbeats 1000000 in
theorem puint_ok (p : Nat) (v : Value) (n M E : Int) (S : ByteArray) (w : World) (h : PW w p v M (Lib.strCells S) E) (hM0 : 0 ≤ M) (hM1 : M ≤ 9223372036854775807) (hb : S.size + 4 ≤ 140737488355328) (hw : (decide (0 ≤ n) && decide (n ≤ 4294967295)) = true) :
    Calls Tryz.prog 116 #[.pointer (some ⟨p, 0, none⟩), .int .i64 n] w (PWrote p v M (rlay M S E ⟨(byL 4 n).toArray⟩) w) := by
  obtain ⟨t, ht⟩ : ∃ t : ByteArray, t = ⟨(byL 4 n).toArray⟩ := ⟨_, rfl⟩
  have hts : t.size = 4 := by rw [ht, size_bytes, byL_len]
  have H : Hid (∀ q w1, Below w.heap.size w w1 → w.heap.size ≤ q → q < w1.heap.size → w1.cell? ⟨q, 0, none⟩ = some (.string t) → Calls Tryz.prog 156 #[.pointer (some ⟨p, 0, none⟩), .slice (some ⟨q, 0, none⟩) 1 1] w1 (PWrote p v M (rlay M S E t) w)) :=
    fun q w1 hB h0 h1 hc => lay_one p q v M E S t w w1 h hB h0 h1 hc hM0 hM1 (by rw [hts]; exact hb)
  have H1 : Hid (∀ z w, z = n % 4294967296 → Calls Tryz.prog 157 #[.int .u32 z] w fun e w' => e = .returned (.string t) ∧ Below w.heap.size w w') := fun z w hz => by
    have hz2 : z = ((n % 4294967296).toNat : Int) := by omega
    rw [hz2, ht]
    exact fourBytes_any (n % 4294967296).toNat w (by omega)
  have HG : Hid (∀ w, Calls Tryz.prog 155 #[.int .i64 n] w fun e w' => e = .returned (.bool true) ∧ w' = w) := fun w => hw ▸ isWord_any n w
  rw [← ht]
  clear h hM0 hM1 hb hts ht
  go_enter Tryz.func116, Tryz.ntmps116
  go_wp2_with fail
  refine (HG.out _).mono ?_
  rintro e w0 ⟨rfl, hw0⟩
  have hw1 := hw0.symm
  clear hw0
  subst hw1
  go_wp2_with fail
  refine (H1.out _ _ (by first | rfl | (rw [IntKind.wrap_u32]) | (simp [IntKind.wrap, IntKind.bits, IntKind.signed]) | omega)).mono ?_
  rintro e w1 ⟨rfl, hB⟩
  have HB : Hid (Below w.heap.size w w1) := hB
  clear hB
  go_wp2_with fail
  refine (H.out _ _ (HB.out.alloc HB.out.size _) HB.out.size (by simp) (by simp)).mono ?_
  intro e w2 hp
  obtain ⟨rfl, hp2⟩ := hp
  have HP : Hid (∃ v', PW w2 p v' M (Lib.strCells (rlay M S E t).1) (rlay M S E t).2 ∧ Kept p v v' w w2) := hp2
  clear hp2
  go_wp2
  first | go_end0 | refine bodyPost_ret (results_none rfl _ _ _) rfl ?_
  exact ⟨rfl, HP.out⟩

set_option maxHeartbeats 1000000 in
theorem puint_bad (p : Nat) (v : Value) (n M E : Int) (S : ByteArray) (w : World) (h : PW w p v M (Lib.strCells S) E) (hw : (decide (0 ≤ n) && decide (n ≤ 4294967295)) = false) :
    Calls Tryz.prog 116 #[.pointer (some ⟨p, 0, none⟩), .int .i64 n] w (PWrote p v M (S, firstE E 22) w) := by
  have H : Hid (Calls Tryz.prog 115 #[.pointer (some ⟨p, 0, none⟩), .int .i64 22] w (PWrote p v M (S, firstE E 22) w)) := pfail_any p v M E 22 S w h
  have HG : Hid (∀ w, Calls Tryz.prog 155 #[.int .i64 n] w fun e w' => e = .returned (.bool false) ∧ w' = w) := fun w => hw ▸ isWord_any n w
  clear h
  go_enter Tryz.func116, Tryz.ntmps116
  go_wp2_with fail
  refine (HG.out _).mono ?_
  rintro e w0 ⟨rfl, hw0⟩
  have hw1 := hw0.symm
  clear hw0
  subst hw1
  go_wp2_with fail
  refine H.out.mono ?_
  intro e w2 hp
  obtain ⟨rfl, hp2⟩ := hp
  have HP : Hid (∃ v', PW w2 p v' M (Lib.strCells (S, firstE E 22).1) (S, firstE E 22).2 ∧ Kept p v v' w w2) := hp2
  clear hp2
  go_wp2
  first | go_end0 | refine bodyPost_ret (results_none rfl _ _ _) rfl ?_
  exact ⟨rfl, HP.out⟩

set_option maxHeartbeats 1000000 in
theorem phyper (p : Nat) (v : Value) (n M E : Int) (S : ByteArray) (w : World) (h : PW w p v M (Lib.strCells S) E) (hM0 : 0 ≤ M) (hM1 : M ≤ 9223372036854775807) (hb : S.size + 8 ≤ 140737488355328) :
    Calls Tryz.prog 168 #[.pointer (some ⟨p, 0, none⟩), .int .i64 n] w (PWrote p v M (rlay M S E ⟨(byL 8 n).toArray⟩) w) := by
  obtain ⟨t, ht⟩ : ∃ t : ByteArray, t = ⟨(byL 8 n).toArray⟩ := ⟨_, rfl⟩
  have hts : t.size = 8 := by rw [ht, size_bytes, byL_len]
  have H : Hid (∀ q w1, Below w.heap.size w w1 → w.heap.size ≤ q → q < w1.heap.size → w1.cell? ⟨q, 0, none⟩ = some (.string t) → Calls Tryz.prog 156 #[.pointer (some ⟨p, 0, none⟩), .slice (some ⟨q, 0, none⟩) 1 1] w1 (PWrote p v M (rlay M S E t) w)) :=
    fun q w1 hB h0 h1 hc => lay_one p q v M E S t w w1 h hB h0 h1 hc hM0 hM1 (by rw [hts]; exact hb)
  have H1 : Hid (∀ z w, z = n % 18446744073709551616 → Calls Tryz.prog 183 #[.int .u64 z] w fun e w' => e = .returned (.string t) ∧ Below w.heap.size w w') := fun z w hz => by
    have hz2 : z = ((n % 18446744073709551616).toNat : Int) := by omega
    rw [hz2, ht]
    exact eightBytes_any (n % 18446744073709551616).toNat w (by omega)
  rw [← ht]
  clear h hM0 hM1 hb hts ht
  go_enter Tryz.func168, Tryz.ntmps168
  go_wp2_with fail
  refine (H1.out _ _ (by first | rfl | (rw [IntKind.wrap_u64]) | (simp [IntKind.wrap, IntKind.bits, IntKind.signed]) | omega)).mono ?_
  rintro e w1 ⟨rfl, hB⟩
  have HB : Hid (Below w.heap.size w w1) := hB
  clear hB
  go_wp2_with fail
  refine (H.out _ _ (HB.out.alloc HB.out.size _) HB.out.size (by simp) (by simp)).mono ?_
  intro e w2 hp
  obtain ⟨rfl, hp2⟩ := hp
  have HP : Hid (∃ v', PW w2 p v' M (Lib.strCells (rlay M S E t).1) (rlay M S E t).2 ∧ Kept p v v' w w2) := hp2
  clear hp2
  go_wp2
  first | go_end0 | refine bodyPost_ret (results_none rfl _ _ _) rfl ?_
  exact ⟨rfl, HP.out⟩



end Go.Proofs.YtfcbjcebkahehaaGreatDoor
namespace Go.Proofs.YtfcbjcebkahehaaGreatDoor
open Go.RowKit
set_option maxHeartbeats 1000000 in
theorem pcount_long (p : Nat) (v : Value) (m n M E : Int) (S : ByteArray) (w : World) (h : PW w p v M (Lib.strCells S) E) (hw : (decide (0 ≤ m) && decide (m ≤ 4294967295)) = true) (hn : 0 ≤ n) (hl : m < n) :
    Calls Tryz.prog 120 #[.pointer (some ⟨p, 0, none⟩), .int .i64 m, .int .i64 n] w (PWrote p v M (S, firstE E 23) w) := by
  have H : Hid (Calls Tryz.prog 115 #[.pointer (some ⟨p, 0, none⟩), .int .i64 23] w (PWrote p v M (S, firstE E 23) w)) := pfail_any p v M E 23 S w h
  have HG : Hid (∀ w, Calls Tryz.prog 155 #[.int .i64 m] w fun e w' => e = .returned (.bool true) ∧ w' = w) := fun w => hw ▸ isWord_any m w
  clear h hw
  go_enter Tryz.func120, Tryz.ntmps120
  go_wp2_with fail
  refine (HG.out _).mono ?_
  rintro e w0 ⟨rfl, hw0⟩
  have hw1 := hw0.symm
  clear hw0
  subst hw1
  go_wp2_with fail
  refine H.out.mono ?_
  intro e w2 hp
  obtain ⟨rfl, hp2⟩ := hp
  have HP : Hid (∃ v', PW w2 p v' M (Lib.strCells (S, firstE E 23).1) (S, firstE E 23).2 ∧ Kept p v v' w w2) := hp2
  clear hp2
  go_wp2
  first | go_end0 | refine bodyPost_ret (results_none rfl _ _ _) rfl ?_
  exact ⟨rfl, HP.out⟩

set_option maxHeartbeats 1000000 in
theorem pcount_ok (p : Nat) (v : Value) (m n M E : Int) (S : ByteArray) (w : World) (h : PW w p v M (Lib.strCells S) E) (hM0 : 0 ≤ M) (hM1 : M ≤ 9223372036854775807) (hb : S.size + 4 ≤ 140737488355328) (hw : (decide (0 ≤ m) && decide (m ≤ 4294967295)) = true) (hn : 0 ≤ n) (hl : n ≤ m) :
    Calls Tryz.prog 120 #[.pointer (some ⟨p, 0, none⟩), .int .i64 m, .int .i64 n] w (PWrote p v M (rlay M S E ⟨(byL 4 n).toArray⟩) w) := by
  obtain ⟨t, ht⟩ : ∃ t : ByteArray, t = ⟨(byL 4 n).toArray⟩ := ⟨_, rfl⟩
  have hts : t.size = 4 := by rw [ht, size_bytes, byL_len]
  have H : Hid (∀ q w1, Below w.heap.size w w1 → w.heap.size ≤ q → q < w1.heap.size → w1.cell? ⟨q, 0, none⟩ = some (.string t) → Calls Tryz.prog 156 #[.pointer (some ⟨p, 0, none⟩), .slice (some ⟨q, 0, none⟩) 1 1] w1 (PWrote p v M (rlay M S E t) w)) :=
    fun q w1 hB h0 h1 hc => lay_one p q v M E S t w w1 h hB h0 h1 hc hM0 hM1 (by rw [hts]; exact hb)
  have H1 : Hid (∀ z w, z = n % 4294967296 → Calls Tryz.prog 157 #[.int .u32 z] w fun e w' => e = .returned (.string t) ∧ Below w.heap.size w w') := fun z w hz => by
    have hz2 : z = ((n % 4294967296).toNat : Int) := by omega
    rw [hz2, ht]
    exact fourBytes_any (n % 4294967296).toNat w (by omega)
  have HG : Hid (∀ w, Calls Tryz.prog 155 #[.int .i64 m] w fun e w' => e = .returned (.bool true) ∧ w' = w) := fun w => hw ▸ isWord_any m w
  rw [← ht]
  clear h hM0 hM1 hb hts ht hw
  go_enter Tryz.func120, Tryz.ntmps120
  go_wp2_with fail
  refine (HG.out _).mono ?_
  rintro e w0 ⟨rfl, hw0⟩
  have hw1 := hw0.symm
  clear hw0
  subst hw1
  go_wp2_with fail
  refine (H1.out _ _ (by first | rfl | (rw [IntKind.wrap_u32]) | (simp [IntKind.wrap, IntKind.bits, IntKind.signed]) | omega)).mono ?_
  rintro e w1 ⟨rfl, hB⟩
  have HB : Hid (Below w.heap.size w w1) := hB
  clear hB
  go_wp2_with fail
  refine (H.out _ _ (HB.out.alloc HB.out.size _) HB.out.size (by simp) (by simp)).mono ?_
  intro e w2 hp
  obtain ⟨rfl, hp2⟩ := hp
  have HP : Hid (∃ v', PW w2 p v' M (Lib.strCells (rlay M S E t).1) (rlay M S E t).2 ∧ Kept p v v' w w2) := hp2
  clear hp2
  go_wp2
  first | go_end0 | refine bodyPost_ret (results_none rfl _ _ _) rfl ?_
  exact ⟨rfl, HP.out⟩

end Go.Proofs.YtfcbjcebkahehaaGreatDoor
namespace Go.Proofs.YtfcbjcebkahehaaGreatDoor
open Go.RowKit
set_option maxHeartbeats 1000000 in
theorem popaque_long (p : Nat) (v : Value) (m M E : Int) (S s : ByteArray) (w : World) (h : PW w p v M (Lib.strCells S) E) (hw : (decide (0 ≤ m) && decide (m ≤ 4294967295)) = true) (hl : m < (s.size : Int)) :
    Calls Tryz.prog 122 #[.pointer (some ⟨p, 0, none⟩), .int .i64 m, .string s] w (PWrote p v M (S, firstE E 23) w) := by
  have H : Hid (Calls Tryz.prog 115 #[.pointer (some ⟨p, 0, none⟩), .int .i64 23] w (PWrote p v M (S, firstE E 23) w)) := pfail_any p v M E 23 S w h
  have HG : Hid (∀ w, Calls Tryz.prog 155 #[.int .i64 m] w fun e w' => e = .returned (.bool true) ∧ w' = w) := fun w => hw ▸ isWord_any m w
  clear h hw
  go_enter Tryz.func122, Tryz.ntmps122
  go_wp2_with fail
  refine (HG.out _).mono ?_
  rintro e w0 ⟨rfl, hw0⟩
  have hw1 := hw0.symm
  clear hw0
  subst hw1
  go_wp2_with fail
  refine H.out.mono ?_
  intro e w2 hp
  obtain ⟨rfl, hp2⟩ := hp
  have HP : Hid (∃ v', PW w2 p v' M (Lib.strCells (S, firstE E 23).1) (S, firstE E 23).2 ∧ Kept p v v' w w2) := hp2
  clear hp2
  go_wp2
  first | go_end0 | refine bodyPost_ret (results_none rfl _ _ _) rfl ?_
  exact ⟨rfl, HP.out⟩

set_option maxHeartbeats 1000000 in
theorem popaque_ok (p : Nat) (v : Value) (m M E : Int) (S s : ByteArray) (w : World) (h : PW w p v M (Lib.strCells S) E) (hM0 : 0 ≤ M) (hM1 : M ≤ 9223372036854775807) (hb : S.size + (s.size + 7) ≤ 140737488355328) (hw : (decide (0 ≤ m) && decide (m ≤ 4294967295)) = true) (hl : (s.size : Int) ≤ m) :
    Calls Tryz.prog 122 #[.pointer (some ⟨p, 0, none⟩), .int .i64 m, .string s] w (PWrote p v M (rlay M S E (⟨(byL 4 (s.size : Int)).toArray⟩ ++ s ++ ⟨(padL s.size).toArray⟩)) w) := by
  obtain ⟨t, ht⟩ : ∃ t : ByteArray, t = ⟨(padL s.size).toArray⟩ := ⟨_, rfl⟩
  obtain ⟨u, hu⟩ : ∃ u : ByteArray, u = ⟨(byL 4 (s.size : Int)).toArray⟩ := ⟨_, rfl⟩
  have hts : t.size ≤ 3 := by rw [ht, size_bytes]; exact padL_len s.size
  have hus : u.size = 4 := by rw [hu, size_bytes, byL_len]
  have H : Hid (∀ q w1, Below w.heap.size w w1 → w.heap.size ≤ q → q < w1.heap.size → w1.cell? ⟨q, 0, none⟩ = some (.string u) → w1.cell? ⟨q, 1, none⟩ = some (.string s) → w1.cell? ⟨q, 2, none⟩ = some (.string t) → Calls Tryz.prog 156 #[.pointer (some ⟨p, 0, none⟩), .slice (some ⟨q, 0, none⟩) 3 3] w1 (PWrote p v M (rlay M S E (u ++ s ++ t)) w)) :=
    fun q w1 hB h0 h1 hc hc1 hc2 => lay_three p q v M E S u s t w w1 h hB h0 h1 hc hc1 hc2 hM0 hM1 (by omega)
  have H1 : Hid (∀ w, Calls Tryz.prog 161 #[.int .i64 (s.size : Int)] w fun e w' => e = .returned (.string t) ∧ w' = w) := fun w => by
    rw [ht]
    exact padding_any s.size w (by omega)
  have H0 : Hid (∀ z w, z = (s.size : Int) % 4294967296 → Calls Tryz.prog 157 #[.int .u32 z] w fun e w' => e = .returned (.string u) ∧ Below w.heap.size w w') := fun z w hz => by
    have hz2 : z = (((s.size : Int) % 4294967296).toNat : Int) := by omega
    rw [hz2, hu]
    exact fourBytes_any ((s.size : Int) % 4294967296).toNat w (by omega)
  have HG : Hid (∀ w, Calls Tryz.prog 155 #[.int .i64 m] w fun e w' => e = .returned (.bool true) ∧ w' = w) := fun w => hw ▸ isWord_any m w
  rw [← ht, ← hu]
  clear h hM0 hM1 hb hts ht hu hus hw
  generalize rlay M S E (u ++ s ++ t) = r at H ⊢
  go_enter Tryz.func122, Tryz.ntmps122
  go_wp2_with fail
  refine (HG.out _).mono ?_
  rintro e w0 ⟨rfl, hw0⟩
  have hw1 := hw0.symm
  clear hw0
  subst hw1
  go_wp2_with fail
  refine (H0.out _ _ (by first | rfl | (rw [IntKind.wrap_u32]) | (simp [IntKind.wrap, IntKind.bits, IntKind.signed]) | omega)).mono ?_
  rintro e w1 ⟨rfl, hB⟩
  have HB : Hid (Below w.heap.size w w1) := hB
  clear hB
  go_wp2_with fail
  refine (H1.out _).mono ?_
  rintro e w0 ⟨rfl, hw0⟩
  have hw1 := hw0.symm
  clear hw0
  subst hw1
  go_wp2_with fail
  refine (H.out _ _ (HB.out.alloc HB.out.size _) HB.out.size (by simp) (by simp) (by simp) (by simp)).mono ?_
  intro e w2 hp
  obtain ⟨rfl, hp2⟩ := hp
  have HP : Hid (∃ v', PW w2 p v' M (Lib.strCells r.1) r.2 ∧ Kept p v v' w w2) := hp2
  clear hp2
  go_wp2
  first | go_end0 | refine bodyPost_ret (results_none rfl _ _ _) rfl ?_
  exact ⟨rfl, HP.out⟩

end Go.Proofs.YtfcbjcebkahehaaGreatDoor
namespace Go.Proofs.YtfcbjcebkahehaaGreatDoor
open Go.RowKit
set_option maxHeartbeats 1000000 in
theorem pdone_wrong (p : Nat) (v : Value) (M E : Int) (S : ByteArray) (w : World) (h : PW w p v M (Lib.strCells S) E) (hT : ErrT w) (hE : E ≠ 0) :
    Calls Tryz.prog 126 #[.pointer (some ⟨p, 0, none⟩)] w fun e w' => e = .returned (.tuple #[.string ⟨#[]⟩, .int .i64 E]) ∧ Below w.heap.size w w' := by
  have H0 : Hid (∀ w1, w1 = w → Calls Tryz.prog 134 #[.pointer (some ⟨p, 2, none⟩)] w1 fun r w' => r = .returned (.bool true) ∧ w' = w) := fun w1 e => by rw [e]; exact any_true p E w h.e hE
  have H1 : Hid (Calls Tryz.prog 135 #[.pointer (some ⟨p, 2, none⟩)] w fun r w' => r = .returned (.int .i64 E) ∧ Below w.heap.size w w') := number_any ⟨p, 2, none⟩ E w hT h.e
  clear h hT hE
  go_enter Tryz.func126, Tryz.ntmps126
  go_wp2_with fail
  refine (H0.out _ rfl).mono ?_
  rintro e w0 ⟨rfl, hw0⟩
  have hw1 := hw0.symm
  clear hw0
  subst hw1
  go_wp2_with fail
  refine H1.out.mono ?_
  rintro e w2 ⟨rfl, hB⟩
  have HB : Hid (Below w.heap.size w w2) := hB
  clear hB
  go_wp2
  go_ret2
  exact ⟨rfl, HB.out⟩

/-- The Writer's bytes as a text. -/
theorem own_text {w : World} {base : Nat} {v : Value} {S : ByteArray} (h : w.ownsRow base 5 1 v S.size (Lib.strCells S)) : (convert 174 9 v).run Tryz.prog w = .ok (.string S) w := by
  have hS : (⟨S.data.toList.toArray⟩ : ByteArray) = S := by simp
  have hc := fun g => h.cells (g := g)
  rcases h.2 with ⟨rfl, h0⟩ | ⟨g, cap, cur, rfl, _, hg, _⟩
  · have h1 := run_convert_bytes_nil (P := Tryz.prog) (w := w) 174 5 Tryz.underlying174 Tryz.underlying5 0 0
    have e0 : S = ⟨#[]⟩ := by
      rw [← hS]
      have : S.data.toList = [] := by rw [← List.length_eq_zero_iff, Array.length_toList]; exact h0
      rw [this]
    rw [e0]
    exact h1 9 Tryz.underlying9
  · have h1 := run_convert_bytes_back (P := Tryz.prog) w 174 9 5 ⟨g, 0, none⟩ cap S.data.toList Tryz.underlying174 Tryz.underlying5 Tryz.underlying9 (fun t ht => by
      refine hc g rfl t _ ?_
      simp [Lib.strCells, List.getElem?_map, List.getElem?_eq_getElem ht])
    have hl : S.data.toList.length = S.size := by simp
    rw [hS, hl] at h1
    exact h1

set_option maxHeartbeats 1000000 in
theorem pdone_ok (p : Nat) (v : Value) (M : Int) (S : ByteArray) (w : World) (h : PW w p v M (Lib.strCells S) 0) :
    Calls Tryz.prog 126 #[.pointer (some ⟨p, 0, none⟩)] w fun e w' => e = .returned (.tuple #[.string S, .int .i64 0]) ∧ ∃ k, w' = w.drewN k := by
  have H0 : Hid (∀ w1, w1 = w → Calls Tryz.prog 134 #[.pointer (some ⟨p, 2, none⟩)] w1 fun r w' => r = .returned (.bool false) ∧ w' = w) := fun w1 e => by rw [e]; exact any_any ⟨p, 2, none⟩ 0 w h.e
  obtain ⟨a, cap, hv⟩ := own_form h.own
  have hs := h.s
  have hcv := own_text (by have := h.own; rw [Lib.strCells_length] at this; exact this)
  rw [hv] at hs hcv
  clear h hv
  generalize (Lib.strCells S).length = n at hs hcv
  go_enter Tryz.func126, Tryz.ntmps126
  go_wp2_with fail
  refine (H0.out _ rfl).mono ?_
  rintro e w0 ⟨rfl, hw0⟩
  have hw1 := hw0.symm
  clear hw0
  subst hw1
  go_wp2
  go_ret2
  exact ⟨rfl, 0, rfl⟩



end Go.Proofs.YtfcbjcebkahehaaGreatDoor
namespace Go.Proofs.YtfcbjcebkahehaaGreatDoor
open Go.RowKit
theorem pdone_any (p : Nat) (v : Value) (M E : Int) (S : ByteArray) (w : World) (h : PW w p v M (Lib.strCells S) E) (hT : ErrT w) :
    Calls Tryz.prog 126 #[.pointer (some ⟨p, 0, none⟩)] w fun e w' => e = .returned (.tuple #[.string (if E = 0 then S else ⟨#[]⟩), .int .i64 E]) ∧ Below w.heap.size w w' := by
  by_cases hE : E = 0
  · subst hE
    rw [if_pos rfl]
    refine (pdone_ok p v M S w h).mono ?_
    rintro e w' ⟨h1, k, rfl⟩
    exact ⟨h1, below_drewN (Below.refl _ _) k⟩
  · rw [if_neg hE]
    exact pdone_wrong p v M E S w h hT hE

set_option maxHeartbeats 1000000 in
theorem pnew (m : Int) (w : World) : Calls Tryz.prog 76 #[.int .i64 m] w fun e w' => e = .returned (.pointer (some ⟨w.heap.size, 0, none⟩)) ∧ w' = w.alloc (.cells #[.int .i64 (max m 0), .slice none 0 0, .nilIface] 181) := by
  go_enter Tryz.func76, Tryz.ntmps76
  go_wp2
  · go_ret
    refine ⟨rfl, ?_⟩
    rw [Int.max_eq_right (by omega)]
  · go_ret
    refine ⟨rfl, ?_⟩
    rw [Int.max_eq_left (by omega)]

theorem PW.new (m : Int) (w : World) : PW (w.alloc (.cells #[.int .i64 (max m 0), .slice none 0 0, .nilIface] 181)) w.heap.size (.slice none 0 0) (max m 0) (Lib.strCells ⟨#[]⟩) 0 :=
  ⟨by simp, by simp, by simp [trV], by simp, by simp, World.ownsRow_nil _ _ _ _⟩

end Go.Proofs.YtfcbjcebkahehaaGreatDoor
namespace Go.Proofs.YtfcbjcebkahehaaGreatDoor
open Go.RowKit
/-- Both Writers hold the same. -/
structure WW (w : World) (p q : Nat) (v : Value) (M : Int) (S : ByteArray) (E : Int) : Prop where
  pw : PW w p v M (Lib.strCells S) E
  rw : RW w q S M E
  pq : p ≠ q
  qv : some q ≠ v.ownBlock

/-- What stays but both Writers' blocks and the row of the program's. -/
structure KB (p q : Nat) (v v' : Value) (w w' : World) : Prop where
  os : w'.os = w.os
  tape : w'.tape = w.tape
  output : w'.output = w.output
  size : w.heap.size ≤ w'.heap.size
  block : ∀ b, b < w.heap.size → b ≠ p → b ≠ q → some b ≠ v.ownBlock → w'.heap[b]? = w.heap[b]?
  row : v'.ownBlock = v.ownBlock ∨ ∃ g, w.heap.size ≤ g ∧ v'.ownBlock = some g

/-- Between the two calls. -/
structure WB (w0 w : World) (p q : Nat) (v0 v : Value) (M : Int) (S T : ByteArray) (E F : Int) : Prop where
  pw : PW w p v M (Lib.strCells T) F
  rw : RW w q S M E
  pq : p ≠ q
  qv : some q ≠ v.ownBlock
  kb : KB p q v0 v w0 w

theorem WW.first {w w1 : World} {p q : Nat} {v : Value} {M : Int} {S : ByteArray} {E : Int} {r : ByteArray × Int} {e : Ending} (h : WW w p q v M S E) (hp : PWrote p v M r w e w1) :
    e = .returned (.tuple #[]) ∧ ∃ v', WB w w1 p q v v' M S r.1 E r.2 := by
  obtain ⟨h1, v', h2, h3⟩ := hp
  refine ⟨h1, v', h2, h.rw.of_block (h3.block q h.rw.lt (fun e => h.pq e.symm) h.qv), h.pq, ?_, ⟨h3.os, h3.tape, h3.output, h3.size, fun b hb hp _ hv => h3.block b hb hp hv, h3.row⟩⟩
  rcases h3.row with e1 | ⟨g, hg, e1⟩
  · rw [e1]; exact h.qv
  · rw [e1]; intro e2; cases e2; have := h.rw.lt; omega

theorem PW.only {w w' : World} {p q : Nat} {v : Value} {M E : Int} {xs : List Value} (h : PW w p v M xs E) (hO : Only q w w') (hpq : p ≠ q) (hqv : some q ≠ v.ownBlock) : PW w' p v M xs E := by
  have hb : w'.heap[p]? = w.heap[p]? := hO.block p h.lt hpq
  have hg : w.grownBy w' (some q) := ⟨hO.os, hO.tape, hO.output, hO.size, fun k hk hk2 => hO.block k hk (fun e => hk2 (by rw [e]))⟩
  exact ⟨(cells_of_block hb 0).1.trans h.m, (cells_of_block hb 1).1.trans h.s, (cells_of_block hb 2).1.trans h.e, (cells_of_block hb 1).2.trans h.f1, (cells_of_block hb 2).2.trans h.f2,
    h.own.kept hg (.inr fun e => hqv e.symm)⟩

theorem WB.below {w0 w w1 : World} {p q : Nat} {v0 v : Value} {M : Int} {S T : ByteArray} {E F : Int} (h : WB w0 w p q v0 v M S T E F) (hB : Below w.heap.size w w1) : WB w0 w1 p q v0 v M S T E F :=
  ⟨h.pw.below hB, h.rw.below hB, h.pq, h.qv, ⟨hB.os.trans h.kb.os, hB.tape.trans h.kb.tape, hB.output.trans h.kb.output, Nat.le_trans h.kb.size hB.size,
    fun b hb h1 h2 h3 => (hB.block b (Nat.lt_of_lt_of_le hb h.kb.size)).trans (h.kb.block b hb h1 h2 h3), h.kb.row⟩⟩

theorem rlay_size (M : Int) (S s : ByteArray) (E : Int) : (rlay M S E s).1.size ≤ S.size + s.size := by
  unfold rlay
  split
  · exact Nat.le_add_right _ _
  · split
    · exact Nat.le_add_right _ _
    · rw [ByteArray.size_append]; exact Nat.le_refl _



end Go.Proofs.YtfcbjcebkahehaaGreatDoor
namespace Go.Proofs.YtfcbjcebkahehaaGreatDoor
open Go.RowKit
theorem WW.below {w w1 : World} {p q : Nat} {v : Value} {M : Int} {S : ByteArray} {E : Int} (h : WW w p q v M S E) (hB : Below w.heap.size w w1) : WW w1 p q v M S E := ⟨h.pw.below hB, h.rw.below hB, h.pq, h.qv⟩
theorem KB.behind {w w1 w2 : World} {p q : Nat} {v v' : Value} (hB : Below w.heap.size w w1) (k : KB p q v v' w1 w2) : KB p q v v' w w2 :=
  ⟨k.os.trans hB.os, k.tape.trans hB.tape, k.output.trans hB.output, Nat.le_trans hB.size k.size, fun b hb h1 h2 h3 => (k.block b (Nat.lt_of_lt_of_le hb hB.size) h1 h2 h3).trans (hB.block b hb),
    by rcases k.row with e | ⟨g, hg, e⟩
       · exact .inl e
       · exact .inr ⟨g, Nat.le_trans hB.size hg, e⟩⟩

end Go.Proofs.YtfcbjcebkahehaaGreatDoor
