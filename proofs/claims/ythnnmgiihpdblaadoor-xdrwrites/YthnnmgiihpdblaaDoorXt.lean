/- The program's Writer: Fixed, Opaque, Len. -/
import Derived.Test.YthnnmgiihpdblaaDoorXs
namespace Go.Proofs.YthnnmgiihpdblaaDoor
open Go.RowKit

set_option maxHeartbeats 1000000 in
theorem pfixed_range (p : Nat) (v : Value) (m M E : Int) (S s : ByteArray) (w : World) (h : PW w p v M (Lib.strCells S) E) (hw : (decide (0 ≤ m) && decide (m ≤ 4294967295)) = false)  :
    Calls Tryd.prog 57 #[.pointer (some ⟨p, 0, none⟩), .int .i64 m, .string s] w (PWrote p v M (S, firstE E 22) w) := by
  have H : Hid (Calls Tryd.prog 84 #[.pointer (some ⟨p, 0, none⟩), .int .i64 22] w (PWrote p v M (S, firstE E 22) w)) := pfail_any p v M E 22 S w h
  have HG : Hid (∀ w, Calls Tryd.prog 99 #[.int .i64 m] w fun e w' => e = .returned (.bool false) ∧ w' = w) := fun w => hw ▸ isWord_any m w
  clear h hw
  go_enter Tryd.func57, Tryd.ntmps57
  go_wp2_with fail
  refine (HG.out _).mono ?_
  rintro e w0 ⟨rfl, hw0⟩
  have hw1 := hw0.symm
  clear hw0
  subst hw1
  go_wp2_with fail
  refine H.out.mono ?_
  intro e w2 hp
  obtain ⟨rfl, hp2⟩ := hp
  have HP : Hid (∃ v', PW w2 p v' M (Lib.strCells (S, firstE E 22).1) (S, firstE E 22).2 ∧ Kept p v v' w w2) := hp2
  clear hp2
  go_wp2
  first | go_end0 | refine bodyPost_ret (results_none rfl _ _ _) rfl ?_
  exact ⟨rfl, HP.out⟩

set_option maxHeartbeats 1000000 in
theorem pfixed_long (p : Nat) (v : Value) (m M E : Int) (S s : ByteArray) (w : World) (h : PW w p v M (Lib.strCells S) E) (hw : (decide (0 ≤ m) && decide (m ≤ 4294967295)) = true) (hb : ((s.size : Int) != m) = true) :
    Calls Tryd.prog 57 #[.pointer (some ⟨p, 0, none⟩), .int .i64 m, .string s] w (PWrote p v M (S, firstE E 23) w) := by
  have H : Hid (Calls Tryd.prog 84 #[.pointer (some ⟨p, 0, none⟩), .int .i64 23] w (PWrote p v M (S, firstE E 23) w)) := pfail_any p v M E 23 S w h
  have HG : Hid (∀ w, Calls Tryd.prog 99 #[.int .i64 m] w fun e w' => e = .returned (.bool true) ∧ w' = w) := fun w => hw ▸ isWord_any m w
  clear h hw
  go_enter Tryd.func57, Tryd.ntmps57
  go_wp2_with fail
  refine (HG.out _).mono ?_
  rintro e w0 ⟨rfl, hw0⟩
  have hw1 := hw0.symm
  clear hw0
  subst hw1
  go_wp2_with fail
  refine H.out.mono ?_
  intro e w2 hp
  obtain ⟨rfl, hp2⟩ := hp
  have HP : Hid (∃ v', PW w2 p v' M (Lib.strCells (S, firstE E 23).1) (S, firstE E 23).2 ∧ Kept p v v' w w2) := hp2
  clear hp2
  go_wp2
  first | go_end0 | refine bodyPost_ret (results_none rfl _ _ _) rfl ?_
  exact ⟨rfl, HP.out⟩

set_option maxHeartbeats 1000000 in
theorem pfixed_ok (p : Nat) (v : Value) (m M E : Int) (S s : ByteArray) (w : World) (h : PW w p v M (Lib.strCells S) E) (hM0 : 0 ≤ M) (hM1 : M ≤ 9223372036854775807) (hb : S.size + (s.size + 3) ≤ 140737488355328) (hw : (decide (0 ≤ m) && decide (m ≤ 4294967295)) = true) (hm : m = (s.size : Int)) :
    Calls Tryd.prog 57 #[.pointer (some ⟨p, 0, none⟩), .int .i64 m, .string s] w (PWrote p v M (rlay M S E (s ++ ⟨(padL s.size).toArray⟩)) w) := by
  obtain ⟨t, ht⟩ : ∃ t : ByteArray, t = ⟨(padL s.size).toArray⟩ := ⟨_, rfl⟩
  have hts : t.size ≤ 3 := by rw [ht, size_bytes]; exact padL_len s.size
  have H : Hid (∀ q w1, Below w.heap.size w w1 → w.heap.size ≤ q → q < w1.heap.size → w1.cell? ⟨q, 0, none⟩ = some (.string s) → w1.cell? ⟨q, 1, none⟩ = some (.string t) → Calls Tryd.prog 97 #[.pointer (some ⟨p, 0, none⟩), .slice (some ⟨q, 0, none⟩) 2 2] w1 (PWrote p v M (rlay M S E (s ++ t)) w)) :=
    fun q w1 hB h0 h1 hc hc1 => lay_two p q v M E S s t w w1 h hB h0 h1 hc hc1 hM0 hM1 (by omega)
  have H1 : Hid (∀ w, Calls Tryd.prog 100 #[.int .i64 m] w fun e w' => e = .returned (.string t) ∧ w' = w) := fun w => by
    rw [hm, ht]
    exact padding_any s.size w (by omega)
  have HG : Hid (∀ w, Calls Tryd.prog 99 #[.int .i64 m] w fun e w' => e = .returned (.bool true) ∧ w' = w) := fun w => hw ▸ isWord_any m w
  have hne : ((s.size : Int) != m) = false := by rw [hm]; simp
  rw [← ht]
  clear h hM0 hM1 hb hts ht hw hm
  generalize rlay M S E (s ++ t) = r at H ⊢
  go_enter Tryd.func57, Tryd.ntmps57
  go_wp2_with fail
  refine (HG.out _).mono ?_
  rintro e w0 ⟨rfl, hw0⟩
  have hw1 := hw0.symm
  clear hw0
  subst hw1
  go_wp2_with fail
  refine (H1.out _).mono ?_
  rintro e w0 ⟨rfl, hw0⟩
  have hw1 := hw0.symm
  clear hw0
  subst hw1
  go_wp2_with fail
  refine (H.out _ _ ((Below.refl _ _).alloc (Nat.le_refl _) _) (Nat.le_refl _) (by simp) (by simp) (by simp)).mono ?_
  intro e w2 hp
  obtain ⟨rfl, hp2⟩ := hp
  have HP : Hid (∃ v', PW w2 p v' M (Lib.strCells r.1) r.2 ∧ Kept p v v' w w2) := hp2
  clear hp2
  go_wp2
  first | go_end0 | refine bodyPost_ret (results_none rfl _ _ _) rfl ?_
  exact ⟨rfl, HP.out⟩

set_option maxHeartbeats 1000000 in
theorem popaque_range (p : Nat) (v : Value) (m M E : Int) (S s : ByteArray) (w : World) (h : PW w p v M (Lib.strCells S) E) (hw : (decide (0 ≤ m) && decide (m ≤ 4294967295)) = false)  :
    Calls Tryd.prog 58 #[.pointer (some ⟨p, 0, none⟩), .int .i64 m, .string s] w (PWrote p v M (S, firstE E 22) w) := by
  have H : Hid (Calls Tryd.prog 84 #[.pointer (some ⟨p, 0, none⟩), .int .i64 22] w (PWrote p v M (S, firstE E 22) w)) := pfail_any p v M E 22 S w h
  have HG : Hid (∀ w, Calls Tryd.prog 99 #[.int .i64 m] w fun e w' => e = .returned (.bool false) ∧ w' = w) := fun w => hw ▸ isWord_any m w
  clear h hw
  go_enter Tryd.func58, Tryd.ntmps58
  go_wp2_with fail
  refine (HG.out _).mono ?_
  rintro e w0 ⟨rfl, hw0⟩
  have hw1 := hw0.symm
  clear hw0
  subst hw1
  go_wp2_with fail
  refine H.out.mono ?_
  intro e w2 hp
  obtain ⟨rfl, hp2⟩ := hp
  have HP : Hid (∃ v', PW w2 p v' M (Lib.strCells (S, firstE E 22).1) (S, firstE E 22).2 ∧ Kept p v v' w w2) := hp2
  clear hp2
  go_wp2
  first | go_end0 | refine bodyPost_ret (results_none rfl _ _ _) rfl ?_
  exact ⟨rfl, HP.out⟩

set_option maxHeartbeats 1000000 in
theorem popaque_long (p : Nat) (v : Value) (m M E : Int) (S s : ByteArray) (w : World) (h : PW w p v M (Lib.strCells S) E) (hw : (decide (0 ≤ m) && decide (m ≤ 4294967295)) = true) (hl : m < (s.size : Int)) :
    Calls Tryd.prog 58 #[.pointer (some ⟨p, 0, none⟩), .int .i64 m, .string s] w (PWrote p v M (S, firstE E 23) w) := by
  have H : Hid (Calls Tryd.prog 84 #[.pointer (some ⟨p, 0, none⟩), .int .i64 23] w (PWrote p v M (S, firstE E 23) w)) := pfail_any p v M E 23 S w h
  have HG : Hid (∀ w, Calls Tryd.prog 99 #[.int .i64 m] w fun e w' => e = .returned (.bool true) ∧ w' = w) := fun w => hw ▸ isWord_any m w
  clear h hw
  go_enter Tryd.func58, Tryd.ntmps58
  go_wp2_with fail
  refine (HG.out _).mono ?_
  rintro e w0 ⟨rfl, hw0⟩
  have hw1 := hw0.symm
  clear hw0
  subst hw1
  go_wp2_with fail
  refine H.out.mono ?_
  intro e w2 hp
  obtain ⟨rfl, hp2⟩ := hp
  have HP : Hid (∃ v', PW w2 p v' M (Lib.strCells (S, firstE E 23).1) (S, firstE E 23).2 ∧ Kept p v v' w w2) := hp2
  clear hp2
  go_wp2
  first | go_end0 | refine bodyPost_ret (results_none rfl _ _ _) rfl ?_
  exact ⟨rfl, HP.out⟩

set_option maxHeartbeats 1000000 in
theorem popaque_ok (p : Nat) (v : Value) (m M E : Int) (S s : ByteArray) (w : World) (h : PW w p v M (Lib.strCells S) E) (hM0 : 0 ≤ M) (hM1 : M ≤ 9223372036854775807) (hb : S.size + (s.size + 7) ≤ 140737488355328) (hw : (decide (0 ≤ m) && decide (m ≤ 4294967295)) = true) (hl : (s.size : Int) ≤ m) :
    Calls Tryd.prog 58 #[.pointer (some ⟨p, 0, none⟩), .int .i64 m, .string s] w (PWrote p v M (rlay M S E (⟨(byL 4 (s.size : Int)).toArray⟩ ++ s ++ ⟨(padL s.size).toArray⟩)) w) := by
  obtain ⟨t, ht⟩ : ∃ t : ByteArray, t = ⟨(padL s.size).toArray⟩ := ⟨_, rfl⟩
  obtain ⟨u, hu⟩ : ∃ u : ByteArray, u = ⟨(byL 4 (s.size : Int)).toArray⟩ := ⟨_, rfl⟩
  have hts : t.size ≤ 3 := by rw [ht, size_bytes]; exact padL_len s.size
  have hus : u.size = 4 := by rw [hu, size_bytes, byL_len]
  have H : Hid (∀ q w1, Below w.heap.size w w1 → w.heap.size ≤ q → q < w1.heap.size → w1.cell? ⟨q, 0, none⟩ = some (.string u) → w1.cell? ⟨q, 1, none⟩ = some (.string s) → w1.cell? ⟨q, 2, none⟩ = some (.string t) → Calls Tryd.prog 97 #[.pointer (some ⟨p, 0, none⟩), .slice (some ⟨q, 0, none⟩) 3 3] w1 (PWrote p v M (rlay M S E (u ++ s ++ t)) w)) :=
    fun q w1 hB h0 h1 hc hc1 hc2 => lay_three p q v M E S u s t w w1 h hB h0 h1 hc hc1 hc2 hM0 hM1 (by omega)
  have H1 : Hid (∀ w, Calls Tryd.prog 100 #[.int .i64 (s.size : Int)] w fun e w' => e = .returned (.string t) ∧ w' = w) := fun w => by
    rw [ht]
    exact padding_any s.size w (by omega)
  have H0 : Hid (∀ z w, z = (s.size : Int) % 4294967296 → Calls Tryd.prog 98 #[.int .u32 z] w fun e w' => e = .returned (.string u) ∧ Below w.heap.size w w') := fun z w hz => by
    have hz2 : z = (((s.size : Int) % 4294967296).toNat : Int) := by omega
    rw [hz2, hu]
    exact fourBytes_any ((s.size : Int) % 4294967296).toNat w (by omega)
  have HG : Hid (∀ w, Calls Tryd.prog 99 #[.int .i64 m] w fun e w' => e = .returned (.bool true) ∧ w' = w) := fun w => hw ▸ isWord_any m w
  rw [← ht, ← hu]
  clear h hM0 hM1 hb hts ht hu hus hw
  generalize rlay M S E (u ++ s ++ t) = r at H ⊢
  go_enter Tryd.func58, Tryd.ntmps58
  go_wp2_with fail
  refine (HG.out _).mono ?_
  rintro e w0 ⟨rfl, hw0⟩
  have hw1 := hw0.symm
  clear hw0
  subst hw1
  go_wp2_with fail
  refine (H0.out _ _ (by first | rfl | (rw [IntKind.wrap_u32]) | (simp [IntKind.wrap, IntKind.bits, IntKind.signed]) | omega)).mono ?_
  rintro e w1 ⟨rfl, hB⟩
  have HB : Hid (Below w.heap.size w w1) := hB
  clear hB
  go_wp2_with fail
  refine (H1.out _).mono ?_
  rintro e w0 ⟨rfl, hw0⟩
  have hw1 := hw0.symm
  clear hw0
  subst hw1
  go_wp2_with fail
  refine (H.out _ _ (HB.out.alloc HB.out.size _) HB.out.size (by simp) (by simp) (by simp) (by simp)).mono ?_
  intro e w2 hp
  obtain ⟨rfl, hp2⟩ := hp
  have HP : Hid (∃ v', PW w2 p v' M (Lib.strCells r.1) r.2 ∧ Kept p v v' w w2) := hp2
  clear hp2
  go_wp2
  first | go_end0 | refine bodyPost_ret (results_none rfl _ _ _) rfl ?_
  exact ⟨rfl, HP.out⟩

set_option maxHeartbeats 1000000 in
theorem plen (p : Nat) (v : Value) (M E : Int) (S : ByteArray) (w : World) (h : PW w p v M (Lib.strCells S) E) :
    Calls Tryd.prog 64 #[.pointer (some ⟨p, 0, none⟩)] w fun e w' => e = .returned (.int .i64 S.size) ∧ w' = w := by
  obtain ⟨a, cap, hv⟩ := own_form h.own
  have hs := h.s
  rw [hv, Lib.strCells_length] at hs
  clear h hv
  go_enter Tryd.func64, Tryd.ntmps64
  go_wp2
  go_ret
  exact ⟨rfl, rfl⟩

end Go.Proofs.YthnnmgiihpdblaaDoor
