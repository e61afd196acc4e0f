/- The program's Writer: Int, Uint, Hyper. The program's Writer: Bool, Count, numbers with a point. The program's Writer: Fixed, Opaque, Len. The program's Writer: Done. Both Writers: new ones; are both alike? -/
import Derived.Test.YtlkhgnjljdbhnabGreatDoorXq3
namespace Go.Proofs.YtlkhgnjljdbhnabGreatDoor
open Go.RowKit
theorem isWord_any (n : Int) (w : World) : Calls Tryz.prog 52 #[.int .i64 n] w fun e w' => e = .returned (.bool (decide (0 ≤ n) && decide (n ≤ 4294967295))) ∧ w' = w := by
  by_cases h0 : 0 ≤ n
  · by_cases h1 : n ≤ 4294967295
    · rw [decide_eq_true h0, decide_eq_true h1]
      go_enter Tryz.func52, Tryz.ntmps52
      go_wp2
      go_ret
      exact ⟨rfl, rfl⟩
    · rw [decide_eq_true h0, decide_eq_false h1]
      have h2 : decide (n ≤ 4294967295) = false := decide_eq_false h1
      go_enter Tryz.func52, Tryz.ntmps52
      go_wp2
      go_ret
      exact ⟨rfl, rfl⟩
  · rw [decide_eq_false h0]
    have h2 : decide (0 ≤ n) = false := decide_eq_false h0
    go_enter Tryz.func52, Tryz.ntmps52
    go_wp2
    go_ret
    exact ⟨rfl, rfl⟩

theorem isInt_any (n : Int) (w : World) : Calls Tryz.prog 48 #[.int .i64 n] w fun e w' => e = .returned (.bool (decide (-2147483648 ≤ n) && decide (n ≤ 2147483647))) ∧ w' = w := by
  by_cases h0 : -2147483648 ≤ n
  · by_cases h1 : n ≤ 2147483647
    · rw [decide_eq_true h0, decide_eq_true h1]
      go_enter Tryz.func48, Tryz.ntmps48
      go_wp2
      go_ret
      exact ⟨rfl, rfl⟩
    · rw [decide_eq_true h0, decide_eq_false h1]
      have h2 : decide (n ≤ 2147483647) = false := decide_eq_false h1
      go_enter Tryz.func48, Tryz.ntmps48
      go_wp2
      go_ret
      exact ⟨rfl, rfl⟩
  · rw [decide_eq_false h0]
    have h2 : decide (-2147483648 ≤ n) = false := decide_eq_false h0
    go_enter Tryz.func48, Tryz.ntmps48
    go_wp2
    go_ret
    exact ⟨rfl, rfl⟩

set_option maxHeartbeats 1000000 in
theorem pint_ok (p : Nat) (v : Value) (n M E : Int) (S : ByteArray) (w : World) (h : PW w p v M (Lib.strCells S) E) (hM0 : 0 ≤ M) (hM1 : M ≤ 9223372036854775807) (hb : S.size + 4 ≤ 140737488355328) (hw : (decide (-2147483648 ≤ n) && decide (n ≤ 2147483647)) = true) :
    Calls Tryz.prog 16 #[.pointer (some ⟨p, 0, none⟩), .int .i64 n] w (PWrote p v M (rlay M S E ⟨(byL 4 n).toArray⟩) w) := by
  obtain ⟨t, ht⟩ : ∃ t : ByteArray, t = ⟨(byL 4 n).toArray⟩ := ⟨_, rfl⟩
  have hts : t.size = 4 := by rw [ht, size_bytes, byL_len]
  have H : Hid (∀ q w1, Below w.heap.size w w1 → w.heap.size ≤ q → q < w1.heap.size → w1.cell? ⟨q, 0, none⟩ = some (.string t) → Calls Tryz.prog 50 #[.pointer (some ⟨p, 0, none⟩), .slice (some ⟨q, 0, none⟩) 1 1] w1 (PWrote p v M (rlay M S E t) w)) :=
    fun q w1 hB h0 h1 hc => lay_one p q v M E S t w w1 h hB h0 h1 hc hM0 hM1 (by rw [hts]; exact hb)
  have H1 : Hid (∀ z w, z = n % 4294967296 → Calls Tryz.prog 51 #[.int .u32 z] w fun e w' => e = .returned (.string t) ∧ Below w.heap.size w w') := fun z w hz => by
    have hz2 : z = ((n % 4294967296).toNat : Int) := by omega
    rw [hz2, ht]
    exact fourBytes_any (n % 4294967296).toNat w (by omega)
  have HG : Hid (∀ w, Calls Tryz.prog 48 #[.int .i64 n] w fun e w' => e = .returned (.bool true) ∧ w' = w) := fun w => hw ▸ isInt_any n w
  rw [← ht]
  clear h hM0 hM1 hb hts ht
  go_enter Tryz.func16, Tryz.ntmps16
  go_wp2_with fail
  refine (HG.out _).mono ?_
  rintro e w0 ⟨rfl, hw0⟩
  have hw1 := hw0.symm
  clear hw0
  subst hw1
  go_wp2_with fail
  refine (H1.out _ _ (by first | rfl | (rw [IntKind.wrap_u32]) | (simp [IntKind.wrap, IntKind.bits, IntKind.signed]) | omega)).mono ?_
  rintro e w1 ⟨rfl, hB⟩
  have HB : Hid (Below w.heap.size w w1) := hB
  clear hB
  go_wp2_with fail
  refine (H.out _ _ (HB.out.alloc HB.out.size _) HB.out.size (by simp) (by simp)).mono ?_
  intro e w2 hp
  obtain ⟨rfl, hp2⟩ := hp
  have HP : Hid (∃ v', PW w2 p v' M (Lib.strCells (rlay M S E t).1) (rlay M S E t).2 ∧ Kept p v v' w w2) := hp2
  clear hp2
  go_wp2
  first | go_end0 | refine bodyPost_ret (results_none rfl _ _ _) rfl ?_
  exact ⟨rfl, HP.out⟩

end Go.Proofs.YtlkhgnjljdbhnabGreatDoor
namespace Go.Proofs.YtlkhgnjljdbhnabGreatDoor
open Go.RowKit
set_option maxHeartbeats 1000000 in
theorem pfloat (p x : Nat) (v : Value) (M E : Int) (S : ByteArray) (w : World) (h : PW w p v M (Lib.strCells S) E) (hM0 : 0 ≤ M) (hM1 : M ≤ 9223372036854775807) (hb : S.size + 4 ≤ 140737488355328) (hx : x < 4294967296) (hc : c32 x < 4294967296) :
    Calls Tryz.prog 19 #[.pointer (some ⟨p, 0, none⟩), .float .f32 x] w (PWrote p v M (rlay M S E ⟨(beL 4 (c32 x)).toArray⟩) w) := by
  obtain ⟨t, ht⟩ : ∃ t : ByteArray, t = ⟨(beL 4 (c32 x)).toArray⟩ := ⟨_, rfl⟩
  have hts : t.size = 4 := by rw [ht, size_bytes, beL_len]
  obtain ⟨n, hn⟩ : ∃ n : Int, (c32 x : Int) = n := ⟨_, rfl⟩
  have H : Hid (∀ q w1, Below w.heap.size w w1 → w.heap.size ≤ q → q < w1.heap.size → w1.cell? ⟨q, 0, none⟩ = some (.string t) → Calls Tryz.prog 50 #[.pointer (some ⟨p, 0, none⟩), .slice (some ⟨q, 0, none⟩) 1 1] w1 (PWrote p v M (rlay M S E t) w)) :=
    fun q w1 hB h0 h1 hc => lay_one p q v M E S t w w1 h hB h0 h1 hc hM0 hM1 (by rw [hts]; exact hb)
  have H0 : Hid (∀ w, Calls Tryz.prog 54 #[.float .f32 x] w fun e w' => e = .returned (.int .u32 n) ∧ w' = w) := fun w => by
    have := rbits32 x w hx; rw [hn] at this; exact this
  have H1 : Hid (∀ w, Calls Tryz.prog 51 #[.int .u32 n] w fun e w' => e = .returned (.string t) ∧ Below w.heap.size w w') := fun w => by
    rw [← hn, ht]
    exact fourBytes_any (c32 x) w hc
  rw [← ht]
  clear h hM0 hM1 hb hts ht hn hx hc
  go_enter Tryz.func19, Tryz.ntmps19
  go_wp2_with fail
  refine (H0.out _).mono ?_
  rintro e w0 ⟨rfl, hw0⟩
  have hw1 := hw0.symm
  clear hw0
  subst hw1
  go_wp2_with fail
  refine (H1.out _).mono ?_
  rintro e w1 ⟨rfl, hB⟩
  have HB : Hid (Below w.heap.size w w1) := hB
  clear hB
  go_wp2_with fail
  refine (H.out _ _ (HB.out.alloc HB.out.size _) HB.out.size (by simp) (by simp)).mono ?_
  intro e w2 hp
  obtain ⟨rfl, hp2⟩ := hp
  have HP : Hid (∃ v', PW w2 p v' M (Lib.strCells (rlay M S E t).1) (rlay M S E t).2 ∧ Kept p v v' w w2) := hp2
  clear hp2
  go_wp2
  first | go_end0 | refine bodyPost_ret (results_none rfl _ _ _) rfl ?_
  exact ⟨rfl, HP.out⟩

end Go.Proofs.YtlkhgnjljdbhnabGreatDoor
namespace Go.Proofs.YtlkhgnjljdbhnabGreatDoor
open Go.RowKit
set_option maxHeartbeats 1000000 in
theorem pfixed_ok (p : Nat) (v : Value) (m M E : Int) (S s : ByteArray) (w : World) (h : PW w p v M (Lib.strCells S) E) (hM0 : 0 ≤ M) (hM1 : M ≤ 9223372036854775807) (hb : S.size + (s.size + 3) ≤ 140737488355328) (hw : (decide (0 ≤ m) && decide (m ≤ 4294967295)) = true) (hm : m = (s.size : Int)) :
    Calls Tryz.prog 17 #[.pointer (some ⟨p, 0, none⟩), .int .i64 m, .string s] w (PWrote p v M (rlay M S E (s ++ ⟨(padL s.size).toArray⟩)) w) := by
  obtain ⟨t, ht⟩ : ∃ t : ByteArray, t = ⟨(padL s.size).toArray⟩ := ⟨_, rfl⟩
  have hts : t.size ≤ 3 := by rw [ht, size_bytes]; exact padL_len s.size
  have H : Hid (∀ q w1, Below w.heap.size w w1 → w.heap.size ≤ q → q < w1.heap.size → w1.cell? ⟨q, 0, none⟩ = some (.string s) → w1.cell? ⟨q, 1, none⟩ = some (.string t) → Calls Tryz.prog 50 #[.pointer (some ⟨p, 0, none⟩), .slice (some ⟨q, 0, none⟩) 2 2] w1 (PWrote p v M (rlay M S E (s ++ t)) w)) :=
    fun q w1 hB h0 h1 hc hc1 => lay_two p q v M E S s t w w1 h hB h0 h1 hc hc1 hM0 hM1 (by omega)
  have H1 : Hid (∀ w, Calls Tryz.prog 53 #[.int .i64 m] w fun e w' => e = .returned (.string t) ∧ w' = w) := fun w => by
    rw [hm, ht]
    exact padding_any s.size w (by omega)
  have HG : Hid (∀ w, Calls Tryz.prog 52 #[.int .i64 m] w fun e w' => e = .returned (.bool true) ∧ w' = w) := fun w => hw ▸ isWord_any m w
  have hne : ((s.size : Int) != m) = false := by rw [hm]; simp
  rw [← ht]
  clear h hM0 hM1 hb hts ht hw hm
  generalize rlay M S E (s ++ t) = r at H ⊢
  go_enter Tryz.func17, Tryz.ntmps17
  go_wp2_with fail
  refine (HG.out _).mono ?_
  rintro e w0 ⟨rfl, hw0⟩
  have hw1 := hw0.symm
  clear hw0
  subst hw1
  go_wp2_with fail
  refine (H1.out _).mono ?_
  rintro e w0 ⟨rfl, hw0⟩
  have hw1 := hw0.symm
  clear hw0
  subst hw1
  go_wp2_with fail
  refine (H.out _ _ ((Below.refl _ _).alloc (Nat.le_refl _) _) (Nat.le_refl _) (by simp) (by simp) (by simp)).mono ?_
  intro e w2 hp
  obtain ⟨rfl, hp2⟩ := hp
  have HP : Hid (∃ v', PW w2 p v' M (Lib.strCells r.1) r.2 ∧ Kept p v v' w w2) := hp2
  clear hp2
  go_wp2
  first | go_end0 | refine bodyPost_ret (results_none rfl _ _ _) rfl ?_
  exact ⟨rfl, HP.out⟩

set_option maxHeartbeats 1000000 in
theorem popaque_ok (p : Nat) (v : Value) (m M E : Int) (S s : ByteArray) (w : World) (h : PW w p v M (Lib.strCells S) E) (hM0 : 0 ≤ M) (hM1 : M ≤ 9223372036854775807) (hb : S.size + (s.size + 7) ≤ 140737488355328) (hw : (decide (0 ≤ m) && decide (m ≤ 4294967295)) = true) (hl : (s.size : Int) ≤ m) :
    Calls Tryz.prog 18 #[.pointer (some ⟨p, 0, none⟩), .int .i64 m, .string s] w (PWrote p v M (rlay M S E (⟨(byL 4 (s.size : Int)).toArray⟩ ++ s ++ ⟨(padL s.size).toArray⟩)) w) := by
  obtain ⟨t, ht⟩ : ∃ t : ByteArray, t = ⟨(padL s.size).toArray⟩ := ⟨_, rfl⟩
  obtain ⟨u, hu⟩ : ∃ u : ByteArray, u = ⟨(byL 4 (s.size : Int)).toArray⟩ := ⟨_, rfl⟩
  have hts : t.size ≤ 3 := by rw [ht, size_bytes]; exact padL_len s.size
  have hus : u.size = 4 := by rw [hu, size_bytes, byL_len]
  have H : Hid (∀ q w1, Below w.heap.size w w1 → w.heap.size ≤ q → q < w1.heap.size → w1.cell? ⟨q, 0, none⟩ = some (.string u) → w1.cell? ⟨q, 1, none⟩ = some (.string s) → w1.cell? ⟨q, 2, none⟩ = some (.string t) → Calls Tryz.prog 50 #[.pointer (some ⟨p, 0, none⟩), .slice (some ⟨q, 0, none⟩) 3 3] w1 (PWrote p v M (rlay M S E (u ++ s ++ t)) w)) :=
    fun q w1 hB h0 h1 hc hc1 hc2 => lay_three p q v M E S u s t w w1 h hB h0 h1 hc hc1 hc2 hM0 hM1 (by omega)
  have H1 : Hid (∀ w, Calls Tryz.prog 53 #[.int .i64 (s.size : Int)] w fun e w' => e = .returned (.string t) ∧ w' = w) := fun w => by
    rw [ht]
    exact padding_any s.size w (by omega)
  have H0 : Hid (∀ z w, z = (s.size : Int) % 4294967296 → Calls Tryz.prog 51 #[.int .u32 z] w fun e w' => e = .returned (.string u) ∧ Below w.heap.size w w') := fun z w hz => by
    have hz2 : z = (((s.size : Int) % 4294967296).toNat : Int) := by omega
    rw [hz2, hu]
    exact fourBytes_any ((s.size : Int) % 4294967296).toNat w (by omega)
  have HG : Hid (∀ w, Calls Tryz.prog 52 #[.int .i64 m] w fun e w' => e = .returned (.bool true) ∧ w' = w) := fun w => hw ▸ isWord_any m w
  rw [← ht, ← hu]
  clear h hM0 hM1 hb hts ht hu hus hw
  generalize rlay M S E (u ++ s ++ t) = r at H ⊢
  go_enter Tryz.func18, Tryz.ntmps18
  go_wp2_with fail
  refine (HG.out _).mono ?_
  rintro e w0 ⟨rfl, hw0⟩
  have hw1 := hw0.symm
  clear hw0
  subst hw1
  go_wp2_with fail
  refine (H0.out _ _ (by first | rfl | (rw [IntKind.wrap_u32]) | (simp [IntKind.wrap, IntKind.bits, IntKind.signed]) | omega)).mono ?_
  rintro e w1 ⟨rfl, hB⟩
  have HB : Hid (Below w.heap.size w w1) := hB
  clear hB
  go_wp2_with fail
  refine (H1.out _).mono ?_
  rintro e w0 ⟨rfl, hw0⟩
  have hw1 := hw0.symm
  clear hw0
  subst hw1
  go_wp2_with fail
  refine (H.out _ _ (HB.out.alloc HB.out.size _) HB.out.size (by simp) (by simp) (by simp) (by simp)).mono ?_
  intro e w2 hp
  obtain ⟨rfl, hp2⟩ := hp
  have HP : Hid (∃ v', PW w2 p v' M (Lib.strCells r.1) r.2 ∧ Kept p v v' w w2) := hp2
  clear hp2
  go_wp2
  first | go_end0 | refine bodyPost_ret (results_none rfl _ _ _) rfl ?_
  exact ⟨rfl, HP.out⟩

set_option maxHeartbeats 1000000 in
theorem plen (p : Nat) (v : Value) (M E : Int) (S : ByteArray) (w : World) (h : PW w p v M (Lib.strCells S) E) :
    Calls Tryz.prog 23 #[.pointer (some ⟨p, 0, none⟩)] w fun e w' => e = .returned (.int .i64 S.size) ∧ w' = w := by
  obtain ⟨a, cap, hv⟩ := own_form h.own
  have hs := h.s
  rw [hv, Lib.strCells_length] at hs
  clear h hv
  go_enter Tryz.func23, Tryz.ntmps23
  go_wp2
  go_ret
  exact ⟨rfl, rfl⟩


end Go.Proofs.YtlkhgnjljdbhnabGreatDoor
namespace Go.Proofs.YtlkhgnjljdbhnabGreatDoor
open Go.RowKit
set_option maxHeartbeats 1000000 in
theorem pdone_wrong (p : Nat) (v : Value) (M E : Int) (S : ByteArray) (w : World) (h : PW w p v M (Lib.strCells S) E) (hT : ErrT w) (hE : E ≠ 0) :
    Calls Tryz.prog 20 #[.pointer (some ⟨p, 0, none⟩)] w fun e w' => e = .returned (.tuple #[.string ⟨#[]⟩, .int .i64 E]) ∧ Below w.heap.size w w' := by
  have H0 : Hid (∀ w1, w1 = w → Calls Tryz.prog 47 #[.pointer (some ⟨p, 2, none⟩)] w1 fun r w' => r = .returned (.bool true) ∧ w' = w) := fun w1 e => by rw [e]; exact any_true p E w h.e hE
  have H1 : Hid (Calls Tryz.prog 46 #[.pointer (some ⟨p, 2, none⟩)] w fun r w' => r = .returned (.int .i64 E) ∧ Below w.heap.size w w') := number_any ⟨p, 2, none⟩ E w hT h.e
  clear h hT hE
  go_enter Tryz.func20, Tryz.ntmps20
  go_wp2_with fail
  refine (H0.out _ rfl).mono ?_
  rintro e w0 ⟨rfl, hw0⟩
  have hw1 := hw0.symm
  clear hw0
  subst hw1
  go_wp2_with fail
  refine H1.out.mono ?_
  rintro e w2 ⟨rfl, hB⟩
  have HB : Hid (Below w.heap.size w w2) := hB
  clear hB
  go_wp2
  go_ret2
  exact ⟨rfl, HB.out⟩

/-- The Writer's bytes as a text. -/
theorem own_text {w : World} {base : Nat} {v : Value} {S : ByteArray} (h : w.ownsRow base 5 1 v S.size (Lib.strCells S)) : (convert 63 9 v).run Tryz.prog w = .ok (.string S) w := by
  have hS : (⟨S.data.toList.toArray⟩ : ByteArray) = S := by simp
  have hc := fun g => h.cells (g := g)
  rcases h.2 with ⟨rfl, h0⟩ | ⟨g, cap, cur, rfl, _, hg, _⟩
  · have h1 := run_convert_bytes_nil (P := Tryz.prog) (w := w) 63 5 Tryz.underlying63 Tryz.underlying5 0 0
    have e0 : S = ⟨#[]⟩ := by
      rw [← hS]
      have : S.data.toList = [] := by rw [← List.length_eq_zero_iff, Array.length_toList]; exact h0
      rw [this]
    rw [e0]
    exact h1 9 Tryz.underlying9
  · have h1 := run_convert_bytes_back (P := Tryz.prog) w 63 9 5 ⟨g, 0, none⟩ cap S.data.toList Tryz.underlying63 Tryz.underlying5 Tryz.underlying9 (fun t ht => by
      refine hc g rfl t _ ?_
      simp [Lib.strCells, List.getElem?_map, List.getElem?_eq_getElem ht])
    have hl : S.data.toList.length = S.size := by simp
    rw [hS, hl] at h1
    exact h1

set_option maxHeartbeats 1000000 in
theorem pdone_ok (p : Nat) (v : Value) (M : Int) (S : ByteArray) (w : World) (h : PW w p v M (Lib.strCells S) 0) :
    Calls Tryz.prog 20 #[.pointer (some ⟨p, 0, none⟩)] w fun e w' => e = .returned (.tuple #[.string S, .int .i64 0]) ∧ ∃ k, w' = w.drewN k := by
  have H0 : Hid (∀ w1, w1 = w → Calls Tryz.prog 47 #[.pointer (some ⟨p, 2, none⟩)] w1 fun r w' => r = .returned (.bool false) ∧ w' = w) := fun w1 e => by rw [e]; exact any_any ⟨p, 2, none⟩ 0 w h.e
  obtain ⟨a, cap, hv⟩ := own_form h.own
  have hs := h.s
  have hcv := own_text (by have := h.own; rw [Lib.strCells_length] at this; exact this)
  rw [hv] at hs hcv
  clear h hv
  generalize (Lib.strCells S).length = n at hs hcv
  go_enter Tryz.func20, Tryz.ntmps20
  go_wp2_with fail
  refine (H0.out _ rfl).mono ?_
  rintro e w0 ⟨rfl, hw0⟩
  have hw1 := hw0.symm
  clear hw0
  subst hw1
  go_wp2
  go_ret2
  exact ⟨rfl, 0, rfl⟩


end Go.Proofs.YtlkhgnjljdbhnabGreatDoor
namespace Go.Proofs.YtlkhgnjljdbhnabGreatDoor
open Go.RowKit
theorem pdone_any (p : Nat) (v : Value) (M E : Int) (S : ByteArray) (w : World) (h : PW w p v M (Lib.strCells S) E) (hT : ErrT w) :
    Calls Tryz.prog 20 #[.pointer (some ⟨p, 0, none⟩)] w fun e w' => e = .returned (.tuple #[.string (if E = 0 then S else ⟨#[]⟩), .int .i64 E]) ∧ Below w.heap.size w w' := by
  by_cases hE : E = 0
  · subst hE
    rw [if_pos rfl]
    refine (pdone_ok p v M S w h).mono ?_
    rintro e w' ⟨h1, k, rfl⟩
    exact ⟨h1, below_drewN (Below.refl _ _) k⟩
  · rw [if_neg hE]
    exact pdone_wrong p v M E S w h hT hE

set_option maxHeartbeats 1000000 in
theorem pnew (m : Int) (w : World) : Calls Tryz.prog 15 #[.int .i64 m] w fun e w' => e = .returned (.pointer (some ⟨w.heap.size, 0, none⟩)) ∧ w' = w.alloc (.cells #[.int .i64 (max m 0), .slice none 0 0, .nilIface] 65) := by
  go_enter Tryz.func15, Tryz.ntmps15
  go_wp2
  · go_ret
    refine ⟨rfl, ?_⟩
    rw [Int.max_eq_right (by omega)]
  · go_ret
    refine ⟨rfl, ?_⟩
    rw [Int.max_eq_left (by omega)]

theorem PW.new (m : Int) (w : World) : PW (w.alloc (.cells #[.int .i64 (max m 0), .slice none 0 0, .nilIface] 65)) w.heap.size (.slice none 0 0) (max m 0) (Lib.strCells ⟨#[]⟩) 0 :=
  ⟨by simp, by simp, by simp [trV], by simp, by simp, World.ownsRow_nil _ _ _ _⟩
end Go.Proofs.YtlkhgnjljdbhnabGreatDoor
