/- The program's Writer: laying of one part, of two, of three that were just put together; Raw. -/
import Derived.Test.YthnnmgiihpdblaaDoorXp
namespace Go.Proofs.YthnnmgiihpdblaaDoor
open Go.RowKit

theorem PWrote.behind {p : Nat} {v : Value} {M : Int} {r : ByteArray × Int} {w w1 : World} {e : Ending} {w' : World} (hB : Below w.heap.size w w1) (h : PWrote p v M r w1 e w') : PWrote p v M r w e w' := by
  obtain ⟨h1, v', h2, h3⟩ := h
  exact ⟨h1, v', h2, (Kept.of_below hB).trans h3⟩

theorem lay_list (p q m : Nat) (v : Value) (M E : Int) (S J : ByteArray) (ps : List ByteArray) (w w1 : World) (h : PW w p v M (Lib.strCells S) E) (hB : Below w.heap.size w w1) (hq0 : w.heap.size ≤ q) (hq1 : q < w1.heap.size)
    (hc : ∀ j, j < ps.length → w1.cell? ⟨q, j, none⟩ = some (.string (ps.getD j ⟨#[]⟩))) (hps : ps.length = m) (hm : m ≤ 100) (hJ : cellsOf ps ps.length = Lib.strCells J) (hM0 : 0 ≤ M) (hM1 : M ≤ 9223372036854775807) (hb : S.size + J.size ≤ 140737488355328) :
    Calls Tryd.prog 97 #[.pointer (some ⟨p, 0, none⟩), .slice (some ⟨q, 0, none⟩) m m] w1 (PWrote p v M (rlay M S E J) w) := by
  have hlt := h.lt
  refine (lay_any p q m v M E S J ps w1 (h.below hB) hc hq1 (by omega) (fun e => ?_) hps hm hJ hM0 hM1 hb).mono fun e w' hp => hp.behind hB
  have := (h.own.lt q e.symm).2
  omega

theorem lay_one (p q : Nat) (v : Value) (M E : Int) (S s : ByteArray) (w w1 : World) (h : PW w p v M (Lib.strCells S) E) (hB : Below w.heap.size w w1) (hq0 : w.heap.size ≤ q) (hq1 : q < w1.heap.size)
    (hc : w1.cell? ⟨q, 0, none⟩ = some (.string s)) (hM0 : 0 ≤ M) (hM1 : M ≤ 9223372036854775807) (hb : S.size + s.size ≤ 140737488355328) :
    Calls Tryd.prog 97 #[.pointer (some ⟨p, 0, none⟩), .slice (some ⟨q, 0, none⟩) 1 1] w1 (PWrote p v M (rlay M S E s) w) :=
  lay_list p q 1 v M E S s [s] w w1 h hB hq0 hq1 (fun j hj => by obtain rfl : j = 0 := by simp at hj; omega
                                                                 exact hc) rfl (by omega) (by simp [cellsOf]) hM0 hM1 hb

theorem lay_two (p q : Nat) (v : Value) (M E : Int) (S s t : ByteArray) (w w1 : World) (h : PW w p v M (Lib.strCells S) E) (hB : Below w.heap.size w w1) (hq0 : w.heap.size ≤ q) (hq1 : q < w1.heap.size)
    (hc : w1.cell? ⟨q, 0, none⟩ = some (.string s)) (hc1 : w1.cell? ⟨q, 1, none⟩ = some (.string t)) (hM0 : 0 ≤ M) (hM1 : M ≤ 9223372036854775807) (hb : S.size + (s.size + t.size) ≤ 140737488355328) :
    Calls Tryd.prog 97 #[.pointer (some ⟨p, 0, none⟩), .slice (some ⟨q, 0, none⟩) 2 2] w1 (PWrote p v M (rlay M S E (s ++ t)) w) :=
  lay_list p q 2 v M E S (s ++ t) [s, t] w w1 h hB hq0 hq1 (fun j hj => by
    obtain rfl | rfl : j = 0 ∨ j = 1 := by simp at hj; omega
    · exact hc
    · exact hc1) rfl (by omega) (by simp [cellsOf, Lib.strCells]) hM0 hM1 (by rw [ByteArray.size_append]; exact hb)

theorem lay_three (p q : Nat) (v : Value) (M E : Int) (S s t u : ByteArray) (w w1 : World) (h : PW w p v M (Lib.strCells S) E) (hB : Below w.heap.size w w1) (hq0 : w.heap.size ≤ q) (hq1 : q < w1.heap.size)
    (hc : w1.cell? ⟨q, 0, none⟩ = some (.string s)) (hc1 : w1.cell? ⟨q, 1, none⟩ = some (.string t)) (hc2 : w1.cell? ⟨q, 2, none⟩ = some (.string u)) (hM0 : 0 ≤ M) (hM1 : M ≤ 9223372036854775807) (hb : S.size + (s.size + t.size + u.size) ≤ 140737488355328) :
    Calls Tryd.prog 97 #[.pointer (some ⟨p, 0, none⟩), .slice (some ⟨q, 0, none⟩) 3 3] w1 (PWrote p v M (rlay M S E (s ++ t ++ u)) w) :=
  lay_list p q 3 v M E S (s ++ t ++ u) [s, t, u] w w1 h hB hq0 hq1 (fun j hj => by
    obtain rfl | rfl | rfl : j = 0 ∨ j = 1 ∨ j = 2 := by simp at hj; omega
    · exact hc
    · exact hc1
    · exact hc2) rfl (by omega) (by simp [cellsOf, Lib.strCells]) hM0 hM1 (by rw [ByteArray.size_append, ByteArray.size_append]; exact hb)

set_option maxHeartbeats 1000000 in
theorem praw_ok (p : Nat) (v : Value) (M E : Int) (S s : ByteArray) (w : World) (h : PW w p v M (Lib.strCells S) E) (hM0 : 0 ≤ M) (hM1 : M ≤ 9223372036854775807) (hb : S.size + s.size ≤ 140737488355328) (h4 : ((s.size : Int) % 4 == 0) = true) :
    Calls Tryd.prog 82 #[.pointer (some ⟨p, 0, none⟩), .string s] w (PWrote p v M (rlay M S E s) w) := by
  have H : Hid (∀ q w1, Below w.heap.size w w1 → w.heap.size ≤ q → q < w1.heap.size → w1.cell? ⟨q, 0, none⟩ = some (.string s) → Calls Tryd.prog 97 #[.pointer (some ⟨p, 0, none⟩), .slice (some ⟨q, 0, none⟩) 1 1] w1 (PWrote p v M (rlay M S E s) w)) :=
    fun q w1 hB h0 h1 hc => lay_one p q v M E S s w w1 h hB h0 h1 hc hM0 hM1 hb
  have hb4 : ((s.size : Int) % 4 != 0) = false := by rw [bne, h4]; rfl
  clear h hM0 hM1 hb
  go_enter Tryd.func82, Tryd.ntmps82
  go_wp2_with fail
  refine (H.out _ _ ((Below.refl _ _).alloc (Nat.le_refl _) _) (Nat.le_refl _) (by simp) (by simp)).mono ?_
  intro e w2 hp
  obtain ⟨rfl, hp2⟩ := hp
  have HP : Hid (∃ v', PW w2 p v' M (Lib.strCells (rlay M S E s).1) (rlay M S E s).2 ∧ Kept p v v' w w2) := hp2
  clear hp2
  go_wp2
  first | go_end0 | refine bodyPost_ret (results_none rfl _ _ _) rfl ?_
  exact ⟨rfl, HP.out⟩

set_option maxHeartbeats 1000000 in
theorem praw_bad (p : Nat) (v : Value) (M E : Int) (S s : ByteArray) (w : World) (h : PW w p v M (Lib.strCells S) E) (h4 : ((s.size : Int) % 4 == 0) = false) :
    Calls Tryd.prog 82 #[.pointer (some ⟨p, 0, none⟩), .string s] w (PWrote p v M (S, firstE E 1) w) := by
  have H : Hid (Calls Tryd.prog 84 #[.pointer (some ⟨p, 0, none⟩), .int .i64 1] w (PWrote p v M (S, firstE E 1) w)) := pfail_any p v M E 1 S w h
  have hb4 : ((s.size : Int) % 4 != 0) = true := by rw [bne, h4]; rfl
  clear h
  go_enter Tryd.func82, Tryd.ntmps82
  go_wp2_with fail
  refine H.out.mono ?_
  intro e w2 hp
  obtain ⟨rfl, hp2⟩ := hp
  have HP : Hid (∃ v', PW w2 p v' M (Lib.strCells (S, firstE E 1).1) (S, firstE E 1).2 ∧ Kept p v v' w w2) := hp2
  clear hp2
  go_wp2
  first | go_end0 | refine bodyPost_ret (results_none rfl _ _ _) rfl ?_
  exact ⟨rfl, HP.out⟩

end Go.Proofs.YthnnmgiihpdblaaDoor
