/- The document's own Reader in memory: what is left, what was wrong first. -/
import Derived.Test.YtihcdahmfdijoaaGreatDoorHr4
import Derived.Deep.RegionWith
namespace Go.Proofs.YtihcdahmfdijoaaGreatDoor
open Go.RowKit
structure DR (w : World) (p : Nat) (l : List UInt8) (E : Int) : Prop where
  l : w.cell? ⟨p, 0, none⟩ = some (.string ⟨l.toArray⟩)
  e : w.cell? ⟨p, 1, none⟩ = some (.int .i64 E)
  f0 : w.frozen? ⟨p, 0, none⟩ = false
  f1 : w.frozen? ⟨p, 1, none⟩ = false

theorem DR.lt {w : World} {p : Nat} {l : List UInt8} {E : Int} (h : DR w p l E) : p < w.heap.size := by
  rcases Nat.lt_or_ge p w.heap.size with h1 | h1
  · exact h1
  · have := h.l
    simp [World.cell?, Array.getElem?_eq_none h1] at this
theorem DR.below {w w' : World} {p : Nat} {l : List UInt8} {E : Int} (h : DR w p l E) (hB : Below w.heap.size w w') : DR w' p l E := by
  have hb := hB.block p h.lt
  exact ⟨(cells_same hb 0).1.trans h.l, (cells_same hb 1).1.trans h.e, (cells_same hb 0).2.trans h.f0, (cells_same hb 1).2.trans h.f1⟩
theorem DR.setE {w : World} {p : Nat} {l : List UInt8} {E : Int} (h : DR w p l E) (F : Int) : DR (w.setCell ⟨p, 1, none⟩ (.int .i64 F)) p l F :=
  ⟨by rw [World.cell?_setCell_other _ _ _ _ (by simp)]; exact h.l, World.cell?_setCell_same _ _ _ h.e, by rw [World.frozen?_setCell]; exact h.f0, by rw [World.frozen?_setCell]; exact h.f1⟩
theorem DR.setL {w : World} {p : Nat} {l : List UInt8} {E : Int} (h : DR w p l E) (m : List UInt8) : DR (w.setCell ⟨p, 0, none⟩ (.string ⟨m.toArray⟩)) p m E :=
  ⟨World.cell?_setCell_same _ _ _ h.l, by rw [World.cell?_setCell_other _ _ _ _ (by simp)]; exact h.e, by rw [World.frozen?_setCell]; exact h.f0, by rw [World.frozen?_setCell]; exact h.f1⟩
/-- what a call answers, and what stands behind it -/
def DPost {α : Type} (p : Nat) (l : List UInt8) (E : Int) (d : α) (f : List UInt8 → Rd α) (v : α → Value) (w : World) (e : Ending) (w' : World) : Prop :=
  e = .returned (v ((⟨l, E⟩ : Rs).go d f).1) ∧ DR w' p ((⟨l, E⟩ : Rs).go d f).2.l ((⟨l, E⟩ : Rs).go d f).2.e ∧ Sole p w w'

theorem dfail_first (p : Nat) (F : Int) (w : World) (h1 : w.cell? ⟨p, 1, none⟩ = some (.int .i64 0)) (hf : w.frozen? ⟨p, 1, none⟩ = false) : Calls Tryz.prog 85 #[.pointer (some ⟨p, 0, none⟩), .int .i64 F] w fun e w' => e = .returned (.tuple #[]) ∧ w' = w.setCell ⟨p, 1, none⟩ (.int .i64 F) := by
  go_enter Tryz.func85, Tryz.ntmps85
  go_wp2
  first | go_end0 | refine bodyPost_ret (results_none rfl _ _ _) rfl ?_
  exact ⟨rfl, rfl⟩
theorem dfail_later (p : Nat) (E F : Int) (w : World) (h1 : w.cell? ⟨p, 1, none⟩ = some (.int .i64 E)) (hE : (E == 0) = false) : Calls Tryz.prog 85 #[.pointer (some ⟨p, 0, none⟩), .int .i64 F] w fun e w' => e = .returned (.tuple #[]) ∧ w' = w := by
  go_enter Tryz.func85, Tryz.ntmps85
  go_wp2
  first | go_end0 | refine bodyPost_ret (results_none rfl _ _ _) rfl ?_
  exact ⟨rfl, rfl⟩
theorem dfail_any (p : Nat) (l : List UInt8) (E F : Int) (w : World) (h : DR w p l E) : Calls Tryz.prog 85 #[.pointer (some ⟨p, 0, none⟩), .int .i64 F] w fun e w' => e = .returned (.tuple #[]) ∧ DR w' p l (if E = 0 then F else E) ∧ Sole p w w' := by
  by_cases hE : E = 0
  · subst hE
    refine (dfail_first p F w h.e h.f1).mono ?_
    rintro e w' ⟨rfl, rfl⟩
    exact ⟨rfl, h.setE F, Sole.setCell w 1 _⟩
  · rw [if_neg hE]
    refine (dfail_later p E F w h.e (beq_eq_false_iff_ne.2 hE)).mono ?_
    rintro e w' ⟨rfl, rfl⟩
    exact ⟨rfl, h, Sole.refl _ _⟩

theorem dnew_any (l : List UInt8) (w : World) : Calls Tryz.prog 23 #[.string ⟨l.toArray⟩] w fun e w' => e = .returned (.pointer (some ⟨w.heap.size, 0, none⟩)) ∧ w' = w.alloc (.cells #[.string ⟨l.toArray⟩, .int .i64 0] 86) := by
  go_enter Tryz.func23, Tryz.ntmps23
  go_wp2
  go_ret
  exact ⟨rfl, rfl⟩
theorem DR.new (l : List UInt8) (w : World) : DR (w.alloc (.cells #[.string ⟨l.toArray⟩, .int .i64 0] 86)) w.heap.size l 0 := by
  refine ⟨?_, ?_, ?_, ?_⟩ <;> simp

theorem ddone_bad (p : Nat) (E : Int) (w : World) (h1 : w.cell? ⟨p, 1, none⟩ = some (.int .i64 E)) (hE : (E == 0) = false) : Calls Tryz.prog 25 #[.pointer (some ⟨p, 0, none⟩)] w fun e w' => e = .returned (.int .i64 E) ∧ Below w.heap.size w w' := by
  go_enter Tryz.func25, Tryz.ntmps25
  go_wp2
  go_ret
  exact ⟨rfl, Below.refl _ _⟩
theorem ddone_end (p : Nat) (w : World) (h0 : w.cell? ⟨p, 0, none⟩ = some (.string ⟨#[]⟩)) (h1 : w.cell? ⟨p, 1, none⟩ = some (.int .i64 0)) : Calls Tryz.prog 25 #[.pointer (some ⟨p, 0, none⟩)] w fun e w' => e = .returned (.int .i64 0) ∧ Below w.heap.size w w' := by
  go_enter Tryz.func25, Tryz.ntmps25
  go_wp2
  go_ret
  exact ⟨rfl, Below.refl _ _⟩
theorem ddone_more (p : Nat) (s : ByteArray) (w : World) (h0 : w.cell? ⟨p, 0, none⟩ = some (.string s)) (hs : (s.toList == []) = false) (h1 : w.cell? ⟨p, 1, none⟩ = some (.int .i64 0)) : Calls Tryz.prog 25 #[.pointer (some ⟨p, 0, none⟩)] w fun e w' => e = .returned (.int .i64 21) ∧ Below w.heap.size w w' := by
  go_enter Tryz.func25, Tryz.ntmps25
  go_wp2
  go_ret
  exact ⟨rfl, Below.refl _ _⟩
theorem ddone_any (p : Nat) (l : List UInt8) (E : Int) (w : World) (h : DR w p l E) : Calls Tryz.prog 25 #[.pointer (some ⟨p, 0, none⟩)] w fun e w' => e = .returned (.int .i64 (rdDone l E)) ∧ Below w.heap.size w w' := by
  unfold rdDone
  by_cases he : E = 0
  · subst he
    by_cases hl : l = []
    · subst hl
      rw [if_neg (by simp)]
      exact ddone_end p w h.l h.e
    · rw [if_pos ⟨rfl, hl⟩]
      refine ddone_more p _ w h.l ?_ h.e
      rw [ByteArray.toList_eq]
      exact beq_eq_false_iff_ne.2 (by simpa using hl)
  · rw [if_neg (fun c => he c.1)]
    exact ddone_bad p E w h.e (beq_eq_false_iff_ne.2 he)

theorem there_bad (p : Nat) (n E : Int) (w : World) (h1 : w.cell? ⟨p, 1, none⟩ = some (.int .i64 E)) (hE : (E == 0) = false) : Calls Tryz.prog 50 #[.pointer (some ⟨p, 0, none⟩), .int .i64 n] w fun e w' => e = .returned (.bool false) ∧ w' = w := by
  go_enter Tryz.func50, Tryz.ntmps50
  go_wp2
  go_ret
  exact ⟨rfl, rfl⟩
theorem there_ok (p : Nat) (n : Int) (s : ByteArray) (w : World) (h0 : w.cell? ⟨p, 0, none⟩ = some (.string s)) (h1 : w.cell? ⟨p, 1, none⟩ = some (.int .i64 0)) (hn : ¬ (s.size : Int) < n) : Calls Tryz.prog 50 #[.pointer (some ⟨p, 0, none⟩), .int .i64 n] w fun e w' => e = .returned (.bool true) ∧ w' = w := by
  go_enter Tryz.func50, Tryz.ntmps50
  go_wp2
  go_ret
  exact ⟨rfl, rfl⟩
theorem there_short (p : Nat) (n : Int) (s : ByteArray) (w : World) (h0 : w.cell? ⟨p, 0, none⟩ = some (.string s)) (h1 : w.cell? ⟨p, 1, none⟩ = some (.int .i64 0)) (hf : w.frozen? ⟨p, 1, none⟩ = false) (hn : (s.size : Int) < n) : Calls Tryz.prog 50 #[.pointer (some ⟨p, 0, none⟩), .int .i64 n] w fun e w' => e = .returned (.bool false) ∧ w' = w.setCell ⟨p, 1, none⟩ (.int .i64 20) := by
  go_enter Tryz.func50, Tryz.ntmps50
  go_wp2
  go_ret
  exact ⟨rfl, rfl⟩

theorem takes_core (p : Nat) (n : Nat) (s a b : ByteArray) (w : World) (h0 : w.cell? ⟨p, 0, none⟩ = some (.string s)) (hf : w.frozen? ⟨p, 0, none⟩ = false) (hn : (n : Int) ≤ (s.size : Int)) (ha : s.extract 0 n = a) (hb : s.extract n s.size = b) :
    Calls Tryz.prog 51 #[.pointer (some ⟨p, 0, none⟩), .int .i64 n] w fun e w' => e = .returned (.string a) ∧ w' = w.setCell ⟨p, 0, none⟩ (.string b) := by
  go_enter Tryz.func51, Tryz.ntmps51
  go_wp2
  go_ret
  exact ⟨by rw [← ha]; rfl, by rw [← hb]⟩
theorem takes_any (p n : Nat) (l : List UInt8) (E : Int) (w : World) (h : DR w p l E) (hn : n ≤ l.length) :
    Calls Tryz.prog 51 #[.pointer (some ⟨p, 0, none⟩), .int .i64 n] w fun e w' => e = .returned (.string ⟨(l.take n).toArray⟩) ∧ DR w' p (l.drop n) E ∧ Sole p w w' := by
  refine (takes_core p n _ _ _ w h.l h.f0 (by rw [Bs_size]; omega) (show (⟨l.toArray⟩ : ByteArray).extract 0 n = ⟨(l.take n).toArray⟩ by rw [Bs_extract]; simp) (show (⟨l.toArray⟩ : ByteArray).extract n (⟨l.toArray⟩ : ByteArray).size = ⟨(l.drop n).toArray⟩ by rw [Bs_size, Bs_from])).mono ?_
  rintro e w' ⟨rfl, rfl⟩
  exact ⟨rfl, h.setL _, Sole.setCell w 0 _⟩

theorem dword_any (n : Int) (w : World) : Calls Tryz.prog 84 #[.int .i64 n] w fun e w' => e = .returned (.bool (decide (0 ≤ n) && decide (n ≤ 4294967295))) ∧ w' = w := by
  by_cases h0 : 0 ≤ n
  · by_cases h1 : n ≤ 4294967295
    · rw [decide_eq_true h0, decide_eq_true h1]
      go_enter Tryz.func84, Tryz.ntmps84
      go_wp2
      go_ret
      exact ⟨rfl, rfl⟩
    · rw [decide_eq_true h0, decide_eq_false h1]
      go_enter Tryz.func84, Tryz.ntmps84
      go_wp2
      go_ret
      exact ⟨rfl, rfl⟩
  · rw [decide_eq_false h0]
    go_enter Tryz.func84, Tryz.ntmps84
    go_wp2
    go_ret
    exact ⟨rfl, rfl⟩

end Go.Proofs.YtihcdahmfdijoaaGreatDoor
