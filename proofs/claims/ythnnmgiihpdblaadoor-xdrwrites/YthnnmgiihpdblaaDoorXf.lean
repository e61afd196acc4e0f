/- The document's own Writer: what lies in its block, what one laying does, what else stays. -/
import Derived.Test.YthnnmgiihpdblaaDoorXe
import Derived.Deep.QuietTactic
import Derived.BigQuiet
namespace Go.Proofs.YthnnmgiihpdblaaDoor
open Go.RowKit

/-- All blocks below the heap's end but one are as they were. -/
structure Only (p : Nat) (w w' : World) : Prop where
  os : w'.os = w.os
  tape : w'.tape = w.tape
  output : w'.output = w.output
  size : w.heap.size ≤ w'.heap.size
  block : ∀ b, b < w.heap.size → b ≠ p → w'.heap[b]? = w.heap[b]?

theorem Only.refl (p : Nat) (w : World) : Only p w w := ⟨rfl, rfl, rfl, Nat.le_refl _, fun _ _ _ => rfl⟩
theorem Only.trans {p : Nat} {a b c : World} (h : Only p a b) (k : Only p b c) : Only p a c :=
  ⟨k.os.trans h.os, k.tape.trans h.tape, k.output.trans h.output, Nat.le_trans h.size k.size, fun i hi hp => (k.block i (Nat.lt_of_lt_of_le hi h.size) hp).trans (h.block i hi hp)⟩
theorem Only.of_below {p : Nat} {a b : World} (h : Below a.heap.size a b) : Only p a b := ⟨h.os, h.tape, h.output, h.size, fun i hi _ => h.block i hi⟩
theorem Only.drewN (p : Nat) (w : World) (k : Nat) : Only p w (w.drewN k) := Only.of_below (below_drewN (Below.refl _ _) k)
theorem Only.setCell {p : Nat} (w : World) (o : Nat) (v : Value) : Only p w (w.setCell ⟨p, o, none⟩ v) :=
  ⟨rfl, rfl, rfl, by simp [World.setCell], fun b _ hb => Below.heap_setCell _ _ _ _ hb⟩

/-- A Writer of the document's: what it holds, how much it may, what was wrong first. -/
structure RW (w : World) (p : Nat) (S : ByteArray) (M E : Int) : Prop where
  s : w.cell? ⟨p, 0, none⟩ = some (.string S)
  m : w.cell? ⟨p, 1, none⟩ = some (.int .i64 M)
  e : w.cell? ⟨p, 2, none⟩ = some (.int .i64 E)
  f0 : w.frozen? ⟨p, 0, none⟩ = false
  f1 : w.frozen? ⟨p, 1, none⟩ = false
  f2 : w.frozen? ⟨p, 2, none⟩ = false

theorem RW.lt {w : World} {p : Nat} {S : ByteArray} {M E : Int} (h : RW w p S M E) : p < w.heap.size := by
  rcases Nat.lt_or_ge p w.heap.size with h1 | h1
  · exact h1
  · have := h.s
    simp [World.cell?, Array.getElem?_eq_none h1] at this

theorem RW.drewN {w : World} {p : Nat} {S : ByteArray} {M E : Int} (h : RW w p S M E) (k : Nat) : RW (w.drewN k) p S M E :=
  ⟨h.s, h.m, h.e, h.f0, h.f1, h.f2⟩

theorem RW.setS {w : World} {p : Nat} {S : ByteArray} {M E : Int} (h : RW w p S M E) (T : ByteArray) : RW (w.setCell ⟨p, 0, none⟩ (.string T)) p T M E :=
  ⟨World.cell?_setCell_same _ _ _ h.s, by rw [World.cell?_setCell_other _ _ _ _ (by simp)]; exact h.m, by rw [World.cell?_setCell_other _ _ _ _ (by simp)]; exact h.e,
   by rw [World.frozen?_setCell]; exact h.f0, by rw [World.frozen?_setCell]; exact h.f1, by rw [World.frozen?_setCell]; exact h.f2⟩
theorem RW.setE {w : World} {p : Nat} {S : ByteArray} {M E : Int} (h : RW w p S M E) (F : Int) : RW (w.setCell ⟨p, 2, none⟩ (.int .i64 F)) p S M F :=
  ⟨by rw [World.cell?_setCell_other _ _ _ _ (by simp)]; exact h.s, by rw [World.cell?_setCell_other _ _ _ _ (by simp)]; exact h.m, World.cell?_setCell_same _ _ _ h.e,
   by rw [World.frozen?_setCell]; exact h.f0, by rw [World.frozen?_setCell]; exact h.f1, by rw [World.frozen?_setCell]; exact h.f2⟩

set_option maxHeartbeats 1000000 in
theorem lays_wrong (p : Nat) (s S : ByteArray) (M E : Int) (w : World) (h : RW w p S M E) (hE : (E == 0) = false) :
    Calls Tryd.prog 107 #[.pointer (some ⟨p, 0, none⟩), .string s] w fun e w' => e = .returned (.tuple #[]) ∧ w' = w := by
  have h2 := h.e
  clear h
  go_enter Tryd.func107, Tryd.ntmps107
  go_wp2
  first | go_end0 | refine bodyPost_ret (results_none rfl _ _ _) rfl ?_
  exact ⟨rfl, rfl⟩

set_option maxHeartbeats 1000000 in
theorem lays_long (p : Nat) (s S : ByteArray) (M : Int) (w : World) (h : RW w p S M 0) (hl : M < (S.size : Int) + (s.size : Int)) (hs : (S.size : Int) + (s.size : Int) ≤ 9223372036854775807) :
    Calls Tryd.prog 107 #[.pointer (some ⟨p, 0, none⟩), .string s] w fun e w' => e = .returned (.tuple #[]) ∧ ∃ k, w' = (w.drewN k).setCell ⟨p, 2, none⟩ (.int .i64 23) := by
  have h0 := h.s
  have h1 := h.m
  have h2 := h.e
  have h5 := h.f2
  have hw : IntKind.i64.wrap ((S.size : Int) + (s.size : Int)) = (S.size : Int) + (s.size : Int) := by rw [IntKind.wrap_i64]; omega
  clear h
  go_enter Tryd.func107, Tryd.ntmps107
  go_wp2_with fail
  go_quiet (fail)
  go_wp2
  first | go_end0 | refine bodyPost_ret (results_none rfl _ _ _) rfl ?_
  exact ⟨rfl, _, rfl⟩

set_option maxHeartbeats 1000000 in
theorem lays_fits (p : Nat) (s S : ByteArray) (M : Int) (w : World) (h : RW w p S M 0) (hl : (S.size : Int) + (s.size : Int) ≤ M) (hs : (S.size : Int) + (s.size : Int) ≤ 9223372036854775807) :
    Calls Tryd.prog 107 #[.pointer (some ⟨p, 0, none⟩), .string s] w fun e w' => e = .returned (.tuple #[]) ∧ ∃ k, w' = (w.drewN k).setCell ⟨p, 0, none⟩ (.string (S ++ s)) := by
  have h0 := h.s
  have h1 := h.m
  have h2 := h.e
  have h5 := h.f0
  have hw : IntKind.i64.wrap ((S.size : Int) + (s.size : Int)) = (S.size : Int) + (s.size : Int) := by rw [IntKind.wrap_i64]; omega
  have hln : (9223372036854775807 < S.size + s.size) = False := by apply eq_false; omega
  clear h hs
  go_enter Tryd.func107, Tryd.ntmps107
  go_wp2_with fail
  go_quiet (fail)
  go_wp2
  first | go_end0 | refine bodyPost_ret (results_none rfl _ _ _) rfl ?_
  exact ⟨rfl, _, rfl⟩

/-- What laying a text does. -/
def rlay (M : Int) (S : ByteArray) (E : Int) (s : ByteArray) : ByteArray × Int := if E ≠ 0 then (S, E) else if M < (S.size : Int) + (s.size : Int) then (S, 23) else (S ++ s, 0)

theorem lays_any (p : Nat) (s S : ByteArray) (M E : Int) (w : World) (h : RW w p S M E) (hs : (S.size : Int) + (s.size : Int) ≤ 9223372036854775807) :
    Calls Tryd.prog 107 #[.pointer (some ⟨p, 0, none⟩), .string s] w fun e w' => e = .returned (.tuple #[]) ∧ RW w' p (rlay M S E s).1 M (rlay M S E s).2 ∧ Only p w w' := by
  unfold rlay
  by_cases hE : E = 0
  · subst hE
    rw [if_neg (by simp)]
    by_cases hl : M < (S.size : Int) + (s.size : Int)
    · rw [if_pos hl]
      refine (lays_long p s S M w h hl hs).mono ?_
      rintro e w' ⟨rfl, k, rfl⟩
      exact ⟨rfl, (h.drewN k).setE 23, (Only.drewN p w k).trans (Only.setCell _ _ _)⟩
    · rw [if_neg hl]
      refine (lays_fits p s S M w h (by omega) hs).mono ?_
      rintro e w' ⟨rfl, k, rfl⟩
      exact ⟨rfl, (h.drewN k).setS (S ++ s), (Only.drewN p w k).trans (Only.setCell _ _ _)⟩
  · rw [if_pos hE]
    refine (lays_wrong p s S M E w h (beq_eq_false_iff_ne.2 hE)).mono ?_
    rintro e w' ⟨rfl, rfl⟩
    exact ⟨rfl, h, Only.refl _ _⟩

set_option maxHeartbeats 400000 in
theorem rfail_first (p : Nat) (S : ByteArray) (M F : Int) (w : World) (h : RW w p S M 0) :
    Calls Tryd.prog 85 #[.pointer (some ⟨p, 0, none⟩), .int .i64 F] w fun e w' => e = .returned (.tuple #[]) ∧ w' = w.setCell ⟨p, 2, none⟩ (.int .i64 F) := by
  have h2 := h.e
  have h5 := h.f2
  clear h
  go_enter Tryd.func85, Tryd.ntmps85
  go_wp2
  first | go_end0 | refine bodyPost_ret (results_none rfl _ _ _) rfl ?_
  exact ⟨rfl, rfl⟩
set_option maxHeartbeats 400000 in
theorem rfail_later (p : Nat) (S : ByteArray) (M E F : Int) (w : World) (h : RW w p S M E) (hE : (E == 0) = false) :
    Calls Tryd.prog 85 #[.pointer (some ⟨p, 0, none⟩), .int .i64 F] w fun e w' => e = .returned (.tuple #[]) ∧ w' = w := by
  have h2 := h.e
  clear h
  go_enter Tryd.func85, Tryd.ntmps85
  go_wp2
  first | go_end0 | refine bodyPost_ret (results_none rfl _ _ _) rfl ?_
  exact ⟨rfl, rfl⟩
/-- The first that is wrong stays. -/
def firstE (E F : Int) : Int := if E = 0 then F else E
theorem rfail_any (p : Nat) (S : ByteArray) (M E F : Int) (w : World) (h : RW w p S M E) :
    Calls Tryd.prog 85 #[.pointer (some ⟨p, 0, none⟩), .int .i64 F] w fun e w' => e = .returned (.tuple #[]) ∧ RW w' p S M (firstE E F) ∧ Only p w w' := by
  unfold firstE
  by_cases hE : E = 0
  · subst hE
    rw [if_pos rfl]
    refine (rfail_first p S M F w h).mono ?_
    rintro e w' ⟨rfl, rfl⟩
    exact ⟨rfl, h.setE F, Only.setCell _ _ _⟩
  · rw [if_neg hE]
    refine (rfail_later p S M E F w h (beq_eq_false_iff_ne.2 hE)).mono ?_
    rintro e w' ⟨rfl, rfl⟩
    exact ⟨rfl, h, Only.refl _ _⟩

set_option maxHeartbeats 400000 in
theorem rlen (p : Nat) (S : ByteArray) (M E : Int) (w : World) (h : RW w p S M E) :
    Calls Tryd.prog 87 #[.pointer (some ⟨p, 0, none⟩)] w fun e w' => e = .returned (.int .i64 S.size) ∧ w' = w := by
  have h0 := h.s
  clear h
  go_enter Tryd.func87, Tryd.ntmps87
  go_wp2
  go_ret
  exact ⟨rfl, rfl⟩
set_option maxHeartbeats 400000 in
theorem rdone_ok (p : Nat) (S : ByteArray) (M : Int) (w : World) (h : RW w p S M 0) :
    Calls Tryd.prog 86 #[.pointer (some ⟨p, 0, none⟩)] w fun e w' => e = .returned (.tuple #[.string S, .int .i64 0]) ∧ w' = w := by
  have h0 := h.s
  have h2 := h.e
  clear h
  go_enter Tryd.func86, Tryd.ntmps86
  go_wp2
  go_ret2
  exact ⟨rfl, rfl⟩
set_option maxHeartbeats 400000 in
theorem rdone_wrong (p : Nat) (S : ByteArray) (M E : Int) (w : World) (h : RW w p S M E) (hE : (E == 0) = false) :
    Calls Tryd.prog 86 #[.pointer (some ⟨p, 0, none⟩)] w fun e w' => e = .returned (.tuple #[.string ⟨#[]⟩, .int .i64 E]) ∧ ∃ k, w' = w.drewN k := by
  have h2 := h.e
  have hE2 : (E != 0) = true := by rw [bne_iff_ne]; exact beq_eq_false_iff_ne.1 hE
  clear h
  go_enter Tryd.func86, Tryd.ntmps86
  go_wp2_with fail
  go_quiet (fail)
  go_wp2
  go_ret2
  exact ⟨rfl, _, rfl⟩
theorem rdone_any (p : Nat) (S : ByteArray) (M E : Int) (w : World) (h : RW w p S M E) :
    Calls Tryd.prog 86 #[.pointer (some ⟨p, 0, none⟩)] w fun e w' => e = .returned (.tuple #[.string (if E = 0 then S else ⟨#[]⟩), .int .i64 E]) ∧ ∃ k, w' = w.drewN k := by
  by_cases hE : E = 0
  · subst hE; rw [if_pos rfl]; exact (rdone_ok p S M w h).mono fun e w' ⟨a, b⟩ => ⟨a, 0, b⟩
  · rw [if_neg hE]; exact rdone_wrong p S M E w h (beq_eq_false_iff_ne.2 hE)

end Go.Proofs.YthnnmgiihpdblaaDoor
