/- The program's Writer: Done. Both Writers: new ones; are both alike? Both Writers at once: one call of both. One call of both Writers: the document's answer. One call of both Writers: each kind, whatever the script says. Two pairs of Writers at once: what a call of the one pair leaves of the other. -/
import Derived.Test.YtihcdahmfdijoaaGreatDoorHx5
namespace Go.Proofs.YtihcdahmfdijoaaGreatDoor
open Go.RowKit
set_option maxHeartbeats 1000000 in
theorem pdone_wrong (p : Nat) (v : Value) (M E : Int) (S : ByteArray) (w : World) (h : PW w p v M (Lib.strCells S) E) (hT : ErrT w) (hE : E ≠ 0) :
    Calls Tryz.prog 58 #[.pointer (some ⟨p, 0, none⟩)] w fun e w' => e = .returned (.tuple #[.string ⟨#[]⟩, .int .i64 E]) ∧ Below w.heap.size w w' := by
  have H0 : Hid (∀ w1, w1 = w → Calls Tryz.prog 42 #[.pointer (some ⟨p, 2, none⟩)] w1 fun r w' => r = .returned (.bool true) ∧ w' = w) := fun w1 e => by rw [e]; exact any_true p E w h.e hE
  have H1 : Hid (Calls Tryz.prog 43 #[.pointer (some ⟨p, 2, none⟩)] w fun r w' => r = .returned (.int .i64 E) ∧ Below w.heap.size w w') := number_any ⟨p, 2, none⟩ E w hT h.e
  clear h hT hE
  go_enter Tryz.func58, Tryz.ntmps58
  go_wp2_with fail
  refine (H0.out _ rfl).mono ?_
  rintro e w0 ⟨rfl, hw0⟩
  have hw1 := hw0.symm
  clear hw0
  subst hw1
  go_wp2_with fail
  refine H1.out.mono ?_
  rintro e w2 ⟨rfl, hB⟩
  have HB : Hid (Below w.heap.size w w2) := hB
  clear hB
  go_wp2
  go_ret2
  exact ⟨rfl, HB.out⟩

/-- The Writer's bytes as a text. -/
theorem own_text {w : World} {base : Nat} {v : Value} {S : ByteArray} (h : w.ownsRow base 5 1 v S.size (Lib.strCells S)) : (convert 92 9 v).run Tryz.prog w = .ok (.string S) w := by
  have hS : (⟨S.data.toList.toArray⟩ : ByteArray) = S := by simp
  have hc := fun g => h.cells (g := g)
  rcases h.2 with ⟨rfl, h0⟩ | ⟨g, cap, cur, rfl, _, hg, _⟩
  · have h1 := run_convert_bytes_nil (P := Tryz.prog) (w := w) 92 5 Tryz.underlying92 Tryz.underlying5 0 0
    have e0 : S = ⟨#[]⟩ := by
      rw [← hS]
      have : S.data.toList = [] := by rw [← List.length_eq_zero_iff, Array.length_toList]; exact h0
      rw [this]
    rw [e0]
    exact h1 9 Tryz.underlying9
  · have h1 := run_convert_bytes_back (P := Tryz.prog) w 92 9 5 ⟨g, 0, none⟩ cap S.data.toList Tryz.underlying92 Tryz.underlying5 Tryz.underlying9 (fun t ht => by
      refine hc g rfl t _ ?_
      simp [Lib.strCells, List.getElem?_map, List.getElem?_eq_getElem ht])
    have hl : S.data.toList.length = S.size := by simp
    rw [hS, hl] at h1
    exact h1

set_option maxHeartbeats 1000000 in
theorem pdone_ok (p : Nat) (v : Value) (M : Int) (S : ByteArray) (w : World) (h : PW w p v M (Lib.strCells S) 0) :
    Calls Tryz.prog 58 #[.pointer (some ⟨p, 0, none⟩)] w fun e w' => e = .returned (.tuple #[.string S, .int .i64 0]) ∧ ∃ k, w' = w.drewN k := by
  have H0 : Hid (∀ w1, w1 = w → Calls Tryz.prog 42 #[.pointer (some ⟨p, 2, none⟩)] w1 fun r w' => r = .returned (.bool false) ∧ w' = w) := fun w1 e => by rw [e]; exact any_any ⟨p, 2, none⟩ 0 w h.e
  obtain ⟨a, cap, hv⟩ := own_form h.own
  have hs := h.s
  have hcv := own_text (by have := h.own; rw [Lib.strCells_length] at this; exact this)
  rw [hv] at hs hcv
  clear h hv
  generalize (Lib.strCells S).length = n at hs hcv
  go_enter Tryz.func58, Tryz.ntmps58
  go_wp2_with fail
  refine (H0.out _ rfl).mono ?_
  rintro e w0 ⟨rfl, hw0⟩
  have hw1 := hw0.symm
  clear hw0
  subst hw1
  go_wp2
  go_ret2
  exact ⟨rfl, 0, rfl⟩



end Go.Proofs.YtihcdahmfdijoaaGreatDoor
namespace Go.Proofs.YtihcdahmfdijoaaGreatDoor
open Go.RowKit
theorem pdone_any (p : Nat) (v : Value) (M E : Int) (S : ByteArray) (w : World) (h : PW w p v M (Lib.strCells S) E) (hT : ErrT w) :
    Calls Tryz.prog 58 #[.pointer (some ⟨p, 0, none⟩)] w fun e w' => e = .returned (.tuple #[.string (if E = 0 then S else ⟨#[]⟩), .int .i64 E]) ∧ Below w.heap.size w w' := by
  by_cases hE : E = 0
  · subst hE
    rw [if_pos rfl]
    refine (pdone_ok p v M S w h).mono ?_
    rintro e w' ⟨h1, k, rfl⟩
    exact ⟨h1, below_drewN (Below.refl _ _) k⟩
  · rw [if_neg hE]
    exact pdone_wrong p v M E S w h hT hE

set_option maxHeartbeats 1000000 in
theorem pnew (m : Int) (w : World) : Calls Tryz.prog 34 #[.int .i64 m] w fun e w' => e = .returned (.pointer (some ⟨w.heap.size, 0, none⟩)) ∧ w' = w.alloc (.cells #[.int .i64 (max m 0), .slice none 0 0, .nilIface] 94) := by
  go_enter Tryz.func34, Tryz.ntmps34
  go_wp2
  · go_ret
    refine ⟨rfl, ?_⟩
    rw [Int.max_eq_right (by omega)]
  · go_ret
    refine ⟨rfl, ?_⟩
    rw [Int.max_eq_left (by omega)]

theorem PW.new (m : Int) (w : World) : PW (w.alloc (.cells #[.int .i64 (max m 0), .slice none 0 0, .nilIface] 94)) w.heap.size (.slice none 0 0) (max m 0) (Lib.strCells ⟨#[]⟩) 0 :=
  ⟨by simp, by simp, by simp [trV], by simp, by simp, World.ownsRow_nil _ _ _ _⟩

end Go.Proofs.YtihcdahmfdijoaaGreatDoor
namespace Go.Proofs.YtihcdahmfdijoaaGreatDoor
open Go.RowKit
/-- Both Writers hold the same. -/
structure WW (w : World) (p q : Nat) (v : Value) (M : Int) (S : ByteArray) (E : Int) : Prop where
  pw : PW w p v M (Lib.strCells S) E
  rw : RW w q S M E
  pq : p ≠ q
  qv : some q ≠ v.ownBlock

/-- What stays but both Writers' blocks and the row of the program's. -/
structure KB (p q : Nat) (v v' : Value) (w w' : World) : Prop where
  os : w'.os = w.os
  tape : w'.tape = w.tape
  output : w'.output = w.output
  size : w.heap.size ≤ w'.heap.size
  block : ∀ b, b < w.heap.size → b ≠ p → b ≠ q → some b ≠ v.ownBlock → w'.heap[b]? = w.heap[b]?
  row : v'.ownBlock = v.ownBlock ∨ ∃ g, w.heap.size ≤ g ∧ v'.ownBlock = some g

/-- Between the two calls. -/
structure WB (w0 w : World) (p q : Nat) (v0 v : Value) (M : Int) (S T : ByteArray) (E F : Int) : Prop where
  pw : PW w p v M (Lib.strCells T) F
  rw : RW w q S M E
  pq : p ≠ q
  qv : some q ≠ v.ownBlock
  kb : KB p q v0 v w0 w

theorem WW.first {w w1 : World} {p q : Nat} {v : Value} {M : Int} {S : ByteArray} {E : Int} {r : ByteArray × Int} {e : Ending} (h : WW w p q v M S E) (hp : PWrote p v M r w e w1) :
    e = .returned (.tuple #[]) ∧ ∃ v', WB w w1 p q v v' M S r.1 E r.2 := by
  obtain ⟨h1, v', h2, h3⟩ := hp
  refine ⟨h1, v', h2, h.rw.of_block (h3.block q h.rw.lt (fun e => h.pq e.symm) h.qv), h.pq, ?_, ⟨h3.os, h3.tape, h3.output, h3.size, fun b hb hp _ hv => h3.block b hb hp hv, h3.row⟩⟩
  rcases h3.row with e1 | ⟨g, hg, e1⟩
  · rw [e1]; exact h.qv
  · rw [e1]; intro e2; cases e2; have := h.rw.lt; omega

theorem PW.only {w w' : World} {p q : Nat} {v : Value} {M E : Int} {xs : List Value} (h : PW w p v M xs E) (hO : Only q w w') (hpq : p ≠ q) (hqv : some q ≠ v.ownBlock) : PW w' p v M xs E := by
  have hb : w'.heap[p]? = w.heap[p]? := hO.block p h.lt hpq
  have hg : w.grownBy w' (some q) := ⟨hO.os, hO.tape, hO.output, hO.size, fun k hk hk2 => hO.block k hk (fun e => hk2 (by rw [e]))⟩
  exact ⟨(cells_of_block hb 0).1.trans h.m, (cells_of_block hb 1).1.trans h.s, (cells_of_block hb 2).1.trans h.e, (cells_of_block hb 1).2.trans h.f1, (cells_of_block hb 2).2.trans h.f2,
    h.own.kept hg (.inr fun e => hqv e.symm)⟩

theorem WB.below {w0 w w1 : World} {p q : Nat} {v0 v : Value} {M : Int} {S T : ByteArray} {E F : Int} (h : WB w0 w p q v0 v M S T E F) (hB : Below w.heap.size w w1) : WB w0 w1 p q v0 v M S T E F :=
  ⟨h.pw.below hB, h.rw.below hB, h.pq, h.qv, ⟨hB.os.trans h.kb.os, hB.tape.trans h.kb.tape, hB.output.trans h.kb.output, Nat.le_trans h.kb.size hB.size,
    fun b hb h1 h2 h3 => (hB.block b (Nat.lt_of_lt_of_le hb h.kb.size)).trans (h.kb.block b hb h1 h2 h3), h.kb.row⟩⟩

theorem rlay_size (M : Int) (S s : ByteArray) (E : Int) : (rlay M S E s).1.size ≤ S.size + s.size := by
  unfold rlay
  split
  · exact Nat.le_add_right _ _
  · split
    · exact Nat.le_add_right _ _
    · rw [ByteArray.size_append]; exact Nat.le_refl _



end Go.Proofs.YtihcdahmfdijoaaGreatDoor
namespace Go.Proofs.YtihcdahmfdijoaaGreatDoor
open Go.RowKit
theorem WW.below {w w1 : World} {p q : Nat} {v : Value} {M : Int} {S : ByteArray} {E : Int} (h : WW w p q v M S E) (hB : Below w.heap.size w w1) : WW w1 p q v M S E := ⟨h.pw.below hB, h.rw.below hB, h.pq, h.qv⟩
theorem KB.behind {w w1 w2 : World} {p q : Nat} {v v' : Value} (hB : Below w.heap.size w w1) (k : KB p q v v' w1 w2) : KB p q v v' w w2 :=
  ⟨k.os.trans hB.os, k.tape.trans hB.tape, k.output.trans hB.output, Nat.le_trans hB.size k.size, fun b hb h1 h2 h3 => (k.block b (Nat.lt_of_lt_of_le hb hB.size) h1 h2 h3).trans (hB.block b hb),
    by rcases k.row with e | ⟨g, hg, e⟩
       · exact .inl e
       · exact .inr ⟨g, Nat.le_trans hB.size hg, e⟩⟩

end Go.Proofs.YtihcdahmfdijoaaGreatDoor
namespace Go.Proofs.YtihcdahmfdijoaaGreatDoor
open Go.RowKit
theorem bsz (l : List UInt8) : (⟨l.toArray⟩ : ByteArray).size = l.length := by have := bL_size l; omega
theorem rlay_of (M : Int) (S s : ByteArray) (E : Int) (c : Nat) (h : s.size ≤ c) : (rlay M S E s).1.size ≤ S.size + c := Nat.le_trans (rlay_size M S s E) (by omega)
theorem rlay_byL (M : Int) (S : ByteArray) (E : Int) (k : Nat) (n : Int) (c : Nat) (h : k ≤ c) : (rlay M S E ⟨(byL k n).toArray⟩).1.size ≤ S.size + c := rlay_of M S _ E c (by rw [bsz, byL_len]; exact h)
theorem opaque_size (s : ByteArray) : ((⟨(byL 4 (s.size : Int)).toArray⟩ : ByteArray) ++ s ++ ⟨(padL s.size).toArray⟩).size ≤ 7 + s.size := by
  rw [ByteArray.size_append, ByteArray.size_append, bsz (byL 4 (s.size : Int)), bsz (padL s.size), byL_len]
  have := padL_len s.size
  omega
end Go.Proofs.YtihcdahmfdijoaaGreatDoor
namespace Go.Proofs.YtihcdahmfdijoaaGreatDoor
open Go.RowKit
theorem ownsRow_of_block {w w' : World} {base : Nat} {e : TypeId} {size : Nat} {v : Value} {n : Nat} {xs : List Value} (h : w.ownsRow base e size v n xs)
    (hb : ∀ g, v.ownBlock = some g → w'.heap[g]? = w.heap[g]?) : w'.ownsRow base e size v n xs := by
  refine ⟨h.1, ?_⟩
  rcases h.2 with hn | ⟨g, cap, cur, rfl, h1, hgg, rest⟩
  · exact .inl hn
  · exact .inr ⟨g, cap, cur, rfl, h1, (hb g rfl).trans hgg, rest⟩

theorem PW.of_blocks {w w' : World} {p : Nat} {v : Value} {M E : Int} {xs : List Value} (h : PW w p v M xs E) (hp : w'.heap[p]? = w.heap[p]?) (hg : ∀ g, v.ownBlock = some g → w'.heap[g]? = w.heap[g]?) : PW w' p v M xs E :=
  ⟨(cells_of_block hp 0).1.trans h.m, (cells_of_block hp 1).1.trans h.s, (cells_of_block hp 2).1.trans h.e, (cells_of_block hp 1).2.trans h.f1, (cells_of_block hp 2).2.trans h.f2, ownsRow_of_block h.own hg⟩

theorem WW.of_blocks {w w' : World} {p q : Nat} {v : Value} {M : Int} {S : ByteArray} {E : Int} (h : WW w p q v M S E) (hp : w'.heap[p]? = w.heap[p]?) (hq : w'.heap[q]? = w.heap[q]?) (hg : ∀ g, v.ownBlock = some g → w'.heap[g]? = w.heap[g]?) : WW w' p q v M S E :=
  ⟨h.pw.of_blocks hp hg, h.rw.of_block hq, h.pq, h.qv⟩

/-- The blocks of one pair of Writers. -/
def Mine (p q : Nat) (v : Value) (b : Nat) : Prop := b = p ∨ b = q ∨ v.ownBlock = some b

/-- Two pairs, none of whose blocks is the other's, all of them new. -/
structure Two (n0 : Nat) (w : World) (p q : Nat) (v : Value) (M : Int) (S : ByteArray) (E : Int) (p2 q2 : Nat) (v2 : Value) (M2 : Int) (S2 : ByteArray) (E2 : Int) : Prop where
  a : WW w p q v M S E
  b : WW w p2 q2 v2 M2 S2 E2
  np : n0 ≤ p
  nq : n0 ≤ q
  np2 : n0 ≤ p2
  nq2 : n0 ≤ q2
  apart : ∀ x, Mine p q v x → Mine p2 q2 v2 x → False

theorem KB.same {p q : Nat} {v v' : Value} {w w' : World} (k : KB p q v v' w w') (b : Nat) (hb : b < w.heap.size) (hm : ¬ Mine p q v b) : w'.heap[b]? = w.heap[b]? :=
  k.block b hb (fun e => hm (.inl e)) (fun e => hm (.inr (.inl e))) (fun e => hm (.inr (.inr e.symm)))

/-- What stays of a call: all blocks that are not new. -/
theorem Two.old {n0 : Nat} {w w' : World} {p q : Nat} {v v' : Value} {M : Int} {S : ByteArray} {E : Int} {p2 q2 : Nat} {v2 : Value} {M2 : Int} {S2 : ByteArray} {E2 : Int} (h : Two n0 w p q v M S E p2 q2 v2 M2 S2 E2)
    (k : KB p q v v' w w') (hn : n0 ≤ w.heap.size) {w0 : World} (hB : Below n0 w0 w) : Below n0 w0 w' := by
  refine ⟨k.os.trans hB.os, k.tape.trans hB.tape, k.output.trans hB.output, Nat.le_trans hB.size k.size, fun b hb => ?_⟩
  refine (k.same b (Nat.lt_of_lt_of_le hb hn) ?_).trans (hB.block b hb)
  rintro (e | e | e)
  · have := h.np; omega
  · have := h.nq; omega
  · have := (h.a.pw.own.lt b e).1
    have := h.np
    omega

theorem Two.below {n0 : Nat} {w w' : World} {p q : Nat} {v : Value} {M : Int} {S : ByteArray} {E : Int} {p2 q2 : Nat} {v2 : Value} {M2 : Int} {S2 : ByteArray} {E2 : Int} (h : Two n0 w p q v M S E p2 q2 v2 M2 S2 E2)
    (hB : Below w.heap.size w w') : Two n0 w' p q v M S E p2 q2 v2 M2 S2 E2 :=
  ⟨h.a.below hB, h.b.below hB, h.np, h.nq, h.np2, h.nq2, h.apart⟩



end Go.Proofs.YtihcdahmfdijoaaGreatDoor
