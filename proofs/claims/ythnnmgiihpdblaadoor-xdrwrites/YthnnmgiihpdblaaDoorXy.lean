/- One call of both Writers: the document's answer. -/
import Derived.Test.YthnnmgiihpdblaaDoorXx
namespace Go.Proofs.YthnnmgiihpdblaaDoor
open Go.RowKit

theorem WW.below {w w1 : World} {p q : Nat} {v : Value} {M : Int} {S : ByteArray} {E : Int} (h : WW w p q v M S E) (hB : Below w.heap.size w w1) : WW w1 p q v M S E := ⟨h.pw.below hB, h.rw.below hB, h.pq, h.qv⟩
theorem KB.behind {w w1 w2 : World} {p q : Nat} {v v' : Value} (hB : Below w.heap.size w w1) (k : KB p q v v' w1 w2) : KB p q v v' w w2 :=
  ⟨k.os.trans hB.os, k.tape.trans hB.tape, k.output.trans hB.output, Nat.le_trans hB.size k.size, fun b hb h1 h2 h3 => (k.block b (Nat.lt_of_lt_of_le hb hB.size) h1 h2 h3).trans (hB.block b hb),
    by rcases k.row with e | ⟨g, hg, e⟩
       · exact .inl e
       · exact .inr ⟨g, Nat.le_trans hB.size hg, e⟩⟩

/-- What one call of both leaves: both hold the same, not much more than before. -/
def WPost (p q : Nat) (v : Value) (M : Int) (S : ByteArray) (c : Nat) (w : World) (e : Ending) (w' : World) : Prop :=
  e = .returned (.tuple #[]) ∧ ∃ v' S' E', WW w' p q v' M S' E' ∧ KB p q v v' w w' ∧ S'.size ≤ S.size + c

def opcV (K N MM : Int) (o : Bool) (s : ByteArray) (a b : Nat) : Value := .agg #[.int .i64 K, .int .i64 N, .int .i64 MM, .bool o, .string s, .int .u32 a, .int .u64 b]

set_option maxRecDepth 4000 in
set_option maxHeartbeats 4000000 in
theorem writes_int (p q c : Nat) (v : Value) (M E N MM : Int) (o : Bool) (S s : ByteArray) (a b : Nat) (w : World) (r : ByteArray × Int) (h : WW w p q v M S E)
    (hP : ∀ w1, PW w1 p v M (Lib.strCells S) E → Calls Tryd.prog 56 #[.pointer (some ⟨p, 0, none⟩), .int .i64 N] w1 (PWrote p v M r w1))
    (hR : ∀ w1, RW w1 q S M E → Calls Tryd.prog 65 #[.pointer (some ⟨q, 0, none⟩), .int .i64 N] w1 fun e w' => Wrote q M r w1 e w') (hr : r.1.size ≤ S.size + c) :
    Calls Tryd.prog 40 #[.pointer (some ⟨p, 0, none⟩), .pointer (some ⟨q, 0, none⟩), opcV 1 N MM o s a b] w (WPost p q v M S c w) := by
  have hB : Below w.heap.size w (w.alloc (.cells #[.int .i64 1, .int .i64 N, .int .i64 MM, .bool o, .string s, .int .u32 a, .int .u64 b] 63)) := (Below.refl _ _).alloc (Nat.le_refl _) _
  have hlt1 := h.pw.lt
  have hlt2 := h.rw.lt
  have hW := h.below hB
  have H1 : Hid (Calls Tryd.prog 56 #[.pointer (some ⟨p, 0, none⟩), .int .i64 N] (w.alloc (.cells #[.int .i64 1, .int .i64 N, .int .i64 MM, .bool o, .string s, .int .u32 a, .int .u64 b] 63)) fun e w' => e = .returned (.tuple #[]) ∧ ∃ v', WB (w.alloc (.cells #[.int .i64 1, .int .i64 N, .int .i64 MM, .bool o, .string s, .int .u32 a, .int .u64 b] 63)) w' p q v v' M S r.1 E r.2) :=
    (hP _ hW.pw).mono fun e w' hp => hW.first hp
  have H2 : Hid (∀ v' w1, WB (w.alloc (.cells #[.int .i64 1, .int .i64 N, .int .i64 MM, .bool o, .string s, .int .u32 a, .int .u64 b] 63)) w1 p q v v' M S r.1 E r.2 → Calls Tryd.prog 65 #[.pointer (some ⟨q, 0, none⟩), .int .i64 N] w1 fun e w' => WPost p q v M S c w e w') := fun v' w1 hb =>
    (hR w1 hb.rw).mono fun e w' hp => ⟨(hb.second hp).1, v', r.1, r.2, (hb.second hp).2.1, KB.behind hB (hb.second hp).2.2, hr⟩
  have HC : Hid (∀ v' w1, WB (w.alloc (.cells #[.int .i64 1, .int .i64 N, .int .i64 MM, .bool o, .string s, .int .u32 a, .int .u64 b] 63)) w1 p q v v' M S r.1 E r.2 → ∀ j, w1.cell? ⟨w.heap.size, j, none⟩ = (w.alloc (.cells #[.int .i64 1, .int .i64 N, .int .i64 MM, .bool o, .string s, .int .u32 a, .int .u64 b] 63)).cell? ⟨w.heap.size, j, none⟩) := fun v' w1 hb j =>
    (cells_of_block (hb.kb.block w.heap.size (by simp) (by omega) (by omega) (fun e => by have := (h.pw.own.lt _ e.symm).2; omega)) j).1
  clear h hP hR hr hB hlt1 hlt2 hW
  unfold opcV
  go_enter Tryd.func40, Tryd.ntmps40
  go_wp2_with fail
  refine H1.out.mono ?_
  rintro e w1 ⟨rfl, v', hb⟩
  have hc0 : w1.cell? ⟨w.heap.size, 1, none⟩ = some (.int .i64 N) := by rw [(HC.out v' w1 hb 1)]; simp
  have H3 := H2.out v' w1 hb
  have HH : Hid (Calls Tryd.prog 65 #[.pointer (some ⟨q, 0, none⟩), .int .i64 N] w1 fun e w' => WPost p q v M S c w e w') := H3
  clear H3 hb
  go_wp2_with fail
  refine HH.out.mono ?_
  intro e w2 hp
  have he : e = .returned (.tuple #[]) := hp.1
  subst he
  have HP : Hid (WPost p q v M S c w (.returned (.tuple #[])) w2) := hp
  clear hp
  go_wp2
  first | go_end0 | refine bodyPost_ret (results_none rfl _ _ _) rfl ?_
  exact HP.out

end Go.Proofs.YthnnmgiihpdblaaDoor
