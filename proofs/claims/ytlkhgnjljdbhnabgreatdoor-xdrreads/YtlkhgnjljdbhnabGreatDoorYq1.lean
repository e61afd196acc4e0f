/- The statement's own parts: numbers of bits, sizes, sums. Both Writers at once: one call of both. One call of both Writers: the document's answer. One call of both Writers: each kind, whatever the script says. Two pairs of Writers at once: what a call of the one pair leaves of the other. strings.Clone: the same bytes (the shelf's contract at this program). The Reader of the chapter's example: a word, a text of three bytes, the end. scriptWeighs: how many bytes a script's calls may lay down. -/
import Derived.Test.YtlkhgnjljdbhnabGreatDoorXq4
import Derived.Shelf.Strconv.Clone
namespace Go.Proofs.YtlkhgnjljdbhnabGreatDoor
open Go.RowKit
theorem nanOf32 (x y : Nat) (w : World) : nan32 (nanOf .f32 x y w) = true ∧ nanOf .f32 x y w < 4294967296 := by
  unfold nanOf Question.cut nan32
  generalize w.tape w.drawn (.nanBits .f32 x y) = t
  have h1 : t % 2 < 2 := Nat.mod_lt _ (by omega)
  have e1 : (2 : Nat) ^ 23 - 1 = 8388607 := by decide
  have e2 : (2 : Nat) ^ 31 = 2147483648 := by decide
  simp only [e1, e2]
  have h2 : t / 2 % 8388607 < 8388607 := Nat.mod_lt _ (by omega)
  have e3 : (0x7f800000 : Nat) = 2139095040 := rfl
  rw [e3, decide_eq_true_eq]
  generalize t / 2 % 8388607 = u at *
  generalize t % 2 = v at *
  refine ⟨?_, by omega⟩
  rcases (by omega : v = 0 ∨ v = 1) with rfl | rfl
  · rw [Nat.zero_mul, Nat.zero_add, Nat.mod_eq_of_lt (by omega)]; omega
  · rw [Nat.one_mul, Nat.add_assoc, Nat.add_assoc, Nat.add_mod_left, Nat.mod_eq_of_lt (by omega)]; omega

set_option maxHeartbeats 400000 in
theorem addsUp_fits (a b : Int) (w : World) (ha0 : 0 ≤ a) (hb0 : 0 ≤ b) (ha : a ≤ 2147483647) (hb : b ≤ 2147483647) : Calls Tryz.prog 4 #[.int .i64 a, .int .i64 b] w fun e w' => e = .returned (.int .i64 (a + b)) ∧ w' = w := by
  go_enter Tryz.func4, Tryz.ntmps4
  go_wp2
  go_ret
  exact ⟨rfl, rfl⟩
set_option maxHeartbeats 400000 in
theorem addsUp_over (a b : Int) (w : World) (h : 2147483647 < a ∨ 2147483647 < b) : Calls Tryz.prog 4 #[.int .i64 a, .int .i64 b] w fun e w' => e = .returned (.int .i64 2147483648) ∧ w' = w := by
  by_cases ha : 2147483647 < a
  · clear h
    go_enter Tryz.func4, Tryz.ntmps4
    go_wp2
    go_ret
    exact ⟨rfl, rfl⟩
  · have hb : 2147483647 < b := by omega
    clear h
    go_enter Tryz.func4, Tryz.ntmps4
    go_wp2
    go_ret
    exact ⟨rfl, rfl⟩


end Go.Proofs.YtlkhgnjljdbhnabGreatDoor
namespace Go.Proofs.YtlkhgnjljdbhnabGreatDoor
open Go.RowKit
/-- Both Writers hold the same. -/
structure WW (w : World) (p q : Nat) (v : Value) (M : Int) (S : ByteArray) (E : Int) : Prop where
  pw : PW w p v M (Lib.strCells S) E
  rw : RW w q S M E
  pq : p ≠ q
  qv : some q ≠ v.ownBlock

/-- What stays but both Writers' blocks and the row of the program's. -/
structure KB (p q : Nat) (v v' : Value) (w w' : World) : Prop where
  os : w'.os = w.os
  tape : w'.tape = w.tape
  output : w'.output = w.output
  size : w.heap.size ≤ w'.heap.size
  block : ∀ b, b < w.heap.size → b ≠ p → b ≠ q → some b ≠ v.ownBlock → w'.heap[b]? = w.heap[b]?
  row : v'.ownBlock = v.ownBlock ∨ ∃ g, w.heap.size ≤ g ∧ v'.ownBlock = some g

/-- Between the two calls. -/
structure WB (w0 w : World) (p q : Nat) (v0 v : Value) (M : Int) (S T : ByteArray) (E F : Int) : Prop where
  pw : PW w p v M (Lib.strCells T) F
  rw : RW w q S M E
  pq : p ≠ q
  qv : some q ≠ v.ownBlock
  kb : KB p q v0 v w0 w

theorem WW.first {w w1 : World} {p q : Nat} {v : Value} {M : Int} {S : ByteArray} {E : Int} {r : ByteArray × Int} {e : Ending} (h : WW w p q v M S E) (hp : PWrote p v M r w e w1) :
    e = .returned (.tuple #[]) ∧ ∃ v', WB w w1 p q v v' M S r.1 E r.2 := by
  obtain ⟨h1, v', h2, h3⟩ := hp
  refine ⟨h1, v', h2, h.rw.of_block (h3.block q h.rw.lt (fun e => h.pq e.symm) h.qv), h.pq, ?_, ⟨h3.os, h3.tape, h3.output, h3.size, fun b hb hp _ hv => h3.block b hb hp hv, h3.row⟩⟩
  rcases h3.row with e1 | ⟨g, hg, e1⟩
  · rw [e1]; exact h.qv
  · rw [e1]; intro e2; cases e2; have := h.rw.lt; omega

theorem PW.only {w w' : World} {p q : Nat} {v : Value} {M E : Int} {xs : List Value} (h : PW w p v M xs E) (hO : Only q w w') (hpq : p ≠ q) (hqv : some q ≠ v.ownBlock) : PW w' p v M xs E := by
  have hb : w'.heap[p]? = w.heap[p]? := hO.block p h.lt hpq
  have hg : w.grownBy w' (some q) := ⟨hO.os, hO.tape, hO.output, hO.size, fun k hk hk2 => hO.block k hk (fun e => hk2 (by rw [e]))⟩
  exact ⟨(cells_of_block hb 0).1.trans h.m, (cells_of_block hb 1).1.trans h.s, (cells_of_block hb 2).1.trans h.e, (cells_of_block hb 1).2.trans h.f1, (cells_of_block hb 2).2.trans h.f2,
    h.own.kept hg (.inr fun e => hqv e.symm)⟩

theorem WB.below {w0 w w1 : World} {p q : Nat} {v0 v : Value} {M : Int} {S T : ByteArray} {E F : Int} (h : WB w0 w p q v0 v M S T E F) (hB : Below w.heap.size w w1) : WB w0 w1 p q v0 v M S T E F :=
  ⟨h.pw.below hB, h.rw.below hB, h.pq, h.qv, ⟨hB.os.trans h.kb.os, hB.tape.trans h.kb.tape, hB.output.trans h.kb.output, Nat.le_trans h.kb.size hB.size,
    fun b hb h1 h2 h3 => (hB.block b (Nat.lt_of_lt_of_le hb h.kb.size)).trans (h.kb.block b hb h1 h2 h3), h.kb.row⟩⟩

theorem WB.second {w0 w w1 : World} {p q : Nat} {v0 v : Value} {M : Int} {S : ByteArray} {E : Int} {r : ByteArray × Int} {e : Ending} (h : WB w0 w p q v0 v M S r.1 E r.2) (hp : Wrote q M r w e w1) :
    e = .returned (.tuple #[]) ∧ WW w1 p q v M r.1 r.2 ∧ KB p q v0 v w0 w1 := by
  obtain ⟨h1, h2, h3⟩ := hp
  exact ⟨h1, ⟨h.pw.only h3 h.pq h.qv, h2, h.pq, h.qv⟩, ⟨h3.os.trans h.kb.os, h3.tape.trans h.kb.tape, h3.output.trans h.kb.output, Nat.le_trans h.kb.size h3.size,
    fun b hb hb1 hb2 hb3 => (h3.block b (Nat.lt_of_lt_of_le hb h.kb.size) hb2).trans (h.kb.block b hb hb1 hb2 hb3), h.kb.row⟩⟩

end Go.Proofs.YtlkhgnjljdbhnabGreatDoor
namespace Go.Proofs.YtlkhgnjljdbhnabGreatDoor
open Go.RowKit
theorem WW.below {w w1 : World} {p q : Nat} {v : Value} {M : Int} {S : ByteArray} {E : Int} (h : WW w p q v M S E) (hB : Below w.heap.size w w1) : WW w1 p q v M S E := ⟨h.pw.below hB, h.rw.below hB, h.pq, h.qv⟩
theorem KB.behind {w w1 w2 : World} {p q : Nat} {v v' : Value} (hB : Below w.heap.size w w1) (k : KB p q v v' w1 w2) : KB p q v v' w w2 :=
  ⟨k.os.trans hB.os, k.tape.trans hB.tape, k.output.trans hB.output, Nat.le_trans hB.size k.size, fun b hb h1 h2 h3 => (k.block b (Nat.lt_of_lt_of_le hb hB.size) h1 h2 h3).trans (hB.block b hb),
    by rcases k.row with e | ⟨g, hg, e⟩
       · exact .inl e
       · exact .inr ⟨g, Nat.le_trans hB.size hg, e⟩⟩

def opcV (K N MM : Int) (o : Bool) (s : ByteArray) (a b : Nat) : Value := .agg #[.int .i64 K, .int .i64 N, .int .i64 MM, .bool o, .string s, .int .u32 a, .int .u64 b]

end Go.Proofs.YtlkhgnjljdbhnabGreatDoor
namespace Go.Proofs.YtlkhgnjljdbhnabGreatDoor
open Go.RowKit
theorem c32_lt (x : Nat) (h : x < 4294967296) : c32 x < 4294967296 := by
  cases hn : nan32 x
  · rw [c32_num x hn]; exact h
  · rw [c32_nan x hn]; omega
end Go.Proofs.YtlkhgnjljdbhnabGreatDoor
namespace Go.Proofs.YtlkhgnjljdbhnabGreatDoor
open Go.RowKit
theorem ownsRow_of_block {w w' : World} {base : Nat} {e : TypeId} {size : Nat} {v : Value} {n : Nat} {xs : List Value} (h : w.ownsRow base e size v n xs)
    (hb : ∀ g, v.ownBlock = some g → w'.heap[g]? = w.heap[g]?) : w'.ownsRow base e size v n xs := by
  refine ⟨h.1, ?_⟩
  rcases h.2 with hn | ⟨g, cap, cur, rfl, h1, hgg, rest⟩
  · exact .inl hn
  · exact .inr ⟨g, cap, cur, rfl, h1, (hb g rfl).trans hgg, rest⟩

theorem PW.of_blocks {w w' : World} {p : Nat} {v : Value} {M E : Int} {xs : List Value} (h : PW w p v M xs E) (hp : w'.heap[p]? = w.heap[p]?) (hg : ∀ g, v.ownBlock = some g → w'.heap[g]? = w.heap[g]?) : PW w' p v M xs E :=
  ⟨(cells_of_block hp 0).1.trans h.m, (cells_of_block hp 1).1.trans h.s, (cells_of_block hp 2).1.trans h.e, (cells_of_block hp 1).2.trans h.f1, (cells_of_block hp 2).2.trans h.f2, ownsRow_of_block h.own hg⟩

theorem WW.of_blocks {w w' : World} {p q : Nat} {v : Value} {M : Int} {S : ByteArray} {E : Int} (h : WW w p q v M S E) (hp : w'.heap[p]? = w.heap[p]?) (hq : w'.heap[q]? = w.heap[q]?) (hg : ∀ g, v.ownBlock = some g → w'.heap[g]? = w.heap[g]?) : WW w' p q v M S E :=
  ⟨h.pw.of_blocks hp hg, h.rw.of_block hq, h.pq, h.qv⟩

/-- The blocks of one pair of Writers. -/
def Mine (p q : Nat) (v : Value) (b : Nat) : Prop := b = p ∨ b = q ∨ v.ownBlock = some b

/-- Two pairs, none of whose blocks is the other's, all of them new. -/
structure Two (n0 : Nat) (w : World) (p q : Nat) (v : Value) (M : Int) (S : ByteArray) (E : Int) (p2 q2 : Nat) (v2 : Value) (M2 : Int) (S2 : ByteArray) (E2 : Int) : Prop where
  a : WW w p q v M S E
  b : WW w p2 q2 v2 M2 S2 E2
  np : n0 ≤ p
  nq : n0 ≤ q
  np2 : n0 ≤ p2
  nq2 : n0 ≤ q2
  apart : ∀ x, Mine p q v x → Mine p2 q2 v2 x → False

theorem KB.same {p q : Nat} {v v' : Value} {w w' : World} (k : KB p q v v' w w') (b : Nat) (hb : b < w.heap.size) (hm : ¬ Mine p q v b) : w'.heap[b]? = w.heap[b]? :=
  k.block b hb (fun e => hm (.inl e)) (fun e => hm (.inr (.inl e))) (fun e => hm (.inr (.inr e.symm)))

/-- What stays of a call: all blocks that are not new. -/
theorem Two.old {n0 : Nat} {w w' : World} {p q : Nat} {v v' : Value} {M : Int} {S : ByteArray} {E : Int} {p2 q2 : Nat} {v2 : Value} {M2 : Int} {S2 : ByteArray} {E2 : Int} (h : Two n0 w p q v M S E p2 q2 v2 M2 S2 E2)
    (k : KB p q v v' w w') (hn : n0 ≤ w.heap.size) {w0 : World} (hB : Below n0 w0 w) : Below n0 w0 w' := by
  refine ⟨k.os.trans hB.os, k.tape.trans hB.tape, k.output.trans hB.output, Nat.le_trans hB.size k.size, fun b hb => ?_⟩
  refine (k.same b (Nat.lt_of_lt_of_le hb hn) ?_).trans (hB.block b hb)
  rintro (e | e | e)
  · have := h.np; omega
  · have := h.nq; omega
  · have := (h.a.pw.own.lt b e).1
    have := h.np
    omega

theorem Two.below {n0 : Nat} {w w' : World} {p q : Nat} {v : Value} {M : Int} {S : ByteArray} {E : Int} {p2 q2 : Nat} {v2 : Value} {M2 : Int} {S2 : ByteArray} {E2 : Int} (h : Two n0 w p q v M S E p2 q2 v2 M2 S2 E2)
    (hB : Below w.heap.size w w') : Two n0 w' p q v M S E p2 q2 v2 M2 S2 E2 :=
  ⟨h.a.below hB, h.b.below hB, h.np, h.nq, h.np2, h.nq2, h.apart⟩


end Go.Proofs.YtlkhgnjljdbhnabGreatDoor
namespace Go.Proofs.YtlkhgnjljdbhnabGreatDoor
open Go.Shelf
def clone_ren : Go.Shelf.Ren := ⟨fun | 316 => 76 | n => n, fun | 0 => 0 | 3 => 3 | 4 => 4 | 5 => 5 | 9 => 9 | 37 => 63 | 127 => 112 | n => n, fun | n => n⟩
theorem clone_lays : Go.Proofs.LaysM.n316 Tryz.prog clone_ren := {
  mixed := by kernel_rfl
  f316 := Tryz.func76.trans (congrArg some (by kernel_rfl))
  t0 := Tryz.underlying0
  a0 := Tryz.isAgg0
  z0 := Tryz.sizeOf0
  v0 := Tryz.zeroValue0
  t3 := Tryz.underlying3
  a3 := Tryz.isAgg3
  z3 := Tryz.sizeOf3
  v3 := Tryz.zeroValue3
  t4 := Tryz.underlying4
  a4 := Tryz.isAgg4
  z4 := Tryz.sizeOf4
  v4 := Tryz.zeroValue4
  t9 := Tryz.underlying9
  a9 := Tryz.isAgg9
  z9 := Tryz.sizeOf9
  v9 := Tryz.zeroValue9
  t37 := Tryz.underlying63
  a37 := Tryz.isAgg63
  z37 := Tryz.sizeOf63
  v37 := Tryz.zeroValue63
  t127 := Tryz.underlying112
  a127 := Tryz.isAgg112
  z127 := Tryz.sizeOf112
  v127 := Tryz.zeroValue112
  t5 := Tryz.underlying5
  a5 := Tryz.isAgg5
  z5 := Tryz.sizeOf5
  v5 := Tryz.zeroValue5
  i0 := by kernel_rfl
  i3 := by kernel_rfl
  i4 := by kernel_rfl
  i5 := by kernel_rfl
  i9 := by kernel_rfl
  i37 := by kernel_rfl
  i127 := by kernel_rfl }

theorem clone_inner (s : ByteArray) (w : World) (hlim : s.size ≤ 281474976710656) :
    Calls Tryz.prog 76 #[.string s] w fun e w' => e = .returned (.string s) ∧ Go.RowKit.Below w.heap.size w w' := Any.stringslite_Clone clone_lays s w hlim

open Go.RowKit in
theorem clone_any (s : ByteArray) (w : World) (hlim : s.size ≤ 281474976710656) :
    Calls Tryz.prog 58 #[.string s] w fun e w' => e = .returned (.string s) ∧ Below w.heap.size w w' := by
  have H : Hid (Calls Tryz.prog 76 #[.string s] w fun e w' => e = .returned (.string s) ∧ Below w.heap.size w w') := clone_inner s w hlim
  clear hlim
  go_enter Tryz.func58, Tryz.ntmps58
  go_wp2_with fail
  refine H.out.mono ?_
  rintro e w' ⟨rfl, hB⟩
  have HB : Hid (Below w.heap.size w w') := hB
  clear hB
  go_wp2
  go_ret
  exact ⟨rfl, HB.out⟩


end Go.Proofs.YtlkhgnjljdbhnabGreatDoor
namespace Go.Proofs.YtlkhgnjljdbhnabGreatDoor
open Go.RowKit
/-- A Reader of the program's: what is left, what was wrong first. -/
structure PR (w : World) (p : Nat) (L : ByteArray) (E : Int) : Prop where
  l : w.cell? ⟨p, 0, none⟩ = some (.string L)
  e : w.cell? ⟨p, 1, none⟩ = some (trV E)
  f0 : w.frozen? ⟨p, 0, none⟩ = false
  f1 : w.frozen? ⟨p, 1, none⟩ = false

theorem PR.lt {w : World} {p : Nat} {L : ByteArray} {E : Int} (h : PR w p L E) : p < w.heap.size := by
  rcases Nat.lt_or_ge p w.heap.size with h1 | h1
  · exact h1
  · have := h.l
    simp [World.cell?, Array.getElem?_eq_none h1] at this

theorem PR.of_block {w w' : World} {p : Nat} {L : ByteArray} {E : Int} (h : PR w p L E) (hb : w'.heap[p]? = w.heap[p]?) : PR w' p L E :=
  ⟨(cells_of_block hb 0).1.trans h.l, (cells_of_block hb 1).1.trans h.e, (cells_of_block hb 0).2.trans h.f0, (cells_of_block hb 1).2.trans h.f1⟩

theorem rdnew (s : ByteArray) (w : World) : Calls Tryz.prog 6 #[.string s] w fun e w' => e = .returned (.pointer (some ⟨w.heap.size, 0, none⟩)) ∧ w' = w.alloc (.cells #[.string s, .nilIface] 52) := by
  go_enter Tryz.func6, Tryz.ntmps6
  go_wp2
  go_ret
  exact ⟨rfl, rfl⟩

theorem PR.new (s : ByteArray) (w : World) : PR (w.alloc (.cells #[.string s, .nilIface] 52)) w.heap.size s 0 := by
  refine ⟨?_, ?_, ?_, ?_⟩ <;> simp [trV]

theorem frontWord_ex (w : World) : Calls Tryz.prog 55 #[.string ⟨#[0, 0, 0, 2, 97, 98, 99, 0]⟩] w fun e w' => e = .returned (.tuple #[.int .u32 2, .nilIface]) ∧ Below w.heap.size w w' := by
  go_enter Tryz.func55, Tryz.ntmps55
  go_wp2
  go_quiet (fail)
  go_wp2
  go_ret2
  refine ⟨?_, ?_⟩
  · rfl
  · exact below_drewN (Below.refl _ _) _

theorem frontText_ex (w : World) : Calls Tryz.prog 57 #[.string ⟨#[97, 98, 99, 0]⟩, .int .i64 3] w fun e w' => e = .returned (.tuple #[.string ⟨#[97, 98, 99]⟩, .nilIface]) ∧ Below w.heap.size w w' := by
  have HG : Hid (∀ w, Calls Tryz.prog 52 #[.int .i64 3] w fun e w' => e = .returned (.bool true) ∧ w' = w) := fun w => isWord_any 3 w
  have H1 : Hid (∀ w, Calls Tryz.prog 53 #[.int .i64 3] w fun e w' => e = .returned (.string ⟨#[0]⟩) ∧ w' = w) := fun w => padding_any 3 w (by decide)
  have hx : (⟨#[97, 98, 99, 0]⟩ : ByteArray).extract 3 4 = ⟨#[0]⟩ := by rfl
  go_enter Tryz.func57, Tryz.ntmps57
  go_wp2_with (first | (go_at_call 52; refine (HG.out _).mono ?_; rintro e w' ⟨rfl, rfl⟩) | (go_at_call 53; refine (H1.out _).mono ?_; rintro e w' ⟨rfl, rfl⟩))
  go_quiet (first | (go_at_call 53; exact Calls.quiet_of_same (H1.out _)) | (go_at_call 53; exact Calls.quiet_of_same (H1.out _)))
  go_wp2
  go_ret2
  refine ⟨?_, ?_⟩
  · rfl
  · exact below_drewN (Below.refl _ _) _

theorem take_ok_ex (p n : Nat) (L : ByteArray) (w : World) (h : PR w p L 0) (hn : n ≤ L.size) :
    Calls Tryz.prog 56 #[.pointer (some ⟨p, 0, none⟩), .int .i64 n, .nilIface] w fun e w' => e = .returned (.bool true) ∧ PR w' p (L.extract n L.size) 0 ∧ Only p w w' := by
  have h0 := h.l
  have h1 : w.cell? ⟨p, 1, none⟩ = some .nilIface := h.e
  have h2 := h.f0
  have h3 := h.f1
  have H1 : Hid (Calls Tryz.prog 72 #[.pointer (some ⟨p, 1, none⟩), .nilIface] w fun r w' => r = .returned (.tuple #[]) ∧ w' = w.setCell ⟨p, 1, none⟩ .nilIface) := note_nil ⟨p, 1, none⟩ w h1 h3
  have H2 : Hid (Calls Tryz.prog 47 #[.pointer (some ⟨p, 1, none⟩)] (w.setCell ⟨p, 1, none⟩ .nilIface) fun r w' => r = .returned (.bool false) ∧ w' = w.setCell ⟨p, 1, none⟩ .nilIface) := any_no ⟨p, 1, none⟩ _ (World.cell?_setCell_same _ _ _ h1)
  have HP : Hid (PR ((w.setCell ⟨p, 1, none⟩ .nilIface).setCell ⟨p, 0, none⟩ (.string (L.extract n L.size))) p (L.extract n L.size) 0) :=
    ⟨World.cell?_setCell_same _ _ _ (show (w.setCell ⟨p, 1, none⟩ .nilIface).cell? ⟨p, 0, none⟩ = some (.string L) by rw [World.cell?_setCell_other _ _ _ _ (by simp)]; exact h0),
     by rw [World.cell?_setCell_other _ _ _ _ (by simp)]; exact World.cell?_setCell_same _ _ _ h1, by rw [World.frozen?_setCell, World.frozen?_setCell]; exact h2, by rw [World.frozen?_setCell, World.frozen?_setCell]; exact h3⟩
  clear h
  go_enter Tryz.func56, Tryz.ntmps56
  go_wp2_with (first | (go_at_call 72; refine H1.out.mono ?_; rintro e w' ⟨rfl, rfl⟩) | (go_at_call 47; refine H2.out.mono ?_; rintro e w' ⟨rfl, rfl⟩))
  go_ret
  exact ⟨rfl, HP.out, (Only.setCell w 1 _).trans (Only.setCell _ 0 _)⟩

theorem rduint_ex (p : Nat) (w : World) (h : PR w p ⟨#[0, 0, 0, 2, 97, 98, 99, 0]⟩ 0) :
    Calls Tryz.prog 21 #[.pointer (some ⟨p, 0, none⟩)] w fun e w' => e = .returned (.int .i64 2) ∧ PR w' p ⟨#[97, 98, 99, 0]⟩ 0 ∧ Only p w w' := by
  have hl := h.lt
  have h0 := h.l
  have H1 : Hid (Calls Tryz.prog 55 #[.string ⟨#[0, 0, 0, 2, 97, 98, 99, 0]⟩] w fun e w' => e = .returned (.tuple #[.int .u32 2, .nilIface]) ∧ Below w.heap.size w w') := frontWord_ex w
  have H2 : Hid (∀ w1, Below w.heap.size w w1 → Calls Tryz.prog 56 #[.pointer (some ⟨p, 0, none⟩), .int .i64 4, .nilIface] w1 fun e w' => e = .returned (.bool true) ∧ PR w' p ⟨#[97, 98, 99, 0]⟩ 0 ∧ Only p w w') := fun w1 hb =>
    (take_ok_ex p 4 ⟨#[0, 0, 0, 2, 97, 98, 99, 0]⟩ w1 (h.of_block (hb.block p hl)) (by decide)).mono fun e w' hp => ⟨hp.1, hp.2.1, (Only.of_below hb).trans hp.2.2⟩
  clear h hl
  go_enter Tryz.func21, Tryz.ntmps21
  go_wp2_with fail
  refine H1.out.mono ?_
  rintro e w1 ⟨rfl, hb⟩
  have HB : Hid (Below w.heap.size w w1) := hb
  clear hb
  go_wp2_with fail
  refine (H2.out _ HB.out).mono ?_
  rintro e w2 ⟨rfl, hp⟩
  have HP : Hid (PR w2 p ⟨#[97, 98, 99, 0]⟩ 0 ∧ Only p w w2) := hp
  clear hp
  go_wp2
  go_ret
  exact ⟨rfl, HP.out⟩

theorem rdfixed_ex (p : Nat) (w : World) (h : PR w p ⟨#[97, 98, 99, 0]⟩ 0) :
    Calls Tryz.prog 22 #[.pointer (some ⟨p, 0, none⟩), .int .i64 3] w fun e w' => e = .returned (.string ⟨#[97, 98, 99]⟩) ∧ PR w' p ⟨#[]⟩ 0 ∧ Only p w w' := by
  have hl := h.lt
  have h0 := h.l
  have H0 : Hid (∀ w, Calls Tryz.prog 53 #[.int .i64 3] w fun e w' => e = .returned (.string ⟨#[0]⟩) ∧ w' = w) := fun w => padding_any 3 w (by decide)
  have H1 : Hid (Calls Tryz.prog 57 #[.string ⟨#[97, 98, 99, 0]⟩, .int .i64 3] w fun e w' => e = .returned (.tuple #[.string ⟨#[97, 98, 99]⟩, .nilIface]) ∧ Below w.heap.size w w') := frontText_ex w
  have H2 : Hid (∀ w1, Below w.heap.size w w1 → Calls Tryz.prog 56 #[.pointer (some ⟨p, 0, none⟩), .int .i64 4, .nilIface] w1 fun e w' => e = .returned (.bool true) ∧ PR w' p ⟨#[]⟩ 0 ∧ Only p w w') := fun w1 hb =>
    (take_ok_ex p 4 ⟨#[97, 98, 99, 0]⟩ w1 (h.of_block (hb.block p hl)) (by decide)).mono fun e w' hp => ⟨hp.1, hp.2.1, (Only.of_below hb).trans hp.2.2⟩
  have H3 : Hid (∀ w, Calls Tryz.prog 58 #[.string ⟨#[97, 98, 99]⟩] w fun e w' => e = .returned (.string ⟨#[97, 98, 99]⟩) ∧ Below w.heap.size w w') := fun w => clone_any _ w (by decide)
  clear h hl
  go_enter Tryz.func22, Tryz.ntmps22
  go_wp2_with fail
  refine H1.out.mono ?_
  rintro e w1 ⟨rfl, hb⟩
  have HB : Hid (Below w.heap.size w w1) := hb
  clear hb
  go_wp2_with fail
  refine (H0.out _).mono ?_
  rintro e w2 ⟨rfl, hw2⟩
  have hw3 := hw2.symm
  clear hw2
  subst hw3
  go_wp2_with fail
  refine (H2.out _ HB.out).mono ?_
  rintro e w2 ⟨rfl, hp⟩
  have HP : Hid (PR w2 p ⟨#[]⟩ 0 ∧ Only p w w2) := hp
  clear hp
  go_wp2_with fail
  refine (H3.out _).mono ?_
  rintro e w3 ⟨rfl, hb⟩
  have HB3 : Hid (Below w2.heap.size w2 w3) := hb
  clear hb
  go_wp2
  go_ret
  exact ⟨rfl, HP.out.1.of_block (HB3.out.block p HP.out.1.lt), HP.out.2.trans (Only.of_below HB3.out)⟩

theorem rddone_ex (p : Nat) (w : World) (h : PR w p ⟨#[]⟩ 0) :
    Calls Tryz.prog 13 #[.pointer (some ⟨p, 0, none⟩)] w fun e w' => e = .returned (.int .i64 0) ∧ Below w.heap.size w w' := by
  have h0 := h.l
  have h1 : w.cell? ⟨p, 1, none⟩ = some .nilIface := h.e
  have H1 : Hid (Calls Tryz.prog 47 #[.pointer (some ⟨p, 1, none⟩)] w fun r w' => r = .returned (.bool false) ∧ w' = w) := any_no ⟨p, 1, none⟩ w h1
  have H2 : Hid (Calls Tryz.prog 46 #[.pointer (some ⟨p, 1, none⟩)] w fun r w' => r = .returned (.int .i64 0) ∧ Below w.heap.size w w') := number_no ⟨p, 1, none⟩ w h1
  clear h
  go_enter Tryz.func13, Tryz.ntmps13
  go_wp2_with fail
  refine H1.out.mono ?_
  rintro e w2 ⟨rfl, hw2⟩
  have hw3 := hw2.symm
  clear hw2
  subst hw3
  go_wp2_with fail
  refine H2.out.mono ?_
  rintro e w2 ⟨rfl, hb⟩
  have HB : Hid (Below w.heap.size w w2) := hb
  clear hb
  go_wp2
  go_ret
  exact ⟨rfl, HB.out⟩


end Go.Proofs.YtlkhgnjljdbhnabGreatDoor
namespace Go.Proofs.YtlkhgnjljdbhnabGreatDoor
open Go.RowKit
def addF (a b : Int) : Int := if 2147483647 < a ∨ 2147483647 < b then 2147483648 else a + b
theorem addsUp_any (a b : Int) (w : World) (ha0 : 0 ≤ a) (hb0 : 0 ≤ b) : Calls Tryz.prog 4 #[.int .i64 a, .int .i64 b] w fun e w' => e = .returned (.int .i64 (addF a b)) ∧ w' = w := by
  unfold addF
  by_cases h : 2147483647 < a ∨ 2147483647 < b
  · rw [if_pos h]; exact addsUp_over a b w h
  · rw [if_neg h]; exact addsUp_fits a b w ha0 hb0 (by omega) (by omega)

end Go.Proofs.YtlkhgnjljdbhnabGreatDoor
