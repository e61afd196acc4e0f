/- The statement's own parts: numbers of bits, sizes, sums. Both Writers at once: one call of both. One call of both Writers: the document's answer. One call of both Writers: each kind, whatever the script says. Two pairs of Writers at once: what a call of the one pair leaves of the other. strings.Clone: the same bytes (the shelf's contract at this program). The Reader of the chapter's example: a word, a text of three bytes, the end. scriptWeighs: how many bytes a script's calls may lay down. -/
import Derived.Test.YtlkhgnjljdbhnabDoorXq4
import Derived.Shelf.Strconv.Clone
namespace Go.Proofs.YtlkhgnjljdbhnabDoor
open Go.RowKit
theorem nanOf32 (x y : Nat) (w : World) : nan32 (nanOf .f32 x y w) = true ∧ nanOf .f32 x y w < 4294967296 := by
  unfold nanOf Question.cut nan32
  generalize w.tape w.drawn (.nanBits .f32 x y) = t
  have h1 : t % 2 < 2 := Nat.mod_lt _ (by omega)
  have e1 : (2 : Nat) ^ 23 - 1 = 8388607 := by decide
  have e2 : (2 : Nat) ^ 31 = 2147483648 := by decide
  simp only [e1, e2]
  have h2 : t / 2 % 8388607 < 8388607 := Nat.mod_lt _ (by omega)
  have e3 : (0x7f800000 : Nat) = 2139095040 := rfl
  rw [e3, decide_eq_true_eq]
  generalize t / 2 % 8388607 = u at *
  generalize t % 2 = v at *
  refine ⟨?_, by omega⟩
  rcases (by omega : v = 0 ∨ v = 1) with rfl | rfl
  · rw [Nat.zero_mul, Nat.zero_add, Nat.mod_eq_of_lt (by omega)]; omega
  · rw [Nat.one_mul, Nat.add_assoc, Nat.add_assoc, Nat.add_mod_left, Nat.mod_eq_of_lt (by omega)]; omega

theorem inv_zero32 : floatBits .quo .f32 0 0 = none := by kernel_rfl

/-- A number of such bits, or any NaN where they say one. -/
def AsBits64 (n : Nat) (w : World) (e : Ending) (w' : World) : Prop := ∃ x, e = .returned (.float .f64 x) ∧ x < 18446744073709551616 ∧ c64 x = c64 n ∧ ∃ k, w' = w.drewN k
def AsBits32 (n : Nat) (w : World) (e : Ending) (w' : World) : Prop := ∃ x, e = .returned (.float .f32 x) ∧ x < 4294967296 ∧ c32 x = c32 n ∧ ∃ k, w' = w.drewN k

set_option maxHeartbeats 1000000 in
theorem double_num (n : Nat) (w : World) (h : n < 18446744073709551616) (hg : nan64 n = false ∨ n = 9221120237041090560) : Calls Tryd.prog 32 #[.int .u64 n] w (AsBits64 n w) := by
  have H1 : Hid (∀ w, Calls Tryd.prog 59 #[.int .u64 n] w fun r w' => r = .returned (.tuple #[.float .f64 n, .int .i64 0]) ∧ w' = w) := fun w => rfrom64_ok n w h hg
  have HA : Hid (AsBits64 n w (.returned (.float .f64 n)) w) := ⟨n, rfl, h, rfl, 0, rfl⟩
  clear h hg
  go_enter Tryd.func32, Tryd.ntmps32
  go_wp2_with fail
  refine (H1.out _).mono ?_
  rintro e w0 ⟨rfl, hw0⟩
  have hw1 := hw0.symm
  clear hw0
  subst hw1
  go_wp2
  go_ret
  exact HA.out

set_option maxHeartbeats 1000000 in
theorem double_nan (n : Nat) (w : World) (h : n < 18446744073709551616) (hn : nan64 n = true) (hb : n ≠ 9221120237041090560) : Calls Tryd.prog 32 #[.int .u64 n] w (AsBits64 n w) := by
  have H1 : Hid (∀ w, Calls Tryd.prog 59 #[.int .u64 n] w fun r w' => r = .returned (.tuple #[.float .f64 0, .int .i64 10]) ∧ w' = w) := fun w => rfrom64_bad n w h hn hb
  have HA : Hid (∀ w1 : World, (∃ k, w1 = w.drewN k) → AsBits64 n w (.returned (.float .f64 (nanOf .f64 0 0 w1))) w1.drew) := fun w1 hk => by
    obtain ⟨k, rfl⟩ := hk
    exact ⟨_, rfl, (nanOf64 0 0 _).2, by unfold c64; rw [if_pos (nanOf64 0 0 _).1, if_pos hn], k + 1, rfl⟩
  have hd := fun w => run_float_invalid Tryd.prog w .quo (.inr (.inr (.inr rfl))) 63 .f64 0 0 inv_zero
  clear h hn hb
  go_enter Tryd.func32, Tryd.ntmps32
  go_wp2_with fail
  refine (H1.out _).mono ?_
  rintro e w0 ⟨rfl, hw0⟩
  have hw1 := hw0.symm
  clear hw0
  subst hw1
  go_wp2
  go_ret
  first | exact HA.out _ ⟨0, rfl⟩ | exact HA.out _ ⟨1, rfl⟩

set_option maxHeartbeats 1000000 in
theorem single_num (n : Nat) (w : World) (h : n < 4294967296) (hg : nan32 n = false ∨ n = 2143289344) : Calls Tryd.prog 30 #[.int .u32 n] w (AsBits32 n w) := by
  have H1 : Hid (∀ w, Calls Tryd.prog 57 #[.int .u32 n] w fun r w' => r = .returned (.tuple #[.float .f32 n, .int .i64 0]) ∧ w' = w) := fun w => rfrom32_ok n w h hg
  have HA : Hid (AsBits32 n w (.returned (.float .f32 n)) w) := ⟨n, rfl, h, rfl, 0, rfl⟩
  clear h hg
  go_enter Tryd.func30, Tryd.ntmps30
  go_wp2_with fail
  refine (H1.out _).mono ?_
  rintro e w0 ⟨rfl, hw0⟩
  have hw1 := hw0.symm
  clear hw0
  subst hw1
  go_wp2
  go_ret
  exact HA.out

set_option maxHeartbeats 1000000 in
theorem single_nan (n : Nat) (w : World) (h : n < 4294967296) (hn : nan32 n = true) (hb : n ≠ 2143289344) : Calls Tryd.prog 30 #[.int .u32 n] w (AsBits32 n w) := by
  have H1 : Hid (∀ w, Calls Tryd.prog 57 #[.int .u32 n] w fun r w' => r = .returned (.tuple #[.float .f32 0, .int .i64 10]) ∧ w' = w) := fun w => rfrom32_bad n w h hn hb
  have HA : Hid (∀ w1 : World, (∃ k, w1 = w.drewN k) → AsBits32 n w (.returned (.float .f32 (nanOf .f32 0 0 w1))) w1.drew) := fun w1 hk => by
    obtain ⟨k, rfl⟩ := hk
    exact ⟨_, rfl, (nanOf32 0 0 _).2, by unfold c32; rw [if_pos (nanOf32 0 0 _).1, if_pos hn], k + 1, rfl⟩
  have hd := fun w => run_float_invalid Tryd.prog w .quo (.inr (.inr (.inr rfl))) 50 .f32 0 0 inv_zero32
  clear h hn hb
  go_enter Tryd.func30, Tryd.ntmps30
  go_wp2_with fail
  refine (H1.out _).mono ?_
  rintro e w0 ⟨rfl, hw0⟩
  have hw1 := hw0.symm
  clear hw0
  subst hw1
  go_wp2
  go_ret
  first | exact HA.out _ ⟨0, rfl⟩ | exact HA.out _ ⟨1, rfl⟩

theorem double_any (n : Nat) (w : World) (h : n < 18446744073709551616) : Calls Tryd.prog 32 #[.int .u64 n] w (AsBits64 n w) := by
  cases hn : nan64 n with
  | false => exact double_num n w h (.inl hn)
  | true =>
    by_cases hb : n = 9221120237041090560
    · exact double_num n w h (.inr hb)
    · exact double_nan n w h hn hb
theorem single_any (n : Nat) (w : World) (h : n < 4294967296) : Calls Tryd.prog 30 #[.int .u32 n] w (AsBits32 n w) := by
  cases hn : nan32 n with
  | false => exact single_num n w h (.inl hn)
  | true =>
    by_cases hb : n = 2143289344
    · exact single_num n w h (.inr hb)
    · exact single_nan n w h hn hb

set_option maxHeartbeats 400000 in
theorem addsUp_fits (a b : Int) (w : World) (ha0 : 0 ≤ a) (hb0 : 0 ≤ b) (ha : a ≤ 2147483647) (hb : b ≤ 2147483647) : Calls Tryd.prog 5 #[.int .i64 a, .int .i64 b] w fun e w' => e = .returned (.int .i64 (a + b)) ∧ w' = w := by
  go_enter Tryd.func5, Tryd.ntmps5
  go_wp2
  go_ret
  exact ⟨rfl, rfl⟩
set_option maxHeartbeats 400000 in
theorem addsUp_over (a b : Int) (w : World) (h : 2147483647 < a ∨ 2147483647 < b) : Calls Tryd.prog 5 #[.int .i64 a, .int .i64 b] w fun e w' => e = .returned (.int .i64 2147483648) ∧ w' = w := by
  by_cases ha : 2147483647 < a
  · clear h
    go_enter Tryd.func5, Tryd.ntmps5
    go_wp2
    go_ret
    exact ⟨rfl, rfl⟩
  · have hb : 2147483647 < b := by omega
    clear h
    go_enter Tryd.func5, Tryd.ntmps5
    go_wp2
    go_ret
    exact ⟨rfl, rfl⟩


end Go.Proofs.YtlkhgnjljdbhnabDoor
namespace Go.Proofs.YtlkhgnjljdbhnabDoor
open Go.RowKit
/-- Both Writers hold the same. -/
structure WW (w : World) (p q : Nat) (v : Value) (M : Int) (S : ByteArray) (E : Int) : Prop where
  pw : PW w p v M (Lib.strCells S) E
  rw : RW w q S M E
  pq : p ≠ q
  qv : some q ≠ v.ownBlock

/-- What stays but both Writers' blocks and the row of the program's. -/
structure KB (p q : Nat) (v v' : Value) (w w' : World) : Prop where
  os : w'.os = w.os
  tape : w'.tape = w.tape
  output : w'.output = w.output
  size : w.heap.size ≤ w'.heap.size
  block : ∀ b, b < w.heap.size → b ≠ p → b ≠ q → some b ≠ v.ownBlock → w'.heap[b]? = w.heap[b]?
  row : v'.ownBlock = v.ownBlock ∨ ∃ g, w.heap.size ≤ g ∧ v'.ownBlock = some g

/-- Between the two calls. -/
structure WB (w0 w : World) (p q : Nat) (v0 v : Value) (M : Int) (S T : ByteArray) (E F : Int) : Prop where
  pw : PW w p v M (Lib.strCells T) F
  rw : RW w q S M E
  pq : p ≠ q
  qv : some q ≠ v.ownBlock
  kb : KB p q v0 v w0 w

theorem WW.first {w w1 : World} {p q : Nat} {v : Value} {M : Int} {S : ByteArray} {E : Int} {r : ByteArray × Int} {e : Ending} (h : WW w p q v M S E) (hp : PWrote p v M r w e w1) :
    e = .returned (.tuple #[]) ∧ ∃ v', WB w w1 p q v v' M S r.1 E r.2 := by
  obtain ⟨h1, v', h2, h3⟩ := hp
  refine ⟨h1, v', h2, h.rw.of_block (h3.block q h.rw.lt (fun e => h.pq e.symm) h.qv), h.pq, ?_, ⟨h3.os, h3.tape, h3.output, h3.size, fun b hb hp _ hv => h3.block b hb hp hv, h3.row⟩⟩
  rcases h3.row with e1 | ⟨g, hg, e1⟩
  · rw [e1]; exact h.qv
  · rw [e1]; intro e2; cases e2; have := h.rw.lt; omega

theorem PW.only {w w' : World} {p q : Nat} {v : Value} {M E : Int} {xs : List Value} (h : PW w p v M xs E) (hO : Only q w w') (hpq : p ≠ q) (hqv : some q ≠ v.ownBlock) : PW w' p v M xs E := by
  have hb : w'.heap[p]? = w.heap[p]? := hO.block p h.lt hpq
  have hg : w.grownBy w' (some q) := ⟨hO.os, hO.tape, hO.output, hO.size, fun k hk hk2 => hO.block k hk (fun e => hk2 (by rw [e]))⟩
  exact ⟨(cells_of_block hb 0).1.trans h.m, (cells_of_block hb 1).1.trans h.s, (cells_of_block hb 2).1.trans h.e, (cells_of_block hb 1).2.trans h.f1, (cells_of_block hb 2).2.trans h.f2,
    h.own.kept hg (.inr fun e => hqv e.symm)⟩

theorem WB.below {w0 w w1 : World} {p q : Nat} {v0 v : Value} {M : Int} {S T : ByteArray} {E F : Int} (h : WB w0 w p q v0 v M S T E F) (hB : Below w.heap.size w w1) : WB w0 w1 p q v0 v M S T E F :=
  ⟨h.pw.below hB, h.rw.below hB, h.pq, h.qv, ⟨hB.os.trans h.kb.os, hB.tape.trans h.kb.tape, hB.output.trans h.kb.output, Nat.le_trans h.kb.size hB.size,
    fun b hb h1 h2 h3 => (hB.block b (Nat.lt_of_lt_of_le hb h.kb.size)).trans (h.kb.block b hb h1 h2 h3), h.kb.row⟩⟩

theorem WB.second {w0 w w1 : World} {p q : Nat} {v0 v : Value} {M : Int} {S : ByteArray} {E : Int} {r : ByteArray × Int} {e : Ending} (h : WB w0 w p q v0 v M S r.1 E r.2) (hp : Wrote q M r w e w1) :
    e = .returned (.tuple #[]) ∧ WW w1 p q v M r.1 r.2 ∧ KB p q v0 v w0 w1 := by
  obtain ⟨h1, h2, h3⟩ := hp
  exact ⟨h1, ⟨h.pw.only h3 h.pq h.qv, h2, h.pq, h.qv⟩, ⟨h3.os.trans h.kb.os, h3.tape.trans h.kb.tape, h3.output.trans h.kb.output, Nat.le_trans h.kb.size h3.size,
    fun b hb hb1 hb2 hb3 => (h3.block b (Nat.lt_of_lt_of_le hb h.kb.size) hb2).trans (h.kb.block b hb hb1 hb2 hb3), h.kb.row⟩⟩

theorem rlay_size (M : Int) (S s : ByteArray) (E : Int) : (rlay M S E s).1.size ≤ S.size + s.size := by
  unfold rlay
  split
  · exact Nat.le_add_right _ _
  · split
    · exact Nat.le_add_right _ _
    · rw [ByteArray.size_append]; exact Nat.le_refl _


end Go.Proofs.YtlkhgnjljdbhnabDoor
namespace Go.Proofs.YtlkhgnjljdbhnabDoor
open Go.RowKit
theorem WW.below {w w1 : World} {p q : Nat} {v : Value} {M : Int} {S : ByteArray} {E : Int} (h : WW w p q v M S E) (hB : Below w.heap.size w w1) : WW w1 p q v M S E := ⟨h.pw.below hB, h.rw.below hB, h.pq, h.qv⟩
theorem KB.behind {w w1 w2 : World} {p q : Nat} {v v' : Value} (hB : Below w.heap.size w w1) (k : KB p q v v' w1 w2) : KB p q v v' w w2 :=
  ⟨k.os.trans hB.os, k.tape.trans hB.tape, k.output.trans hB.output, Nat.le_trans hB.size k.size, fun b hb h1 h2 h3 => (k.block b (Nat.lt_of_lt_of_le hb hB.size) h1 h2 h3).trans (hB.block b hb),
    by rcases k.row with e | ⟨g, hg, e⟩
       · exact .inl e
       · exact .inr ⟨g, Nat.le_trans hB.size hg, e⟩⟩

def opcV (K N MM : Int) (o : Bool) (s : ByteArray) (a b : Nat) : Value := .agg #[.int .i64 K, .int .i64 N, .int .i64 MM, .bool o, .string s, .int .u32 a, .int .u64 b]

end Go.Proofs.YtlkhgnjljdbhnabDoor
namespace Go.Proofs.YtlkhgnjljdbhnabDoor
open Go.RowKit
theorem bsz (l : List UInt8) : (⟨l.toArray⟩ : ByteArray).size = l.length := by have := bL_size l; omega
theorem rlay_of (M : Int) (S s : ByteArray) (E : Int) (c : Nat) (h : s.size ≤ c) : (rlay M S E s).1.size ≤ S.size + c := Nat.le_trans (rlay_size M S s E) (by omega)
theorem rlay_byL (M : Int) (S : ByteArray) (E : Int) (k : Nat) (n : Int) (c : Nat) (h : k ≤ c) : (rlay M S E ⟨(byL k n).toArray⟩).1.size ≤ S.size + c := rlay_of M S _ E c (by rw [bsz, byL_len]; exact h)
theorem rlay_beL (M : Int) (S : ByteArray) (E : Int) (k : Nat) (n : Nat) (c : Nat) (h : k ≤ c) : (rlay M S E ⟨(beL k n).toArray⟩).1.size ≤ S.size + c := rlay_of M S _ E c (by rw [bsz, beL_len]; exact h)

theorem c32_lt (x : Nat) (h : x < 4294967296) : c32 x < 4294967296 := by
  cases hn : nan32 x
  · rw [c32_num x hn]; exact h
  · rw [c32_nan x hn]; omega
theorem byL4_c32 (x : Nat) (h : x < 4294967296) : byL 4 (c32 x : Int) = beL 4 (c32 x) := by
  have := c32_lt x h
  unfold byL
  have e : ((c32 x : Int) % ((256 ^ 4 : Nat) : Int)).toNat = c32 x := by
    rw [show ((256 ^ 4 : Nat) : Int) = 4294967296 from rfl]; omega
  rw [e]
theorem byL8_wrap (m : Nat) (h : m < 18446744073709551616) : byL 8 (IntKind.i64.wrap (m : Int)) = beL 8 m := by
  unfold byL
  have e : (IntKind.i64.wrap (m : Int) % ((256 ^ 8 : Nat) : Int)).toNat = m := by
    rw [show ((256 ^ 8 : Nat) : Int) = 18446744073709551616 from rfl, IntKind.wrap_i64]; omega
  rw [e]
theorem opaque_size (s : ByteArray) : ((⟨(byL 4 (s.size : Int)).toArray⟩ : ByteArray) ++ s ++ ⟨(padL s.size).toArray⟩).size ≤ 7 + s.size := by
  rw [ByteArray.size_append, ByteArray.size_append, bsz (byL 4 (s.size : Int)), bsz (padL s.size), byL_len]
  have := padL_len s.size
  omega
theorem fixed_size (s : ByteArray) : (s ++ (⟨(padL s.size).toArray⟩ : ByteArray)).size ≤ 3 + s.size := by
  rw [ByteArray.size_append, bsz (padL s.size)]
  have := padL_len s.size
  omega

end Go.Proofs.YtlkhgnjljdbhnabDoor
namespace Go.Proofs.YtlkhgnjljdbhnabDoor
open Go.RowKit
theorem ownsRow_of_block {w w' : World} {base : Nat} {e : TypeId} {size : Nat} {v : Value} {n : Nat} {xs : List Value} (h : w.ownsRow base e size v n xs)
    (hb : ∀ g, v.ownBlock = some g → w'.heap[g]? = w.heap[g]?) : w'.ownsRow base e size v n xs := by
  refine ⟨h.1, ?_⟩
  rcases h.2 with hn | ⟨g, cap, cur, rfl, h1, hgg, rest⟩
  · exact .inl hn
  · exact .inr ⟨g, cap, cur, rfl, h1, (hb g rfl).trans hgg, rest⟩

theorem PW.of_blocks {w w' : World} {p : Nat} {v : Value} {M E : Int} {xs : List Value} (h : PW w p v M xs E) (hp : w'.heap[p]? = w.heap[p]?) (hg : ∀ g, v.ownBlock = some g → w'.heap[g]? = w.heap[g]?) : PW w' p v M xs E :=
  ⟨(cells_of_block hp 0).1.trans h.m, (cells_of_block hp 1).1.trans h.s, (cells_of_block hp 2).1.trans h.e, (cells_of_block hp 1).2.trans h.f1, (cells_of_block hp 2).2.trans h.f2, ownsRow_of_block h.own hg⟩

theorem WW.of_blocks {w w' : World} {p q : Nat} {v : Value} {M : Int} {S : ByteArray} {E : Int} (h : WW w p q v M S E) (hp : w'.heap[p]? = w.heap[p]?) (hq : w'.heap[q]? = w.heap[q]?) (hg : ∀ g, v.ownBlock = some g → w'.heap[g]? = w.heap[g]?) : WW w' p q v M S E :=
  ⟨h.pw.of_blocks hp hg, h.rw.of_block hq, h.pq, h.qv⟩

/-- The blocks of one pair of Writers. -/
def Mine (p q : Nat) (v : Value) (b : Nat) : Prop := b = p ∨ b = q ∨ v.ownBlock = some b

/-- Two pairs, none of whose blocks is the other's, all of them new. -/
structure Two (n0 : Nat) (w : World) (p q : Nat) (v : Value) (M : Int) (S : ByteArray) (E : Int) (p2 q2 : Nat) (v2 : Value) (M2 : Int) (S2 : ByteArray) (E2 : Int) : Prop where
  a : WW w p q v M S E
  b : WW w p2 q2 v2 M2 S2 E2
  np : n0 ≤ p
  nq : n0 ≤ q
  np2 : n0 ≤ p2
  nq2 : n0 ≤ q2
  apart : ∀ x, Mine p q v x → Mine p2 q2 v2 x → False

theorem KB.same {p q : Nat} {v v' : Value} {w w' : World} (k : KB p q v v' w w') (b : Nat) (hb : b < w.heap.size) (hm : ¬ Mine p q v b) : w'.heap[b]? = w.heap[b]? :=
  k.block b hb (fun e => hm (.inl e)) (fun e => hm (.inr (.inl e))) (fun e => hm (.inr (.inr e.symm)))

/-- What stays of a call: all blocks that are not new. -/
theorem Two.old {n0 : Nat} {w w' : World} {p q : Nat} {v v' : Value} {M : Int} {S : ByteArray} {E : Int} {p2 q2 : Nat} {v2 : Value} {M2 : Int} {S2 : ByteArray} {E2 : Int} (h : Two n0 w p q v M S E p2 q2 v2 M2 S2 E2)
    (k : KB p q v v' w w') (hn : n0 ≤ w.heap.size) {w0 : World} (hB : Below n0 w0 w) : Below n0 w0 w' := by
  refine ⟨k.os.trans hB.os, k.tape.trans hB.tape, k.output.trans hB.output, Nat.le_trans hB.size k.size, fun b hb => ?_⟩
  refine (k.same b (Nat.lt_of_lt_of_le hb hn) ?_).trans (hB.block b hb)
  rintro (e | e | e)
  · have := h.np; omega
  · have := h.nq; omega
  · have := (h.a.pw.own.lt b e).1
    have := h.np
    omega

theorem Two.below {n0 : Nat} {w w' : World} {p q : Nat} {v : Value} {M : Int} {S : ByteArray} {E : Int} {p2 q2 : Nat} {v2 : Value} {M2 : Int} {S2 : ByteArray} {E2 : Int} (h : Two n0 w p q v M S E p2 q2 v2 M2 S2 E2)
    (hB : Below w.heap.size w w') : Two n0 w' p q v M S E p2 q2 v2 M2 S2 E2 :=
  ⟨h.a.below hB, h.b.below hB, h.np, h.nq, h.np2, h.nq2, h.apart⟩


end Go.Proofs.YtlkhgnjljdbhnabDoor
namespace Go.Proofs.YtlkhgnjljdbhnabDoor
open Go.Shelf
def clone_ren : Go.Shelf.Ren := ⟨fun | 316 => 64 | n => n, fun | 0 => 0 | 3 => 3 | 4 => 4 | 5 => 5 | 9 => 9 | 37 => 52 | 127 => 113 | n => n, fun | n => n⟩
theorem clone_lays : Go.Proofs.LaysM.n316 Tryd.prog clone_ren := {
  mixed := by kernel_rfl
  f316 := Tryd.func64.trans (congrArg some (by kernel_rfl))
  t0 := Tryd.underlying0
  a0 := Tryd.isAgg0
  z0 := Tryd.sizeOf0
  v0 := Tryd.zeroValue0
  t3 := Tryd.underlying3
  a3 := Tryd.isAgg3
  z3 := Tryd.sizeOf3
  v3 := Tryd.zeroValue3
  t4 := Tryd.underlying4
  a4 := Tryd.isAgg4
  z4 := Tryd.sizeOf4
  v4 := Tryd.zeroValue4
  t9 := Tryd.underlying9
  a9 := Tryd.isAgg9
  z9 := Tryd.sizeOf9
  v9 := Tryd.zeroValue9
  t37 := Tryd.underlying52
  a37 := Tryd.isAgg52
  z37 := Tryd.sizeOf52
  v37 := Tryd.zeroValue52
  t127 := Tryd.underlying113
  a127 := Tryd.isAgg113
  z127 := Tryd.sizeOf113
  v127 := Tryd.zeroValue113
  t5 := Tryd.underlying5
  a5 := Tryd.isAgg5
  z5 := Tryd.sizeOf5
  v5 := Tryd.zeroValue5
  i0 := by kernel_rfl
  i3 := by kernel_rfl
  i4 := by kernel_rfl
  i5 := by kernel_rfl
  i9 := by kernel_rfl
  i37 := by kernel_rfl
  i127 := by kernel_rfl }

theorem clone_inner (s : ByteArray) (w : World) (hlim : s.size ≤ 281474976710656) :
    Calls Tryd.prog 64 #[.string s] w fun e w' => e = .returned (.string s) ∧ Go.RowKit.Below w.heap.size w w' := Any.stringslite_Clone clone_lays s w hlim

open Go.RowKit in
theorem clone_any (s : ByteArray) (w : World) (hlim : s.size ≤ 281474976710656) :
    Calls Tryd.prog 47 #[.string s] w fun e w' => e = .returned (.string s) ∧ Below w.heap.size w w' := by
  have H : Hid (Calls Tryd.prog 64 #[.string s] w fun e w' => e = .returned (.string s) ∧ Below w.heap.size w w') := clone_inner s w hlim
  clear hlim
  go_enter Tryd.func47, Tryd.ntmps47
  go_wp2_with fail
  refine H.out.mono ?_
  rintro e w' ⟨rfl, hB⟩
  have HB : Hid (Below w.heap.size w w') := hB
  clear hB
  go_wp2
  go_ret
  exact ⟨rfl, HB.out⟩


end Go.Proofs.YtlkhgnjljdbhnabDoor
namespace Go.Proofs.YtlkhgnjljdbhnabDoor
open Go.RowKit
/-- A Reader of the program's: what is left, what was wrong first. -/
structure PR (w : World) (p : Nat) (L : ByteArray) (E : Int) : Prop where
  l : w.cell? ⟨p, 0, none⟩ = some (.string L)
  e : w.cell? ⟨p, 1, none⟩ = some (trV E)
  f0 : w.frozen? ⟨p, 0, none⟩ = false
  f1 : w.frozen? ⟨p, 1, none⟩ = false

theorem PR.lt {w : World} {p : Nat} {L : ByteArray} {E : Int} (h : PR w p L E) : p < w.heap.size := by
  rcases Nat.lt_or_ge p w.heap.size with h1 | h1
  · exact h1
  · have := h.l
    simp [World.cell?, Array.getElem?_eq_none h1] at this

theorem PR.of_block {w w' : World} {p : Nat} {L : ByteArray} {E : Int} (h : PR w p L E) (hb : w'.heap[p]? = w.heap[p]?) : PR w' p L E :=
  ⟨(cells_of_block hb 0).1.trans h.l, (cells_of_block hb 1).1.trans h.e, (cells_of_block hb 0).2.trans h.f0, (cells_of_block hb 1).2.trans h.f1⟩

theorem rdnew (s : ByteArray) (w : World) : Calls Tryd.prog 12 #[.string s] w fun e w' => e = .returned (.pointer (some ⟨w.heap.size, 0, none⟩)) ∧ w' = w.alloc (.cells #[.string s, .nilIface] 67) := by
  go_enter Tryd.func12, Tryd.ntmps12
  go_wp2
  go_ret
  exact ⟨rfl, rfl⟩

theorem PR.new (s : ByteArray) (w : World) : PR (w.alloc (.cells #[.string s, .nilIface] 67)) w.heap.size s 0 := by
  refine ⟨?_, ?_, ?_, ?_⟩ <;> simp [trV]

theorem frontWord_ex (w : World) : Calls Tryd.prog 45 #[.string ⟨#[0, 0, 0, 2, 97, 98, 99, 0]⟩] w fun e w' => e = .returned (.tuple #[.int .u32 2, .nilIface]) ∧ Below w.heap.size w w' := by
  go_enter Tryd.func45, Tryd.ntmps45
  go_wp2
  go_quiet (fail)
  go_wp2
  go_ret2
  refine ⟨?_, ?_⟩
  · rfl
  · exact below_drewN (Below.refl _ _) _

theorem frontText_ex (w : World) : Calls Tryd.prog 55 #[.string ⟨#[97, 98, 99, 0]⟩, .int .i64 3] w fun e w' => e = .returned (.tuple #[.string ⟨#[97, 98, 99]⟩, .nilIface]) ∧ Below w.heap.size w w' := by
  have HG : Hid (∀ w, Calls Tryd.prog 52 #[.int .i64 3] w fun e w' => e = .returned (.bool true) ∧ w' = w) := fun w => isWord_any 3 w
  have H1 : Hid (∀ w, Calls Tryd.prog 53 #[.int .i64 3] w fun e w' => e = .returned (.string ⟨#[0]⟩) ∧ w' = w) := fun w => padding_any 3 w (by decide)
  have hx : (⟨#[97, 98, 99, 0]⟩ : ByteArray).extract 3 4 = ⟨#[0]⟩ := by rfl
  go_enter Tryd.func55, Tryd.ntmps55
  go_wp2_with (first | (go_at_call 52; refine (HG.out _).mono ?_; rintro e w' ⟨rfl, rfl⟩) | (go_at_call 53; refine (H1.out _).mono ?_; rintro e w' ⟨rfl, rfl⟩))
  go_quiet (first | (go_at_call 53; exact Calls.quiet_of_same (H1.out _)) | (go_at_call 53; exact Calls.quiet_of_same (H1.out _)))
  go_wp2
  go_ret2
  refine ⟨?_, ?_⟩
  · rfl
  · exact below_drewN (Below.refl _ _) _

theorem take_ok_ex (p n : Nat) (L : ByteArray) (w : World) (h : PR w p L 0) (hn : n ≤ L.size) :
    Calls Tryd.prog 46 #[.pointer (some ⟨p, 0, none⟩), .int .i64 n, .nilIface] w fun e w' => e = .returned (.bool true) ∧ PR w' p (L.extract n L.size) 0 ∧ Only p w w' := by
  have h0 := h.l
  have h1 : w.cell? ⟨p, 1, none⟩ = some .nilIface := h.e
  have h2 := h.f0
  have h3 := h.f1
  have H1 : Hid (Calls Tryd.prog 63 #[.pointer (some ⟨p, 1, none⟩), .nilIface] w fun r w' => r = .returned (.tuple #[]) ∧ w' = w.setCell ⟨p, 1, none⟩ .nilIface) := note_nil ⟨p, 1, none⟩ w h1 h3
  have H2 : Hid (Calls Tryd.prog 35 #[.pointer (some ⟨p, 1, none⟩)] (w.setCell ⟨p, 1, none⟩ .nilIface) fun r w' => r = .returned (.bool false) ∧ w' = w.setCell ⟨p, 1, none⟩ .nilIface) := any_no ⟨p, 1, none⟩ _ (World.cell?_setCell_same _ _ _ h1)
  have HP : Hid (PR ((w.setCell ⟨p, 1, none⟩ .nilIface).setCell ⟨p, 0, none⟩ (.string (L.extract n L.size))) p (L.extract n L.size) 0) :=
    ⟨World.cell?_setCell_same _ _ _ (show (w.setCell ⟨p, 1, none⟩ .nilIface).cell? ⟨p, 0, none⟩ = some (.string L) by rw [World.cell?_setCell_other _ _ _ _ (by simp)]; exact h0),
     by rw [World.cell?_setCell_other _ _ _ _ (by simp)]; exact World.cell?_setCell_same _ _ _ h1, by rw [World.frozen?_setCell, World.frozen?_setCell]; exact h2, by rw [World.frozen?_setCell, World.frozen?_setCell]; exact h3⟩
  clear h
  go_enter Tryd.func46, Tryd.ntmps46
  go_wp2_with (first | (go_at_call 63; refine H1.out.mono ?_; rintro e w' ⟨rfl, rfl⟩) | (go_at_call 35; refine H2.out.mono ?_; rintro e w' ⟨rfl, rfl⟩))
  go_ret
  exact ⟨rfl, HP.out, (Only.setCell w 1 _).trans (Only.setCell _ 0 _)⟩

theorem rduint_ex (p : Nat) (w : World) (h : PR w p ⟨#[0, 0, 0, 2, 97, 98, 99, 0]⟩ 0) :
    Calls Tryd.prog 24 #[.pointer (some ⟨p, 0, none⟩)] w fun e w' => e = .returned (.int .i64 2) ∧ PR w' p ⟨#[97, 98, 99, 0]⟩ 0 ∧ Only p w w' := by
  have hl := h.lt
  have h0 := h.l
  have H1 : Hid (Calls Tryd.prog 45 #[.string ⟨#[0, 0, 0, 2, 97, 98, 99, 0]⟩] w fun e w' => e = .returned (.tuple #[.int .u32 2, .nilIface]) ∧ Below w.heap.size w w') := frontWord_ex w
  have H2 : Hid (∀ w1, Below w.heap.size w w1 → Calls Tryd.prog 46 #[.pointer (some ⟨p, 0, none⟩), .int .i64 4, .nilIface] w1 fun e w' => e = .returned (.bool true) ∧ PR w' p ⟨#[97, 98, 99, 0]⟩ 0 ∧ Only p w w') := fun w1 hb =>
    (take_ok_ex p 4 ⟨#[0, 0, 0, 2, 97, 98, 99, 0]⟩ w1 (h.of_block (hb.block p hl)) (by decide)).mono fun e w' hp => ⟨hp.1, hp.2.1, (Only.of_below hb).trans hp.2.2⟩
  clear h hl
  go_enter Tryd.func24, Tryd.ntmps24
  go_wp2_with fail
  refine H1.out.mono ?_
  rintro e w1 ⟨rfl, hb⟩
  have HB : Hid (Below w.heap.size w w1) := hb
  clear hb
  go_wp2_with fail
  refine (H2.out _ HB.out).mono ?_
  rintro e w2 ⟨rfl, hp⟩
  have HP : Hid (PR w2 p ⟨#[97, 98, 99, 0]⟩ 0 ∧ Only p w w2) := hp
  clear hp
  go_wp2
  go_ret
  exact ⟨rfl, HP.out⟩

theorem rdfixed_ex (p : Nat) (w : World) (h : PR w p ⟨#[97, 98, 99, 0]⟩ 0) :
    Calls Tryd.prog 25 #[.pointer (some ⟨p, 0, none⟩), .int .i64 3] w fun e w' => e = .returned (.string ⟨#[97, 98, 99]⟩) ∧ PR w' p ⟨#[]⟩ 0 ∧ Only p w w' := by
  have hl := h.lt
  have h0 := h.l
  have H0 : Hid (∀ w, Calls Tryd.prog 53 #[.int .i64 3] w fun e w' => e = .returned (.string ⟨#[0]⟩) ∧ w' = w) := fun w => padding_any 3 w (by decide)
  have H1 : Hid (Calls Tryd.prog 55 #[.string ⟨#[97, 98, 99, 0]⟩, .int .i64 3] w fun e w' => e = .returned (.tuple #[.string ⟨#[97, 98, 99]⟩, .nilIface]) ∧ Below w.heap.size w w') := frontText_ex w
  have H2 : Hid (∀ w1, Below w.heap.size w w1 → Calls Tryd.prog 46 #[.pointer (some ⟨p, 0, none⟩), .int .i64 4, .nilIface] w1 fun e w' => e = .returned (.bool true) ∧ PR w' p ⟨#[]⟩ 0 ∧ Only p w w') := fun w1 hb =>
    (take_ok_ex p 4 ⟨#[97, 98, 99, 0]⟩ w1 (h.of_block (hb.block p hl)) (by decide)).mono fun e w' hp => ⟨hp.1, hp.2.1, (Only.of_below hb).trans hp.2.2⟩
  have H3 : Hid (∀ w, Calls Tryd.prog 47 #[.string ⟨#[97, 98, 99]⟩] w fun e w' => e = .returned (.string ⟨#[97, 98, 99]⟩) ∧ Below w.heap.size w w') := fun w => clone_any _ w (by decide)
  clear h hl
  go_enter Tryd.func25, Tryd.ntmps25
  go_wp2_with fail
  refine H1.out.mono ?_
  rintro e w1 ⟨rfl, hb⟩
  have HB : Hid (Below w.heap.size w w1) := hb
  clear hb
  go_wp2_with fail
  refine (H0.out _).mono ?_
  rintro e w2 ⟨rfl, hw2⟩
  have hw3 := hw2.symm
  clear hw2
  subst hw3
  go_wp2_with fail
  refine (H2.out _ HB.out).mono ?_
  rintro e w2 ⟨rfl, hp⟩
  have HP : Hid (PR w2 p ⟨#[]⟩ 0 ∧ Only p w w2) := hp
  clear hp
  go_wp2_with fail
  refine (H3.out _).mono ?_
  rintro e w3 ⟨rfl, hb⟩
  have HB3 : Hid (Below w2.heap.size w2 w3) := hb
  clear hb
  go_wp2
  go_ret
  exact ⟨rfl, HP.out.1.of_block (HB3.out.block p HP.out.1.lt), HP.out.2.trans (Only.of_below HB3.out)⟩

theorem rddone_ex (p : Nat) (w : World) (h : PR w p ⟨#[]⟩ 0) :
    Calls Tryd.prog 14 #[.pointer (some ⟨p, 0, none⟩)] w fun e w' => e = .returned (.int .i64 0) ∧ Below w.heap.size w w' := by
  have h0 := h.l
  have h1 : w.cell? ⟨p, 1, none⟩ = some .nilIface := h.e
  have H1 : Hid (Calls Tryd.prog 35 #[.pointer (some ⟨p, 1, none⟩)] w fun r w' => r = .returned (.bool false) ∧ w' = w) := any_no ⟨p, 1, none⟩ w h1
  have H2 : Hid (Calls Tryd.prog 36 #[.pointer (some ⟨p, 1, none⟩)] w fun r w' => r = .returned (.int .i64 0) ∧ Below w.heap.size w w') := number_no ⟨p, 1, none⟩ w h1
  clear h
  go_enter Tryd.func14, Tryd.ntmps14
  go_wp2_with fail
  refine H1.out.mono ?_
  rintro e w2 ⟨rfl, hw2⟩
  have hw3 := hw2.symm
  clear hw2
  subst hw3
  go_wp2_with fail
  refine H2.out.mono ?_
  rintro e w2 ⟨rfl, hb⟩
  have HB : Hid (Below w.heap.size w w2) := hb
  clear hb
  go_wp2
  go_ret
  exact ⟨rfl, HB.out⟩


end Go.Proofs.YtlkhgnjljdbhnabDoor
namespace Go.Proofs.YtlkhgnjljdbhnabDoor
open Go.RowKit
/-- so many bytes at the most, of the first calls -/
def wsum (T : Nat → ByteArray) : Nat → Nat
  | 0 => 0
  | k + 1 => wsum T k + (16 + (T k).size)
theorem wsum_mono (T : Nat → ByteArray) (k n : Nat) (h : k ≤ n) : wsum T k ≤ wsum T n := by
  induction n with
  | zero => obtain rfl : k = 0 := by omega
            exact Nat.le_refl _
  | succ n ih =>
    rcases Nat.lt_or_ge k (n + 1) with h1 | h1
    · have := ih (by omega)
      show wsum T k ≤ wsum T n + (16 + (T n).size)
      omega
    · obtain rfl : k = n + 1 := by omega
      exact Nat.le_refl _

def addF (a b : Int) : Int := if 2147483647 < a ∨ 2147483647 < b then 2147483648 else a + b
theorem addsUp_any (a b : Int) (w : World) (ha0 : 0 ≤ a) (hb0 : 0 ≤ b) : Calls Tryd.prog 5 #[.int .i64 a, .int .i64 b] w fun e w' => e = .returned (.int .i64 (addF a b)) ∧ w' = w := by
  unfold addF
  by_cases h : 2147483647 < a ∨ 2147483647 < b
  · rw [if_pos h]; exact addsUp_over a b w h
  · rw [if_neg h]; exact addsUp_fits a b w ha0 hb0 (by omega) (by omega)

set_option maxRecDepth 4000 in
set_option maxHeartbeats 4000000 in
theorem weighs_any (oa : Option Addr) (b off len cap : Nat) (T : Nat → ByteArray) (w : World) (hoa : 0 < len → oa = some ⟨b, off, none⟩) (hc : ∀ i, i < len → w.cell? ⟨b, off + i * 7 + 4, none⟩ = some (.string (T i)))
    (hlen : (len : Int) ≤ 9223372036854775807) :
    Calls Tryd.prog 6 #[.slice oa len cap] w fun e w' => ∃ n : Int, e = .returned (.int .i64 n) ∧ w' = w ∧ (n ≤ 2147483647 → n = (len : Int) + (wsum T len : Int)) := by
  have HC : Hid (∀ i, i < len → w.cell? ⟨b, off + i * 7 + 4, none⟩ = some (.string (T i))) := hc
  have HO : Hid (0 < len → oa = some ⟨b, off, none⟩) := hoa
  have HA : Hid (∀ (a b : Int) (w : World), 0 ≤ a → 0 ≤ b → Calls Tryd.prog 5 #[.int .i64 a, .int .i64 b] w fun e w' => e = .returned (.int .i64 (addF a b)) ∧ w' = w) := addsUp_any
  obtain ⟨n0, hn0⟩ : ∃ n0 : Int, addF 0 (len : Int) = n0 := ⟨_, rfl⟩
  have HN0 : Hid (0 ≤ n0 ∧ (n0 ≤ 2147483647 → n0 = (len : Int))) := by
    subst hn0
    unfold addF
    refine ⟨by split <;> omega, fun h => ?_⟩
    split at h
    · omega
    · rw [if_neg (by assumption)]; omega
  have H0 : Hid (Calls Tryd.prog 5 #[.int .i64 0, .int .i64 (len : Int)] w fun e w' => e = .returned (.int .i64 n0) ∧ w' = w) := by
    have := addsUp_any 0 (len : Int) w (by omega) (by omega)
    rw [hn0] at this
    exact this
  clear hn0 hc hoa
  go_enter Tryd.func6, Tryd.ntmps6
  go_wp2_with fail
  refine H0.out.mono ?_
  rintro e w' ⟨rfl, hw'⟩
  have hw2 := hw'.symm
  clear hw'
  subst hw2
  go_wp2_with fail
  go_loop [3, 4] (fun sz ix => ∃ (k : Nat) (Z : Int), ix = .int .i64 k ∧ sz = .int .i64 Z ∧ k ≤ len ∧ 0 ≤ Z ∧ Hid (Z ≤ 2147483647 → Z = (len : Int) + (wsum T k : Int))) (fun _ ix => len - (intOf ix).toNat)
  case atStart => exact ⟨0, n0, rfl, rfl, by omega, HN0.out.1, (show n0 ≤ 2147483647 → n0 = (len : Int) + ((0 : Nat) : Int) from fun h => by have := HN0.out.2 h; omega)⟩
  case round =>
    obtain ⟨k, Z, rfl, rfl, hk, hZ0, HZ⟩ := hrel
    by_cases hlt : k < len
    · by_cases hZ : Z ≤ 2147483647
      · obtain rfl := HO.out (by omega)
        have hcell := HC.out k hlt
        obtain ⟨t, ht⟩ : ∃ t, T k = t := ⟨_, rfl⟩
        rw [ht] at hcell
        obtain ⟨y, hy⟩ : ∃ y : Int, addF 16 (t.size : Int) = y := ⟨_, rfl⟩
        obtain ⟨z, hz⟩ : ∃ z : Int, addF Z y = z := ⟨_, rfl⟩
        have hy0 : 0 ≤ y := by subst hy; unfold addF; split <;> omega
        have hz0 : 0 ≤ z := by subst hz; unfold addF; split <;> omega
        have HZ2 : Hid (z ≤ 2147483647 → z = (len : Int) + (wsum T (k + 1) : Int)) := by
          show z ≤ 2147483647 → z = (len : Int) + ((wsum T k + (16 + (T k).size) : Nat) : Int)
          intro h1
          rw [ht]
          have h2 := HZ.out hZ
          subst hz
          unfold addF at h1 hy ⊢
          split at h1
          · omega
          · rename_i h3
            rw [if_neg h3]
            split at hy
            · omega
            · omega
        have H1 : Hid (Calls Tryd.prog 5 #[.int .i64 16, .int .i64 (t.size : Int)] w fun e w' => e = .returned (.int .i64 y) ∧ w' = w) := by
          have := addsUp_any 16 (t.size : Int) w (by omega) (by omega)
          rw [hy] at this
          exact this
        have H2 : Hid (Calls Tryd.prog 5 #[.int .i64 Z, .int .i64 y] w fun e w' => e = .returned (.int .i64 z) ∧ w' = w) := by
          have := addsUp_any Z y w hZ0 hy0
          rw [hz] at this
          exact this
        clear hy hz ht
        go_wp2_with fail
        refine H1.out.mono ?_
        rintro e w' ⟨rfl, hw'⟩
        have hw2 := hw'.symm
        clear hw'
        subst hw2
        go_wp2_with fail
        refine H2.out.mono ?_
        rintro e w' ⟨rfl, hw'⟩
        have hw2 := hw'.symm
        clear hw'
        subst hw2
        go_wp2
        go_round
        case rel => exact ⟨k + 1, z, by go_num, rfl, by omega, hz0, HZ2.out⟩
        case measure => simp [intOf]; omega
      · go_wp2
        go_ret
        exact ⟨Z, rfl, rfl, fun h => by omega⟩
    · obtain rfl : k = len := by omega
      go_wp2
      go_ret
      exact ⟨Z, rfl, rfl, HZ.out⟩


end Go.Proofs.YtlkhgnjljdbhnabDoor
