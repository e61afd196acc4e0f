/- One call of both Writers: each kind, whatever the script says. Two pairs of Writers at once: what a call of the one pair leaves of the other. strings.Clone: the same bytes (the shelf's contract at this program). The Reader of the chapter's example: a word, a text of three bytes, the end. -/
import Derived.Test.YtfcbjcebkahehaaGreatDoorZac
import Derived.Shelf.Strconv.Clone
namespace Go.Proofs.YtfcbjcebkahehaaGreatDoor
open Go.RowKit
theorem bsz (l : List UInt8) : (⟨l.toArray⟩ : ByteArray).size = l.length := by have := bL_size l; omega
theorem rlay_of (M : Int) (S s : ByteArray) (E : Int) (c : Nat) (h : s.size ≤ c) : (rlay M S E s).1.size ≤ S.size + c := Nat.le_trans (rlay_size M S s E) (by omega)
theorem rlay_byL (M : Int) (S : ByteArray) (E : Int) (k : Nat) (n : Int) (c : Nat) (h : k ≤ c) : (rlay M S E ⟨(byL k n).toArray⟩).1.size ≤ S.size + c := rlay_of M S _ E c (by rw [bsz, byL_len]; exact h)
theorem opaque_size (s : ByteArray) : ((⟨(byL 4 (s.size : Int)).toArray⟩ : ByteArray) ++ s ++ ⟨(padL s.size).toArray⟩).size ≤ 7 + s.size := by
  rw [ByteArray.size_append, ByteArray.size_append, bsz (byL 4 (s.size : Int)), bsz (padL s.size), byL_len]
  have := padL_len s.size
  omega
end Go.Proofs.YtfcbjcebkahehaaGreatDoor
namespace Go.Proofs.YtfcbjcebkahehaaGreatDoor
open Go.RowKit
theorem ownsRow_of_block {w w' : World} {base : Nat} {e : TypeId} {size : Nat} {v : Value} {n : Nat} {xs : List Value} (h : w.ownsRow base e size v n xs)
    (hb : ∀ g, v.ownBlock = some g → w'.heap[g]? = w.heap[g]?) : w'.ownsRow base e size v n xs := by
  refine ⟨h.1, ?_⟩
  rcases h.2 with hn | ⟨g, cap, cur, rfl, h1, hgg, rest⟩
  · exact .inl hn
  · exact .inr ⟨g, cap, cur, rfl, h1, (hb g rfl).trans hgg, rest⟩

theorem PW.of_blocks {w w' : World} {p : Nat} {v : Value} {M E : Int} {xs : List Value} (h : PW w p v M xs E) (hp : w'.heap[p]? = w.heap[p]?) (hg : ∀ g, v.ownBlock = some g → w'.heap[g]? = w.heap[g]?) : PW w' p v M xs E :=
  ⟨(cells_of_block hp 0).1.trans h.m, (cells_of_block hp 1).1.trans h.s, (cells_of_block hp 2).1.trans h.e, (cells_of_block hp 1).2.trans h.f1, (cells_of_block hp 2).2.trans h.f2, ownsRow_of_block h.own hg⟩

theorem WW.of_blocks {w w' : World} {p q : Nat} {v : Value} {M : Int} {S : ByteArray} {E : Int} (h : WW w p q v M S E) (hp : w'.heap[p]? = w.heap[p]?) (hq : w'.heap[q]? = w.heap[q]?) (hg : ∀ g, v.ownBlock = some g → w'.heap[g]? = w.heap[g]?) : WW w' p q v M S E :=
  ⟨h.pw.of_blocks hp hg, h.rw.of_block hq, h.pq, h.qv⟩

/-- The blocks of one pair of Writers. -/
def Mine (p q : Nat) (v : Value) (b : Nat) : Prop := b = p ∨ b = q ∨ v.ownBlock = some b

/-- Two pairs, none of whose blocks is the other's, all of them new. -/
structure Two (n0 : Nat) (w : World) (p q : Nat) (v : Value) (M : Int) (S : ByteArray) (E : Int) (p2 q2 : Nat) (v2 : Value) (M2 : Int) (S2 : ByteArray) (E2 : Int) : Prop where
  a : WW w p q v M S E
  b : WW w p2 q2 v2 M2 S2 E2
  np : n0 ≤ p
  nq : n0 ≤ q
  np2 : n0 ≤ p2
  nq2 : n0 ≤ q2
  apart : ∀ x, Mine p q v x → Mine p2 q2 v2 x → False

theorem KB.same {p q : Nat} {v v' : Value} {w w' : World} (k : KB p q v v' w w') (b : Nat) (hb : b < w.heap.size) (hm : ¬ Mine p q v b) : w'.heap[b]? = w.heap[b]? :=
  k.block b hb (fun e => hm (.inl e)) (fun e => hm (.inr (.inl e))) (fun e => hm (.inr (.inr e.symm)))

/-- What stays of a call: all blocks that are not new. -/
theorem Two.old {n0 : Nat} {w w' : World} {p q : Nat} {v v' : Value} {M : Int} {S : ByteArray} {E : Int} {p2 q2 : Nat} {v2 : Value} {M2 : Int} {S2 : ByteArray} {E2 : Int} (h : Two n0 w p q v M S E p2 q2 v2 M2 S2 E2)
    (k : KB p q v v' w w') (hn : n0 ≤ w.heap.size) {w0 : World} (hB : Below n0 w0 w) : Below n0 w0 w' := by
  refine ⟨k.os.trans hB.os, k.tape.trans hB.tape, k.output.trans hB.output, Nat.le_trans hB.size k.size, fun b hb => ?_⟩
  refine (k.same b (Nat.lt_of_lt_of_le hb hn) ?_).trans (hB.block b hb)
  rintro (e | e | e)
  · have := h.np; omega
  · have := h.nq; omega
  · have := (h.a.pw.own.lt b e).1
    have := h.np
    omega

theorem Two.below {n0 : Nat} {w w' : World} {p q : Nat} {v : Value} {M : Int} {S : ByteArray} {E : Int} {p2 q2 : Nat} {v2 : Value} {M2 : Int} {S2 : ByteArray} {E2 : Int} (h : Two n0 w p q v M S E p2 q2 v2 M2 S2 E2)
    (hB : Below w.heap.size w w') : Two n0 w' p q v M S E p2 q2 v2 M2 S2 E2 :=
  ⟨h.a.below hB, h.b.below hB, h.np, h.nq, h.np2, h.nq2, h.apart⟩



end Go.Proofs.YtfcbjcebkahehaaGreatDoor
namespace Go.Proofs.YtfcbjcebkahehaaGreatDoor
open Go.Shelf
def clone_ren : Go.Shelf.Ren := ⟨fun | 316 => 75 | n => n, fun | 0 => 0 | 3 => 3 | 4 => 4 | 5 => 5 | 9 => 9 | 37 => 174 | 127 => 175 | n => n, fun | n => n⟩
theorem clone_lays : Go.Proofs.LaysM.n316 Tryz.prog clone_ren := {
  mixed := by kernel_rfl
  f316 := Tryz.func75.trans (congrArg some (by kernel_rfl))
  t0 := Tryz.underlying0
  a0 := Tryz.isAgg0
  z0 := Tryz.sizeOf0
  v0 := Tryz.zeroValue0
  t3 := Tryz.underlying3
  a3 := Tryz.isAgg3
  z3 := Tryz.sizeOf3
  v3 := Tryz.zeroValue3
  t4 := Tryz.underlying4
  a4 := Tryz.isAgg4
  z4 := Tryz.sizeOf4
  v4 := Tryz.zeroValue4
  t9 := Tryz.underlying9
  a9 := Tryz.isAgg9
  z9 := Tryz.sizeOf9
  v9 := Tryz.zeroValue9
  t37 := Tryz.underlying174
  a37 := Tryz.isAgg174
  z37 := Tryz.sizeOf174
  v37 := Tryz.zeroValue174
  t127 := Tryz.underlying175
  a127 := Tryz.isAgg175
  z127 := Tryz.sizeOf175
  v127 := Tryz.zeroValue175
  t5 := Tryz.underlying5
  a5 := Tryz.isAgg5
  z5 := Tryz.sizeOf5
  v5 := Tryz.zeroValue5
  i0 := by kernel_rfl
  i3 := by kernel_rfl
  i4 := by kernel_rfl
  i5 := by kernel_rfl
  i9 := by kernel_rfl
  i37 := by kernel_rfl
  i127 := by kernel_rfl }

theorem clone_inner (s : ByteArray) (w : World) (hlim : s.size ≤ 281474976710656) :
    Calls Tryz.prog 75 #[.string s] w fun e w' => e = .returned (.string s) ∧ Go.RowKit.Below w.heap.size w w' := Any.stringslite_Clone clone_lays s w hlim

open Go.RowKit in
theorem clone_any (s : ByteArray) (w : World) (hlim : s.size ≤ 281474976710656) :
    Calls Tryz.prog 45 #[.string s] w fun e w' => e = .returned (.string s) ∧ Below w.heap.size w w' := by
  have H : Hid (Calls Tryz.prog 75 #[.string s] w fun e w' => e = .returned (.string s) ∧ Below w.heap.size w w') := clone_inner s w hlim
  clear hlim
  go_enter Tryz.func45, Tryz.ntmps45
  go_wp2_with fail
  refine H.out.mono ?_
  rintro e w' ⟨rfl, hB⟩
  have HB : Hid (Below w.heap.size w w') := hB
  clear hB
  go_wp2
  go_ret
  exact ⟨rfl, HB.out⟩



end Go.Proofs.YtfcbjcebkahehaaGreatDoor
namespace Go.Proofs.YtfcbjcebkahehaaGreatDoor
open Go.RowKit
/-- A Reader of the program's: what is left, what was wrong first. -/
structure PR (w : World) (p : Nat) (L : ByteArray) (E : Int) : Prop where
  l : w.cell? ⟨p, 0, none⟩ = some (.string L)
  e : w.cell? ⟨p, 1, none⟩ = some (trV E)
  f0 : w.frozen? ⟨p, 0, none⟩ = false
  f1 : w.frozen? ⟨p, 1, none⟩ = false

theorem PR.lt {w : World} {p : Nat} {L : ByteArray} {E : Int} (h : PR w p L E) : p < w.heap.size := by
  rcases Nat.lt_or_ge p w.heap.size with h1 | h1
  · exact h1
  · have := h.l
    simp [World.cell?, Array.getElem?_eq_none h1] at this

theorem PR.of_block {w w' : World} {p : Nat} {L : ByteArray} {E : Int} (h : PR w p L E) (hb : w'.heap[p]? = w.heap[p]?) : PR w' p L E :=
  ⟨(cells_of_block hb 0).1.trans h.l, (cells_of_block hb 1).1.trans h.e, (cells_of_block hb 0).2.trans h.f0, (cells_of_block hb 1).2.trans h.f1⟩

theorem PR.new (s : ByteArray) (w : World) : PR (w.alloc (.cells #[.string s, .nilIface] 225)) w.heap.size s 0 := by
  refine ⟨?_, ?_, ?_, ?_⟩ <;> simp [trV]

end Go.Proofs.YtfcbjcebkahehaaGreatDoor
