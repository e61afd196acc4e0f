/- The law's own functions: a reply made fit. -/
import Derived.Test.YtfkggcinpklgmaaGreatDoorPe
namespace Go.Proofs.YtfkggcinpklgmaaGreatDoor
open Go.RowKit
structure Reply64 (r : ReplyP) : Prop where
  xid : In64 r.xid
  vf : In64 r.verf.flavor
  ac : In64 r.accept
  rj : In64 r.reject
  wh : In64 r.why
  lo : In64 r.low
  hi : In64 r.high
  vb : r.verf.body.length ≤ 140737488355328
  rs : r.results.length ≤ 140737488355328
def tolP (r : ReplyP) : ReplyP :=
  if r.denied then
    if pickP r.reject 2 = 1 then ⟨pickP r.xid 4294967296, true, nulA, 0, 0, 0, [], 1, pickP r.why 15⟩
    else ⟨pickP r.xid 4294967296, true, nulA, 0, pickP r.low 4294967296, pickP r.high 4294967296, [], 0, 0⟩
  else
    if pickP r.accept 6 = 0 then ⟨pickP r.xid 4294967296, false, autP r.verf, 0, 0, 0, fourP r.results, 0, 0⟩
    else if pickP r.accept 6 = 2 then ⟨pickP r.xid 4294967296, false, autP r.verf, 2, pickP r.low 4294967296, pickP r.high 4294967296, [], 0, 0⟩
    else ⟨pickP r.xid 4294967296, false, autP r.verf, pickP r.accept 6, 0, 0, [], 0, 0⟩
theorem tol_may (r : ReplyP) : (tolP r).may := by
  have h2 := pick_range r.reject 2 (by decide)
  have h6 := pick_range r.accept 6 (by decide)
  have h15 := pick_range r.why 15 (by decide)
  unfold tolP
  split
  · split
    · exact ⟨pick_word _, rfl, rfl, rfl, .inr ⟨rfl, rfl, rfl, h15.1, by simp only; omega⟩⟩
    · exact ⟨pick_word _, rfl, rfl, rfl, .inl ⟨rfl, pick_word _, pick_word _, rfl⟩⟩
  · split
    · exact ⟨pick_word _, aut_may _, rfl, rfl, by simp, by simp, .inl ⟨rfl, four_plain _, rfl, rfl⟩⟩
    · split
      · exact ⟨pick_word _, aut_may _, rfl, rfl, by simp, by simp, .inr (.inl ⟨rfl, pick_word _, pick_word _, rfl⟩)⟩
      · rename_i e0 e2
        exact ⟨pick_word _, aut_may _, rfl, rfl, h6.1, by simp only; omega, .inr (.inr ⟨e0, e2, rfl, rfl, rfl⟩)⟩
/-- three blocks: the argument, the result, the reply that is made -/
def Tri (w0 w : World) (n : Nat) (a x : List Value) : Prop :=
  Bk w n a 27 ∧ Bk w (n + 1) [.int .i64 0, .bool false, .int .i64 0, .string ⟨#[]⟩, .int .i64 0, .int .i64 0, .int .i64 0, .int .i64 0, .int .i64 0, .string ⟨#[]⟩] 27 ∧ Bk w (n + 1 + 1) x 27 ∧ Below n w0 w
theorem Tri.below {w0 w w' : World} {n : Nat} {a x : List Value} (h : Tri w0 w n a x) (hB : Below w.heap.size w w') : Tri w0 w' n a x :=
  ⟨h.1.below hB h.1.lt, h.2.1.below hB h.2.1.lt, h.2.2.1.below hB h.2.2.1.lt, h.2.2.2.trans (hB.mono (by have := h.1.lt; omega))⟩
theorem Tri.set {w0 w : World} {n : Nat} {a x : List Value} (h : Tri w0 w n a x) (i : Nat) (v : Value) : Tri w0 (w.setCell ⟨n + 1 + 1, i, none⟩ v) n a (x.set i v) :=
  ⟨h.1.set_ne (by omega) i v, h.2.1.set_ne (by omega) i v, h.2.2.1.set i v, h.2.2.2.setCell (by show n ≤ n + 1 + 1; omega) v⟩
end Go.Proofs.YtfkggcinpklgmaaGreatDoor
