/- The chapter's examples of Writers and a Reader. -/
import Derived.Test.YthnnmgiihpdblaaDoorYe
import Derived.Test.YthnnmgiihpdblaaDoorYd
import Derived.Test.YthnnmgiihpdblaaDoorYg
namespace Go.Proofs.YthnnmgiihpdblaaDoor
open Go.RowKit

/-- The first Writer, the Reader and the second Writer; all else stays. -/
structure Aw (w0 w : World) (p : Nat) (v : Value) (S : ByteArray) (E : Int) (r : Nat) (L : ByteArray) (q : Nat) (u : Value) (T : ByteArray) (F : Int) : Prop where
  a : PW w p v 100 (Lib.strCells S) E
  rd : PR w r L 0
  b : PW w q u 7 (Lib.strCells T) F
  np : w0.heap.size ≤ p
  nr : w0.heap.size ≤ r
  nq : w0.heap.size ≤ q
  pr : p ≠ r
  pq : p ≠ q
  rq : r ≠ q
  vr : v.ownBlock ≠ some r
  vq : v.ownBlock ≠ some q
  up : u.ownBlock ≠ some p
  ur : u.ownBlock ≠ some r
  uv : ∀ g, u.ownBlock = some g → v.ownBlock ≠ some g
  low : Below w0.heap.size w0 w

theorem Aw.first {w0 w w' : World} {p : Nat} {v : Value} {S : ByteArray} {E : Int} {r : Nat} {L : ByteArray} {q : Nat} {u : Value} {T : ByteArray} {F : Int} (h : Aw w0 w p v S E r L q u T F) {R : ByteArray × Int} {e : Ending} (hp : PWrote p v 100 R w e w') :
    e = .returned (.tuple #[]) ∧ ∃ v', Aw w0 w' p v' R.1 R.2 r L q u T F := by
  obtain ⟨he, v', h1, k⟩ := hp
  have row : ∀ x, x < w.heap.size → v.ownBlock ≠ some x → v'.ownBlock ≠ some x := fun x hx hn => by
    rcases k.row with e1 | ⟨g, hg, e1⟩
    · rw [e1]; exact hn
    · rw [e1]; intro e2; have := Option.some.inj e2; omega
  refine ⟨he, v', h1, h.rd.of_block (k.block r h.rd.lt (fun e => h.pr e.symm) (fun e => h.vr e.symm)), h.b.of_blocks (k.block q h.b.lt (fun e => h.pq e.symm) (fun e => h.vq e.symm)) (fun g hg => k.block g (h.b.own.lt g hg).2 (fun e => h.up (e ▸ hg)) (fun e => h.uv g hg e.symm)),
    h.np, h.nr, h.nq, h.pr, h.pq, h.rq, row r h.rd.lt h.vr, row q h.b.lt h.vq, h.up, h.ur, fun g hg => row g (h.b.own.lt g hg).2 (h.uv g hg), ?_⟩
  refine ⟨k.os.trans h.low.os, k.tape.trans h.low.tape, k.output.trans h.low.output, Nat.le_trans h.low.size k.size, fun b hb => (k.block b (Nat.lt_of_lt_of_le hb h.low.size) (fun e => by have := h.np; omega) (fun e => ?_)).trans (h.low.block b hb)⟩
  have := (h.a.own.lt b e.symm).1
  have := h.np
  omega

theorem Aw.second {w0 w w' : World} {p : Nat} {v : Value} {S : ByteArray} {E : Int} {r : Nat} {L : ByteArray} {q : Nat} {u : Value} {T : ByteArray} {F : Int} (h : Aw w0 w p v S E r L q u T F) {R : ByteArray × Int} {e : Ending} (hp : PWrote q u 7 R w e w') :
    e = .returned (.tuple #[]) ∧ ∃ u', Aw w0 w' p v S E r L q u' R.1 R.2 := by
  obtain ⟨he, u', h1, k⟩ := hp
  have row : ∀ x, x < w.heap.size → u.ownBlock ≠ some x → u'.ownBlock ≠ some x := fun x hx hn => by
    rcases k.row with e1 | ⟨g, hg, e1⟩
    · rw [e1]; exact hn
    · rw [e1]; intro e2; have := Option.some.inj e2; omega
  refine ⟨he, u', h.a.of_blocks (k.block p h.a.lt h.pq (fun e => h.up e.symm)) (fun g hg => k.block g (h.a.own.lt g hg).2 (fun e => h.vq (e ▸ hg)) (fun e => h.uv g e.symm hg)), h.rd.of_block (k.block r h.rd.lt h.rq (fun e => h.ur e.symm)), h1,
    h.np, h.nr, h.nq, h.pr, h.pq, h.rq, h.vr, h.vq, row p h.a.lt h.up, row r h.rd.lt h.ur, fun g hg hv => row g (h.a.own.lt g hv).2 (fun e => h.uv g e hv) hg, ?_⟩
  refine ⟨k.os.trans h.low.os, k.tape.trans h.low.tape, k.output.trans h.low.output, Nat.le_trans h.low.size k.size, fun b hb => (k.block b (Nat.lt_of_lt_of_le hb h.low.size) (fun e => by have := h.nq; omega) (fun e => ?_)).trans (h.low.block b hb)⟩
  have := (h.b.own.lt b e.symm).1
  have := h.nq
  omega

theorem Aw.below {w0 w w' : World} {p : Nat} {v : Value} {S : ByteArray} {E : Int} {r : Nat} {L : ByteArray} {q : Nat} {u : Value} {T : ByteArray} {F : Int} (h : Aw w0 w p v S E r L q u T F) (hB : Below w.heap.size w w') : Aw w0 w' p v S E r L q u T F :=
  ⟨h.a.below hB, h.rd.of_block (hB.block r h.rd.lt), h.b.below hB, h.np, h.nr, h.nq, h.pr, h.pq, h.rq, h.vr, h.vq, h.up, h.ur, h.uv, h.low.trans (hB.mono h.low.size)⟩

theorem Aw.read {w0 w w' : World} {p : Nat} {v : Value} {S : ByteArray} {E : Int} {r : Nat} {L L' : ByteArray} {q : Nat} {u : Value} {T : ByteArray} {F : Int} (h : Aw w0 w p v S E r L q u T F) (h1 : PR w' r L' 0) (k : Only r w w') : Aw w0 w' p v S E r L' q u T F :=
  ⟨h.a.only k h.pr (fun e => h.vr e.symm), h1, h.b.only k (fun e => h.rq e.symm) (fun e => h.ur e.symm), h.np, h.nr, h.nq, h.pr, h.pq, h.rq, h.vr, h.vq, h.up, h.ur, h.uv,
   ⟨k.os.trans h.low.os, k.tape.trans h.low.tape, k.output.trans h.low.output, Nat.le_trans h.low.size k.size, fun b hb => (k.block b (Nat.lt_of_lt_of_le hb h.low.size) (fun e => by have := h.nr; omega)).trans (h.low.block b hb)⟩⟩

theorem Aw.start (w : World) : Aw w (((w.alloc (.cells #[.int .i64 100, .slice none 0 0, .nilIface] 93)).alloc (.cells #[.string ⟨#[0, 0, 0, 2, 97, 98, 99, 0]⟩, .nilIface] 108)).alloc (.cells #[.int .i64 7, .slice none 0 0, .nilIface] 93))
    w.heap.size (.slice none 0 0) ⟨#[]⟩ 0 (w.heap.size + 1) ⟨#[0, 0, 0, 2, 97, 98, 99, 0]⟩ (w.heap.size + 2) (.slice none 0 0) ⟨#[]⟩ 0 := by
  obtain ⟨a1, ha1⟩ : ∃ a1, a1 = w.alloc (.cells #[.int .i64 100, .slice none 0 0, .nilIface] 93) := ⟨_, rfl⟩
  obtain ⟨a2, ha2⟩ : ∃ a2, a2 = a1.alloc (.cells #[.string ⟨#[0, 0, 0, 2, 97, 98, 99, 0]⟩, .nilIface] 108) := ⟨_, rfl⟩
  obtain ⟨a3, ha3⟩ : ∃ a3, a3 = a2.alloc (.cells #[.int .i64 7, .slice none 0 0, .nilIface] 93) := ⟨_, rfl⟩
  have s1 : a1.heap.size = w.heap.size + 1 := by rw [ha1]; simp
  have s2 : a2.heap.size = w.heap.size + 2 := by rw [ha2]; simp [s1]
  have p1 : PW a1 w.heap.size (.slice none 0 0) 100 (Lib.strCells ⟨#[]⟩) 0 := ha1 ▸ PW.new 100 w
  have p2 : PR a2 (w.heap.size + 1) ⟨#[0, 0, 0, 2, 97, 98, 99, 0]⟩ 0 := by rw [← s1, ha2]; exact PR.new _ a1
  have p3 : PW a3 (w.heap.size + 2) (.slice none 0 0) 7 (Lib.strCells ⟨#[]⟩) 0 := by rw [← s2, ha3]; exact PW.new 7 a2
  have b1 : Below w.heap.size w a1 := ha1 ▸ (Below.refl _ _).alloc (Nat.le_refl _) _
  have b2 : Below a1.heap.size a1 a2 := ha2 ▸ (Below.refl _ _).alloc (Nat.le_refl _) _
  have b3 : Below a2.heap.size a2 a3 := ha3 ▸ (Below.refl _ _).alloc (Nat.le_refl _) _
  rw [← ha1, ← ha2, ← ha3]
  refine ⟨(p1.below b2).below b3, p2.of_block (b3.block _ (by omega)), p3, by omega, by omega, by omega, by omega, by omega, by omega, by simp [Value.ownBlock], by simp [Value.ownBlock], by simp [Value.ownBlock], by simp [Value.ownBlock], by simp [Value.ownBlock], ?_⟩
  exact (b1.trans (b2.mono (by omega))).trans (b3.mono (by omega))

end Go.Proofs.YthnnmgiihpdblaaDoor
