/- One call of both Writers, of any kind; two pairs of Writers behind some calls. XdrWrites: two Writers of any room, every row of calls. The chapter's examples of Writers and a Reader. awake: the chapter's examples, true. -/
import Derived.Test.YtlkhgnjljdbhnabGreatDoorYq1
namespace Go.Proofs.YtlkhgnjljdbhnabGreatDoor
open Go.RowKit
/-- Two pairs of Writers, behind calls that lay down at most c bytes. -/
def Inv (n0 : Nat) (w : World) (p q p2 q2 : Nat) (M M2 : Int) (c : Nat) (wr : World) : Prop :=
  ∃ v S E v2 S2 E2, Two n0 wr p q v M S E p2 q2 v2 M2 S2 E2 ∧ S.size ≤ c ∧ S2.size ≤ c ∧ Below n0 w wr

theorem Inv.size {n0 : Nat} {w : World} {p q p2 q2 : Nat} {M M2 : Int} {c : Nat} {wr : World} (h : Inv n0 w p q p2 q2 M M2 c wr) : w.heap.size ≤ wr.heap.size := by
  obtain ⟨v, S, E, v2, S2, E2, hT, h1, h2, hB⟩ := h
  exact hB.size
theorem Inv.more {n0 : Nat} {w : World} {p q p2 q2 : Nat} {M M2 : Int} {c d : Nat} {wr : World} (h : Inv n0 w p q p2 q2 M M2 c wr) (hd : c = d) : Inv n0 w p q p2 q2 M M2 d wr := hd ▸ h

end Go.Proofs.YtlkhgnjljdbhnabGreatDoor
namespace Go.Proofs.YtlkhgnjljdbhnabGreatDoor
open Go.RowKit
/-- A script in memory. -/
structure Ops (w : World) (b off len : Nat) (K N MM : Nat → Int) (O : Nat → Bool) (T : Nat → ByteArray) (A B : Nat → Nat) : Prop where
  c0 : ∀ i, i < len → w.cell? ⟨b, off + i * 7, none⟩ = some (.int .i64 (K i))
  c1 : ∀ i, i < len → w.cell? ⟨b, off + i * 7 + 1, none⟩ = some (.int .i64 (N i))
  c2 : ∀ i, i < len → w.cell? ⟨b, off + i * 7 + 2, none⟩ = some (.int .i64 (MM i))
  c3 : ∀ i, i < len → w.cell? ⟨b, off + i * 7 + 3, none⟩ = some (.bool (O i))
  c4 : ∀ i, i < len → w.cell? ⟨b, off + i * 7 + 4, none⟩ = some (.string (T i))
  c5 : ∀ i, i < len → w.cell? ⟨b, off + i * 7 + 5, none⟩ = some (.int .u32 (A i))
  c6 : ∀ i, i < len → w.cell? ⟨b, off + i * 7 + 6, none⟩ = some (.int .u64 (B i))
  n : ∀ i, i < len → -9223372036854775808 ≤ N i ∧ N i ≤ 9223372036854775807
  m : ∀ i, i < len → -9223372036854775808 ≤ MM i ∧ MM i ≤ 9223372036854775807
  a : ∀ i, i < len → A i < 4294967296
  b : ∀ i, i < len → B i < 18446744073709551616

theorem Ops.below {w w' : World} {b off len : Nat} {K N MM : Nat → Int} {O : Nat → Bool} {T : Nat → ByteArray} {A B : Nat → Nat} (h : Ops w b off len K N MM O T A B) (hb : w'.heap[b]? = w.heap[b]?) : Ops w' b off len K N MM O T A B :=
  ⟨fun i hi => (cells_of_block hb _).1.trans (h.c0 i hi), fun i hi => (cells_of_block hb _).1.trans (h.c1 i hi), fun i hi => (cells_of_block hb _).1.trans (h.c2 i hi), fun i hi => (cells_of_block hb _).1.trans (h.c3 i hi),
   fun i hi => (cells_of_block hb _).1.trans (h.c4 i hi), fun i hi => (cells_of_block hb _).1.trans (h.c5 i hi), fun i hi => (cells_of_block hb _).1.trans (h.c6 i hi), h.n, h.m, h.a, h.b⟩

theorem Ops.lt {w : World} {b off len : Nat} {K N MM : Nat → Int} {O : Nat → Bool} {T : Nat → ByteArray} {A B : Nat → Nat} (h : Ops w b off len K N MM O T A B) (hl : 0 < len) : b < w.heap.size := by
  rcases Nat.lt_or_ge b w.heap.size with h1 | h1
  · exact h1
  · have := h.c0 0 hl
    simp [World.cell?, Array.getElem?_eq_none h1] at this

end Go.Proofs.YtlkhgnjljdbhnabGreatDoor
namespace Go.Proofs.YtlkhgnjljdbhnabGreatDoor
open Go.RowKit
/-- The first Writer, the Reader and the second Writer; all else stays. -/
structure Aw (w0 w : World) (p : Nat) (v : Value) (S : ByteArray) (E : Int) (r : Nat) (L : ByteArray) (q : Nat) (u : Value) (T : ByteArray) (F : Int) : Prop where
  a : PW w p v 100 (Lib.strCells S) E
  rd : PR w r L 0
  b : PW w q u 7 (Lib.strCells T) F
  np : w0.heap.size ≤ p
  nr : w0.heap.size ≤ r
  nq : w0.heap.size ≤ q
  pr : p ≠ r
  pq : p ≠ q
  rq : r ≠ q
  vr : v.ownBlock ≠ some r
  vq : v.ownBlock ≠ some q
  up : u.ownBlock ≠ some p
  ur : u.ownBlock ≠ some r
  uv : ∀ g, u.ownBlock = some g → v.ownBlock ≠ some g
  low : Below w0.heap.size w0 w

theorem Aw.first {w0 w w' : World} {p : Nat} {v : Value} {S : ByteArray} {E : Int} {r : Nat} {L : ByteArray} {q : Nat} {u : Value} {T : ByteArray} {F : Int} (h : Aw w0 w p v S E r L q u T F) {R : ByteArray × Int} {e : Ending} (hp : PWrote p v 100 R w e w') :
    e = .returned (.tuple #[]) ∧ ∃ v', Aw w0 w' p v' R.1 R.2 r L q u T F := by
  obtain ⟨he, v', h1, k⟩ := hp
  have row : ∀ x, x < w.heap.size → v.ownBlock ≠ some x → v'.ownBlock ≠ some x := fun x hx hn => by
    rcases k.row with e1 | ⟨g, hg, e1⟩
    · rw [e1]; exact hn
    · rw [e1]; intro e2; have := Option.some.inj e2; omega
  refine ⟨he, v', h1, h.rd.of_block (k.block r h.rd.lt (fun e => h.pr e.symm) (fun e => h.vr e.symm)), h.b.of_blocks (k.block q h.b.lt (fun e => h.pq e.symm) (fun e => h.vq e.symm)) (fun g hg => k.block g (h.b.own.lt g hg).2 (fun e => h.up (e ▸ hg)) (fun e => h.uv g hg e.symm)),
    h.np, h.nr, h.nq, h.pr, h.pq, h.rq, row r h.rd.lt h.vr, row q h.b.lt h.vq, h.up, h.ur, fun g hg => row g (h.b.own.lt g hg).2 (h.uv g hg), ?_⟩
  refine ⟨k.os.trans h.low.os, k.tape.trans h.low.tape, k.output.trans h.low.output, Nat.le_trans h.low.size k.size, fun b hb => (k.block b (Nat.lt_of_lt_of_le hb h.low.size) (fun e => by have := h.np; omega) (fun e => ?_)).trans (h.low.block b hb)⟩
  have := (h.a.own.lt b e.symm).1
  have := h.np
  omega

theorem Aw.second {w0 w w' : World} {p : Nat} {v : Value} {S : ByteArray} {E : Int} {r : Nat} {L : ByteArray} {q : Nat} {u : Value} {T : ByteArray} {F : Int} (h : Aw w0 w p v S E r L q u T F) {R : ByteArray × Int} {e : Ending} (hp : PWrote q u 7 R w e w') :
    e = .returned (.tuple #[]) ∧ ∃ u', Aw w0 w' p v S E r L q u' R.1 R.2 := by
  obtain ⟨he, u', h1, k⟩ := hp
  have row : ∀ x, x < w.heap.size → u.ownBlock ≠ some x → u'.ownBlock ≠ some x := fun x hx hn => by
    rcases k.row with e1 | ⟨g, hg, e1⟩
    · rw [e1]; exact hn
    · rw [e1]; intro e2; have := Option.some.inj e2; omega
  refine ⟨he, u', h.a.of_blocks (k.block p h.a.lt h.pq (fun e => h.up e.symm)) (fun g hg => k.block g (h.a.own.lt g hg).2 (fun e => h.vq (e ▸ hg)) (fun e => h.uv g e.symm hg)), h.rd.of_block (k.block r h.rd.lt h.rq (fun e => h.ur e.symm)), h1,
    h.np, h.nr, h.nq, h.pr, h.pq, h.rq, h.vr, h.vq, row p h.a.lt h.up, row r h.rd.lt h.ur, fun g hg hv => row g (h.a.own.lt g hv).2 (fun e => h.uv g e hv) hg, ?_⟩
  refine ⟨k.os.trans h.low.os, k.tape.trans h.low.tape, k.output.trans h.low.output, Nat.le_trans h.low.size k.size, fun b hb => (k.block b (Nat.lt_of_lt_of_le hb h.low.size) (fun e => by have := h.nq; omega) (fun e => ?_)).trans (h.low.block b hb)⟩
  have := (h.b.own.lt b e.symm).1
  have := h.nq
  omega

theorem Aw.below {w0 w w' : World} {p : Nat} {v : Value} {S : ByteArray} {E : Int} {r : Nat} {L : ByteArray} {q : Nat} {u : Value} {T : ByteArray} {F : Int} (h : Aw w0 w p v S E r L q u T F) (hB : Below w.heap.size w w') : Aw w0 w' p v S E r L q u T F :=
  ⟨h.a.below hB, h.rd.of_block (hB.block r h.rd.lt), h.b.below hB, h.np, h.nr, h.nq, h.pr, h.pq, h.rq, h.vr, h.vq, h.up, h.ur, h.uv, h.low.trans (hB.mono h.low.size)⟩

theorem Aw.read {w0 w w' : World} {p : Nat} {v : Value} {S : ByteArray} {E : Int} {r : Nat} {L L' : ByteArray} {q : Nat} {u : Value} {T : ByteArray} {F : Int} (h : Aw w0 w p v S E r L q u T F) (h1 : PR w' r L' 0) (k : Only r w w') : Aw w0 w' p v S E r L' q u T F :=
  ⟨h.a.only k h.pr (fun e => h.vr e.symm), h1, h.b.only k (fun e => h.rq e.symm) (fun e => h.ur e.symm), h.np, h.nr, h.nq, h.pr, h.pq, h.rq, h.vr, h.vq, h.up, h.ur, h.uv,
   ⟨k.os.trans h.low.os, k.tape.trans h.low.tape, k.output.trans h.low.output, Nat.le_trans h.low.size k.size, fun b hb => (k.block b (Nat.lt_of_lt_of_le hb h.low.size) (fun e => by have := h.nr; omega)).trans (h.low.block b hb)⟩⟩

theorem Aw.start (w : World) : Aw w (((w.alloc (.cells #[.int .i64 100, .slice none 0 0, .nilIface] 65)).alloc (.cells #[.string ⟨#[0, 0, 0, 2, 97, 98, 99, 0]⟩, .nilIface] 52)).alloc (.cells #[.int .i64 7, .slice none 0 0, .nilIface] 65))
    w.heap.size (.slice none 0 0) ⟨#[]⟩ 0 (w.heap.size + 1) ⟨#[0, 0, 0, 2, 97, 98, 99, 0]⟩ (w.heap.size + 2) (.slice none 0 0) ⟨#[]⟩ 0 := by
  obtain ⟨a1, ha1⟩ : ∃ a1, a1 = w.alloc (.cells #[.int .i64 100, .slice none 0 0, .nilIface] 65) := ⟨_, rfl⟩
  obtain ⟨a2, ha2⟩ : ∃ a2, a2 = a1.alloc (.cells #[.string ⟨#[0, 0, 0, 2, 97, 98, 99, 0]⟩, .nilIface] 52) := ⟨_, rfl⟩
  obtain ⟨a3, ha3⟩ : ∃ a3, a3 = a2.alloc (.cells #[.int .i64 7, .slice none 0 0, .nilIface] 65) := ⟨_, rfl⟩
  have s1 : a1.heap.size = w.heap.size + 1 := by rw [ha1]; simp
  have s2 : a2.heap.size = w.heap.size + 2 := by rw [ha2]; simp [s1]
  have p1 : PW a1 w.heap.size (.slice none 0 0) 100 (Lib.strCells ⟨#[]⟩) 0 := ha1 ▸ PW.new 100 w
  have p2 : PR a2 (w.heap.size + 1) ⟨#[0, 0, 0, 2, 97, 98, 99, 0]⟩ 0 := by rw [← s1, ha2]; exact PR.new _ a1
  have p3 : PW a3 (w.heap.size + 2) (.slice none 0 0) 7 (Lib.strCells ⟨#[]⟩) 0 := by rw [← s2, ha3]; exact PW.new 7 a2
  have b1 : Below w.heap.size w a1 := ha1 ▸ (Below.refl _ _).alloc (Nat.le_refl _) _
  have b2 : Below a1.heap.size a1 a2 := ha2 ▸ (Below.refl _ _).alloc (Nat.le_refl _) _
  have b3 : Below a2.heap.size a2 a3 := ha3 ▸ (Below.refl _ _).alloc (Nat.le_refl _) _
  rw [← ha1, ← ha2, ← ha3]
  refine ⟨(p1.below b2).below b3, p2.of_block (b3.block _ (by omega)), p3, by omega, by omega, by omega, by omega, by omega, by omega, by simp [Value.ownBlock], by simp [Value.ownBlock], by simp [Value.ownBlock], by simp [Value.ownBlock], by simp [Value.ownBlock], ?_⟩
  exact (b1.trans (b2.mono (by omega))).trans (b3.mono (by omega))


end Go.Proofs.YtlkhgnjljdbhnabGreatDoor
namespace Go.Proofs.YtlkhgnjljdbhnabGreatDoor
open Go.RowKit
theorem ex1 : rlay 100 ⟨#[]⟩ 0 ⟨(byL 4 (-1)).toArray⟩ = (⟨#[255, 255, 255, 255]⟩, 0) := by kernel_rfl
theorem ex2 : rlay 100 ⟨#[255, 255, 255, 255]⟩ 0 (⟨#[104, 105]⟩ ++ ⟨(padL (⟨#[104, 105]⟩ : ByteArray).size).toArray⟩) = (⟨#[255, 255, 255, 255, 104, 105, 0, 0]⟩, 0) := by kernel_rfl
theorem ex3 : rlay 100 ⟨#[255, 255, 255, 255, 104, 105, 0, 0]⟩ 0 (⟨(byL 4 ((⟨#[97, 98, 99, 100, 101]⟩ : ByteArray).size : Int)).toArray⟩ ++ ⟨#[97, 98, 99, 100, 101]⟩ ++ ⟨(padL (⟨#[97, 98, 99, 100, 101]⟩ : ByteArray).size).toArray⟩) = (⟨#[255, 255, 255, 255, 104, 105, 0, 0, 0, 0, 0, 5, 97, 98, 99, 100, 101, 0, 0, 0]⟩, 0) := by kernel_rfl
theorem ex4 : rlay 100 ⟨#[255, 255, 255, 255, 104, 105, 0, 0, 0, 0, 0, 5, 97, 98, 99, 100, 101, 0, 0, 0]⟩ 0 ⟨(beL 4 (c32 1065353216)).toArray⟩ = (⟨#[255, 255, 255, 255, 104, 105, 0, 0, 0, 0, 0, 5, 97, 98, 99, 100, 101, 0, 0, 0, 63, 128, 0, 0]⟩, 0) := by kernel_rfl
theorem ex5 : rlay 7 ⟨#[]⟩ 0 ⟨(byL 4 1).toArray⟩ = (⟨#[0, 0, 0, 1]⟩, 0) := by kernel_rfl
theorem ex6 : rlay 7 ⟨#[0, 0, 0, 1]⟩ 0 ⟨(byL 4 2).toArray⟩ = (⟨#[0, 0, 0, 1]⟩, 23) := by kernel_rfl

set_option maxRecDepth 4000 in
set_option maxHeartbeats 8000000 in
theorem xawake_any (W : World) (hE : ErrT W) : Calls Tryz.prog 5 #[] W fun e w' => e = .returned (.bool true) ∧ Below W.heap.size W w' := by
  have HP1 : Hid (∀ w, Calls Tryz.prog 15 #[.int .i64 100] w fun e w' => e = .returned (.pointer (some ⟨w.heap.size, 0, none⟩)) ∧ w' = w.alloc (.cells #[.int .i64 100, .slice none 0 0, .nilIface] 65)) := fun w => pnew 100 w
  have HP2 : Hid (∀ w, Calls Tryz.prog 15 #[.int .i64 7] w fun e w' => e = .returned (.pointer (some ⟨w.heap.size, 0, none⟩)) ∧ w' = w.alloc (.cells #[.int .i64 7, .slice none 0 0, .nilIface] 65)) := fun w => pnew 7 w
  have HP3 : Hid (∀ w, Calls Tryz.prog 6 #[.string ⟨#[0, 0, 0, 2, 97, 98, 99, 0]⟩] w fun e w' => e = .returned (.pointer (some ⟨w.heap.size, 0, none⟩)) ∧ w' = w.alloc (.cells #[.string ⟨#[0, 0, 0, 2, 97, 98, 99, 0]⟩, .nilIface] 52)) := fun w => rdnew _ w
  have HA0 : Hid (Aw W (((W.alloc (.cells #[.int .i64 100, .slice none 0 0, .nilIface] 65)).alloc (.cells #[.string ⟨#[0, 0, 0, 2, 97, 98, 99, 0]⟩, .nilIface] 52)).alloc (.cells #[.int .i64 7, .slice none 0 0, .nilIface] 65)) W.heap.size (.slice none 0 0) ⟨#[]⟩ 0 (W.heap.size + 1) ⟨#[0, 0, 0, 2, 97, 98, 99, 0]⟩ (W.heap.size + 2) (.slice none 0 0) ⟨#[]⟩ 0) := Aw.start W
  have S1 : Hid (∀ v w1, Aw W w1 W.heap.size v ⟨#[]⟩ 0 (W.heap.size + 1) ⟨#[0, 0, 0, 2, 97, 98, 99, 0]⟩ (W.heap.size + 2) (.slice none 0 0) ⟨#[]⟩ 0 → Calls Tryz.prog 16 #[.pointer (some ⟨W.heap.size, 0, none⟩), .int .i64 (-1)] w1 fun e w' => e = .returned (.tuple #[]) ∧ ∃ v', Aw W w' W.heap.size v' ⟨#[255, 255, 255, 255]⟩ 0 (W.heap.size + 1) ⟨#[0, 0, 0, 2, 97, 98, 99, 0]⟩ (W.heap.size + 2) (.slice none 0 0) ⟨#[]⟩ 0) := fun v w1 h => by
    have r := pint_ok _ _ (-1) 100 0 _ w1 h.a (by decide) (by decide) (by decide) (by decide)
    rw [ex1] at r
    exact r.mono fun e w' hp => h.first hp
  have S2 : Hid (∀ v w1, Aw W w1 W.heap.size v ⟨#[255, 255, 255, 255]⟩ 0 (W.heap.size + 1) ⟨#[0, 0, 0, 2, 97, 98, 99, 0]⟩ (W.heap.size + 2) (.slice none 0 0) ⟨#[]⟩ 0 → Calls Tryz.prog 17 #[.pointer (some ⟨W.heap.size, 0, none⟩), .int .i64 2, .string ⟨#[104, 105]⟩] w1 fun e w' => e = .returned (.tuple #[]) ∧ ∃ v', Aw W w' W.heap.size v' ⟨#[255, 255, 255, 255, 104, 105, 0, 0]⟩ 0 (W.heap.size + 1) ⟨#[0, 0, 0, 2, 97, 98, 99, 0]⟩ (W.heap.size + 2) (.slice none 0 0) ⟨#[]⟩ 0) := fun v w1 h => by
    have r := pfixed_ok _ _ 2 100 0 _ ⟨#[104, 105]⟩ w1 h.a (by decide) (by decide) (by decide) (by decide) rfl
    rw [ex2] at r
    exact r.mono fun e w' hp => h.first hp
  have S3 : Hid (∀ v w1, Aw W w1 W.heap.size v ⟨#[255, 255, 255, 255, 104, 105, 0, 0]⟩ 0 (W.heap.size + 1) ⟨#[0, 0, 0, 2, 97, 98, 99, 0]⟩ (W.heap.size + 2) (.slice none 0 0) ⟨#[]⟩ 0 → Calls Tryz.prog 18 #[.pointer (some ⟨W.heap.size, 0, none⟩), .int .i64 9, .string ⟨#[97, 98, 99, 100, 101]⟩] w1 fun e w' => e = .returned (.tuple #[]) ∧ ∃ v', Aw W w' W.heap.size v' ⟨#[255, 255, 255, 255, 104, 105, 0, 0, 0, 0, 0, 5, 97, 98, 99, 100, 101, 0, 0, 0]⟩ 0 (W.heap.size + 1) ⟨#[0, 0, 0, 2, 97, 98, 99, 0]⟩ (W.heap.size + 2) (.slice none 0 0) ⟨#[]⟩ 0) := fun v w1 h => by
    have r := popaque_ok _ _ 9 100 0 _ ⟨#[97, 98, 99, 100, 101]⟩ w1 h.a (by decide) (by decide) (by decide) (by decide) (by decide)
    rw [ex3] at r
    exact r.mono fun e w' hp => h.first hp
  have S4 : Hid (∀ v w1, Aw W w1 W.heap.size v ⟨#[255, 255, 255, 255, 104, 105, 0, 0, 0, 0, 0, 5, 97, 98, 99, 100, 101, 0, 0, 0]⟩ 0 (W.heap.size + 1) ⟨#[0, 0, 0, 2, 97, 98, 99, 0]⟩ (W.heap.size + 2) (.slice none 0 0) ⟨#[]⟩ 0 → Calls Tryz.prog 19 #[.pointer (some ⟨W.heap.size, 0, none⟩), .float .f32 1065353216] w1 fun e w' => e = .returned (.tuple #[]) ∧ ∃ v', Aw W w' W.heap.size v' ⟨#[255, 255, 255, 255, 104, 105, 0, 0, 0, 0, 0, 5, 97, 98, 99, 100, 101, 0, 0, 0, 63, 128, 0, 0]⟩ 0 (W.heap.size + 1) ⟨#[0, 0, 0, 2, 97, 98, 99, 0]⟩ (W.heap.size + 2) (.slice none 0 0) ⟨#[]⟩ 0) := fun v w1 h => by
    have r := pfloat _ 1065353216 _ 100 0 _ w1 h.a (by decide) (by decide) (by decide) (by decide) (by decide)
    rw [ex4] at r
    exact r.mono fun e w' hp => h.first hp
  have S5 : Hid (∀ v w1, Aw W w1 W.heap.size v ⟨#[255, 255, 255, 255, 104, 105, 0, 0, 0, 0, 0, 5, 97, 98, 99, 100, 101, 0, 0, 0, 63, 128, 0, 0]⟩ 0 (W.heap.size + 1) ⟨#[0, 0, 0, 2, 97, 98, 99, 0]⟩ (W.heap.size + 2) (.slice none 0 0) ⟨#[]⟩ 0 → Calls Tryz.prog 20 #[.pointer (some ⟨W.heap.size, 0, none⟩)] w1 fun e w' => e = .returned (.tuple #[.string ⟨#[255, 255, 255, 255, 104, 105, 0, 0, 0, 0, 0, 5, 97, 98, 99, 100, 101, 0, 0, 0, 63, 128, 0, 0]⟩, .int .i64 0]) ∧ Aw W w' W.heap.size v ⟨#[255, 255, 255, 255, 104, 105, 0, 0, 0, 0, 0, 5, 97, 98, 99, 100, 101, 0, 0, 0, 63, 128, 0, 0]⟩ 0 (W.heap.size + 1) ⟨#[0, 0, 0, 2, 97, 98, 99, 0]⟩ (W.heap.size + 2) (.slice none 0 0) ⟨#[]⟩ 0) := fun v w1 h =>
    (pdone_any _ v 100 0 _ w1 h.a ((cells_of_block (h.low.block 0 hE.size) 0).1.trans hE)).mono fun e w' hp => ⟨hp.1, h.below hp.2⟩
  have S6 : Hid (∀ v w1, Aw W w1 W.heap.size v ⟨#[255, 255, 255, 255, 104, 105, 0, 0, 0, 0, 0, 5, 97, 98, 99, 100, 101, 0, 0, 0, 63, 128, 0, 0]⟩ 0 (W.heap.size + 1) ⟨#[0, 0, 0, 2, 97, 98, 99, 0]⟩ (W.heap.size + 2) (.slice none 0 0) ⟨#[]⟩ 0 → Calls Tryz.prog 21 #[.pointer (some ⟨(W.heap.size + 1), 0, none⟩)] w1 fun e w' => e = .returned (.int .i64 2) ∧ Aw W w' W.heap.size v ⟨#[255, 255, 255, 255, 104, 105, 0, 0, 0, 0, 0, 5, 97, 98, 99, 100, 101, 0, 0, 0, 63, 128, 0, 0]⟩ 0 (W.heap.size + 1) ⟨#[97, 98, 99, 0]⟩ (W.heap.size + 2) (.slice none 0 0) ⟨#[]⟩ 0) := fun v w1 h =>
    (rduint_ex _ w1 h.rd).mono fun e w' hp => ⟨hp.1, h.read hp.2.1 hp.2.2⟩
  have S7 : Hid (∀ v w1, Aw W w1 W.heap.size v ⟨#[255, 255, 255, 255, 104, 105, 0, 0, 0, 0, 0, 5, 97, 98, 99, 100, 101, 0, 0, 0, 63, 128, 0, 0]⟩ 0 (W.heap.size + 1) ⟨#[97, 98, 99, 0]⟩ (W.heap.size + 2) (.slice none 0 0) ⟨#[]⟩ 0 → Calls Tryz.prog 22 #[.pointer (some ⟨(W.heap.size + 1), 0, none⟩), .int .i64 3] w1 fun e w' => e = .returned (.string ⟨#[97, 98, 99]⟩) ∧ Aw W w' W.heap.size v ⟨#[255, 255, 255, 255, 104, 105, 0, 0, 0, 0, 0, 5, 97, 98, 99, 100, 101, 0, 0, 0, 63, 128, 0, 0]⟩ 0 (W.heap.size + 1) ⟨#[]⟩ (W.heap.size + 2) (.slice none 0 0) ⟨#[]⟩ 0) := fun v w1 h =>
    (rdfixed_ex _ w1 h.rd).mono fun e w' hp => ⟨hp.1, h.read hp.2.1 hp.2.2⟩
  have S8 : Hid (∀ v w1, Aw W w1 W.heap.size v ⟨#[255, 255, 255, 255, 104, 105, 0, 0, 0, 0, 0, 5, 97, 98, 99, 100, 101, 0, 0, 0, 63, 128, 0, 0]⟩ 0 (W.heap.size + 1) ⟨#[]⟩ (W.heap.size + 2) (.slice none 0 0) ⟨#[]⟩ 0 → Calls Tryz.prog 13 #[.pointer (some ⟨(W.heap.size + 1), 0, none⟩)] w1 fun e w' => e = .returned (.int .i64 0) ∧ Aw W w' W.heap.size v ⟨#[255, 255, 255, 255, 104, 105, 0, 0, 0, 0, 0, 5, 97, 98, 99, 100, 101, 0, 0, 0, 63, 128, 0, 0]⟩ 0 (W.heap.size + 1) ⟨#[]⟩ (W.heap.size + 2) (.slice none 0 0) ⟨#[]⟩ 0) := fun v w1 h =>
    (rddone_ex _ w1 h.rd).mono fun e w' hp => ⟨hp.1, h.below hp.2⟩
  have S9 : Hid (∀ v w1, Aw W w1 W.heap.size v ⟨#[255, 255, 255, 255, 104, 105, 0, 0, 0, 0, 0, 5, 97, 98, 99, 100, 101, 0, 0, 0, 63, 128, 0, 0]⟩ 0 (W.heap.size + 1) ⟨#[]⟩ (W.heap.size + 2) (.slice none 0 0) ⟨#[]⟩ 0 → Calls Tryz.prog 16 #[.pointer (some ⟨(W.heap.size + 2), 0, none⟩), .int .i64 1] w1 fun e w' => e = .returned (.tuple #[]) ∧ ∃ u', Aw W w' W.heap.size v ⟨#[255, 255, 255, 255, 104, 105, 0, 0, 0, 0, 0, 5, 97, 98, 99, 100, 101, 0, 0, 0, 63, 128, 0, 0]⟩ 0 (W.heap.size + 1) ⟨#[]⟩ (W.heap.size + 2) u' ⟨#[0, 0, 0, 1]⟩ 0) := fun v w1 h => by
    have r := pint_ok _ _ 1 7 0 _ w1 h.b (by decide) (by decide) (by decide) (by decide)
    rw [ex5] at r
    exact r.mono fun e w' hp => h.second hp
  have S10 : Hid (∀ v u w1, Aw W w1 W.heap.size v ⟨#[255, 255, 255, 255, 104, 105, 0, 0, 0, 0, 0, 5, 97, 98, 99, 100, 101, 0, 0, 0, 63, 128, 0, 0]⟩ 0 (W.heap.size + 1) ⟨#[]⟩ (W.heap.size + 2) u ⟨#[0, 0, 0, 1]⟩ 0 → Calls Tryz.prog 16 #[.pointer (some ⟨(W.heap.size + 2), 0, none⟩), .int .i64 2] w1 fun e w' => e = .returned (.tuple #[]) ∧ ∃ u', Aw W w' W.heap.size v ⟨#[255, 255, 255, 255, 104, 105, 0, 0, 0, 0, 0, 5, 97, 98, 99, 100, 101, 0, 0, 0, 63, 128, 0, 0]⟩ 0 (W.heap.size + 1) ⟨#[]⟩ (W.heap.size + 2) u' ⟨#[0, 0, 0, 1]⟩ 23) := fun v u w1 h => by
    have r := pint_ok _ _ 2 7 0 _ w1 h.b (by decide) (by decide) (by decide) (by decide)
    rw [ex6] at r
    exact r.mono fun e w' hp => h.second hp
  have S11 : Hid (∀ v u w1, Aw W w1 W.heap.size v ⟨#[255, 255, 255, 255, 104, 105, 0, 0, 0, 0, 0, 5, 97, 98, 99, 100, 101, 0, 0, 0, 63, 128, 0, 0]⟩ 0 (W.heap.size + 1) ⟨#[]⟩ (W.heap.size + 2) u ⟨#[0, 0, 0, 1]⟩ 23 → Calls Tryz.prog 20 #[.pointer (some ⟨(W.heap.size + 2), 0, none⟩)] w1 fun e w' => e = .returned (.tuple #[.string ⟨#[]⟩, .int .i64 23]) ∧ Aw W w' W.heap.size v ⟨#[255, 255, 255, 255, 104, 105, 0, 0, 0, 0, 0, 5, 97, 98, 99, 100, 101, 0, 0, 0, 63, 128, 0, 0]⟩ 0 (W.heap.size + 1) ⟨#[]⟩ (W.heap.size + 2) u ⟨#[0, 0, 0, 1]⟩ 23) := fun v u w1 h =>
    (pdone_any _ u 7 23 _ w1 h.b ((cells_of_block (h.low.block 0 hE.size) 0).1.trans hE)).mono fun e w' hp => ⟨hp.1, h.below hp.2⟩
  have S12 : Hid (∀ v u w1, Aw W w1 W.heap.size v ⟨#[255, 255, 255, 255, 104, 105, 0, 0, 0, 0, 0, 5, 97, 98, 99, 100, 101, 0, 0, 0, 63, 128, 0, 0]⟩ 0 (W.heap.size + 1) ⟨#[]⟩ (W.heap.size + 2) u ⟨#[0, 0, 0, 1]⟩ 23 → Calls Tryz.prog 23 #[.pointer (some ⟨(W.heap.size + 2), 0, none⟩)] w1 fun e w' => e = .returned (.int .i64 4) ∧ w' = w1) := fun v u w1 h => plen _ u 7 23 ⟨#[0, 0, 0, 1]⟩ w1 h.b
  clear hE
  go_enter Tryz.func5, Tryz.ntmps5
  go_wp2_with fail
  refine (HP1.out _).mono ?_
  rintro e w2 ⟨rfl, rfl⟩
  go_wp2_with fail
  refine (HP3.out _).mono ?_
  rintro e w2 ⟨rfl, rfl⟩
  go_wp2_with fail
  refine (HP2.out _).mono ?_
  rintro e w2 ⟨rfl, rfl⟩
  go_wp2_with fail
  refine (S1.out _ _ HA0.out).mono ?_
  rintro e w1 ⟨rfl, v1, ha⟩
  have HA1 : Hid (Aw W w1 W.heap.size v1 ⟨#[255, 255, 255, 255]⟩ 0 (W.heap.size + 1) ⟨#[0, 0, 0, 2, 97, 98, 99, 0]⟩ (W.heap.size + 2) (.slice none 0 0) ⟨#[]⟩ 0) := ha
  clear ha
  go_wp2_with fail
  refine (S2.out _ _ HA1.out).mono ?_
  rintro e w2 ⟨rfl, v2, ha⟩
  have HA2 : Hid (Aw W w2 W.heap.size v2 ⟨#[255, 255, 255, 255, 104, 105, 0, 0]⟩ 0 (W.heap.size + 1) ⟨#[0, 0, 0, 2, 97, 98, 99, 0]⟩ (W.heap.size + 2) (.slice none 0 0) ⟨#[]⟩ 0) := ha
  clear ha
  go_wp2_with fail
  refine (S3.out _ _ HA2.out).mono ?_
  rintro e w3 ⟨rfl, v3, ha⟩
  have HA3 : Hid (Aw W w3 W.heap.size v3 ⟨#[255, 255, 255, 255, 104, 105, 0, 0, 0, 0, 0, 5, 97, 98, 99, 100, 101, 0, 0, 0]⟩ 0 (W.heap.size + 1) ⟨#[0, 0, 0, 2, 97, 98, 99, 0]⟩ (W.heap.size + 2) (.slice none 0 0) ⟨#[]⟩ 0) := ha
  clear ha
  go_wp2_with fail
  refine (S4.out _ _ HA3.out).mono ?_
  rintro e w4 ⟨rfl, v4, ha⟩
  have HA4 : Hid (Aw W w4 W.heap.size v4 ⟨#[255, 255, 255, 255, 104, 105, 0, 0, 0, 0, 0, 5, 97, 98, 99, 100, 101, 0, 0, 0, 63, 128, 0, 0]⟩ 0 (W.heap.size + 1) ⟨#[0, 0, 0, 2, 97, 98, 99, 0]⟩ (W.heap.size + 2) (.slice none 0 0) ⟨#[]⟩ 0) := ha
  clear ha
  go_wp2_with fail
  refine (S5.out _ _ HA4.out).mono ?_
  rintro e w5 ⟨rfl, ha⟩
  have HA5 : Hid (Aw W w5 W.heap.size v4 ⟨#[255, 255, 255, 255, 104, 105, 0, 0, 0, 0, 0, 5, 97, 98, 99, 100, 101, 0, 0, 0, 63, 128, 0, 0]⟩ 0 (W.heap.size + 1) ⟨#[0, 0, 0, 2, 97, 98, 99, 0]⟩ (W.heap.size + 2) (.slice none 0 0) ⟨#[]⟩ 0) := ha
  clear ha
  go_wp2_with fail
  refine (S6.out _ _ HA5.out).mono ?_
  rintro e w6 ⟨rfl, ha⟩
  have HA6 : Hid (Aw W w6 W.heap.size v4 ⟨#[255, 255, 255, 255, 104, 105, 0, 0, 0, 0, 0, 5, 97, 98, 99, 100, 101, 0, 0, 0, 63, 128, 0, 0]⟩ 0 (W.heap.size + 1) ⟨#[97, 98, 99, 0]⟩ (W.heap.size + 2) (.slice none 0 0) ⟨#[]⟩ 0) := ha
  clear ha
  go_wp2_with fail
  refine (S7.out _ _ HA6.out).mono ?_
  rintro e w7 ⟨rfl, ha⟩
  have HA7 : Hid (Aw W w7 W.heap.size v4 ⟨#[255, 255, 255, 255, 104, 105, 0, 0, 0, 0, 0, 5, 97, 98, 99, 100, 101, 0, 0, 0, 63, 128, 0, 0]⟩ 0 (W.heap.size + 1) ⟨#[]⟩ (W.heap.size + 2) (.slice none 0 0) ⟨#[]⟩ 0) := ha
  clear ha
  go_wp2_with fail
  refine (S8.out _ _ HA7.out).mono ?_
  rintro e w8 ⟨rfl, ha⟩
  have HA8 : Hid (Aw W w8 W.heap.size v4 ⟨#[255, 255, 255, 255, 104, 105, 0, 0, 0, 0, 0, 5, 97, 98, 99, 100, 101, 0, 0, 0, 63, 128, 0, 0]⟩ 0 (W.heap.size + 1) ⟨#[]⟩ (W.heap.size + 2) (.slice none 0 0) ⟨#[]⟩ 0) := ha
  clear ha
  go_wp2_with fail
  refine (S9.out _ _ HA8.out).mono ?_
  rintro e w9 ⟨rfl, u9, ha⟩
  have HA9 : Hid (Aw W w9 W.heap.size v4 ⟨#[255, 255, 255, 255, 104, 105, 0, 0, 0, 0, 0, 5, 97, 98, 99, 100, 101, 0, 0, 0, 63, 128, 0, 0]⟩ 0 (W.heap.size + 1) ⟨#[]⟩ (W.heap.size + 2) u9 ⟨#[0, 0, 0, 1]⟩ 0) := ha
  clear ha
  go_wp2_with fail
  refine (S10.out _ _ _ HA9.out).mono ?_
  rintro e w10 ⟨rfl, u10, ha⟩
  have HA10 : Hid (Aw W w10 W.heap.size v4 ⟨#[255, 255, 255, 255, 104, 105, 0, 0, 0, 0, 0, 5, 97, 98, 99, 100, 101, 0, 0, 0, 63, 128, 0, 0]⟩ 0 (W.heap.size + 1) ⟨#[]⟩ (W.heap.size + 2) u10 ⟨#[0, 0, 0, 1]⟩ 23) := ha
  clear ha
  go_wp2_with fail
  refine (S11.out _ _ _ HA10.out).mono ?_
  rintro e w11 ⟨rfl, ha⟩
  have HA11 : Hid (Aw W w11 W.heap.size v4 ⟨#[255, 255, 255, 255, 104, 105, 0, 0, 0, 0, 0, 5, 97, 98, 99, 100, 101, 0, 0, 0, 63, 128, 0, 0]⟩ 0 (W.heap.size + 1) ⟨#[]⟩ (W.heap.size + 2) u10 ⟨#[0, 0, 0, 1]⟩ 23) := ha
  clear ha
  go_wp2_with fail
  refine (S12.out _ _ _ HA11.out).mono ?_
  rintro e w12 ⟨rfl, hw⟩
  have hw1 := hw.symm
  clear hw
  subst hw1
  go_wp2
  go_ret
  exact ⟨rfl, HA11.out.low⟩


end Go.Proofs.YtlkhgnjljdbhnabGreatDoor
