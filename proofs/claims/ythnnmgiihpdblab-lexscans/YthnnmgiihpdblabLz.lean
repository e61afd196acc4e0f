/- LexParts' walk: one piece more. -/
import Derived.Test.YthnnmgiihpdblabLx
import Derived.Test.YthnnmgiihpdblabLy
namespace Go.Proofs.Ythnnmgiihpdblab
open Go.RowKit

theorem IntAt.below {W w : World} {v : Value} {xs : List Int} (h : IntAt W v xs) (hB : Below W.heap.size W w) : IntAt w v xs := by
  obtain ⟨oa, cap, g, off, hv, hoa, hc, hr⟩ := h.ex
  refine ⟨oa, cap, g, off, hv, hoa, fun i x hx => ?_, hr⟩
  have h1 := hc i x hx
  rw [hB.cell (World.block_lt_of_cell? W _ h1)]; exact h1

theorem PcsAt.below {W w : World} {v : Value} {ps : List Pc} {gv : Nat → Option Addr × Nat} (h : PcsAt W v ps gv) (hB : Below W.heap.size W w) : PcsAt w v ps gv := by
  obtain ⟨oa, cap, g, off, hv, hoa, hc⟩ := h.ex
  refine ⟨oa, cap, g, off, hv, hoa, fun i p hp => ?_⟩
  obtain ⟨h0, h1, h2, h3, h4, h5⟩ := hc i p hp
  refine ⟨?_, ?_, ?_, ?_, h4.below hB, h5⟩
  · rw [hB.cell (World.block_lt_of_cell? W _ h0)]; exact h0
  · rw [hB.cell (World.block_lt_of_cell? W _ h1)]; exact h1
  · rw [hB.cell (World.block_lt_of_cell? W _ h2)]; exact h2
  · rw [hB.cell (World.block_lt_of_cell? W _ h3)]; exact h3

theorem tok_len_le (p : Pc) : (tokP p).2.length ≤ 36 := by
  have hpk := pickP_range (c := p.n) (n := 4294967296) (by omega)
  have d10 := fun n h => digits_len 10 n (by omega) h
  have d16 := fun n h => digits_len 16 n (by omega) h
  have d8 := fun n h => digits_len 8 n (by omega) h
  unfold tokP
  split
  · have := (runL_facts p.s).2.2.1
    show (runL p.s).length ≤ 36; omega
  split
  · split
    · have := d10 (-p.n).toNat (by omega)
      show (digitsL 10 (-p.n).toNat).length + 1 ≤ 36; omega
    · have := d10 (pickP p.n 4294967296).toNat (by omega)
      show (digitsL 10 (pickP p.n 4294967296).toNat).length ≤ 36; omega
  split
  · have := d16 (pickP p.n 4294967296).toNat (by omega)
    show (digitsL 16 (pickP p.n 4294967296).toNat).length + 1 + 1 ≤ 36; omega
  split
  · have := d8 (pickP p.n 4294967296).toNat (by omega)
    show (digitsL 8 (pickP p.n 4294967296).toNat).length + 1 ≤ 36; omega
  · show 1 ≤ 36; omega

theorem space_len_le (last : Int) (p : Pc) : (spaceP last p).length ≤ 1 + 16 * p.gap.length := by
  unfold spaceP
  split
  · simp
  · have := gapMore_le p.gap; simp [gapP]; omega

theorem bldP_take {ps : List Pc} {k : Nat} {p : Pc} (h : ps[k]? = some p) : bldP (ps.take (k + 1)) = bldOne (bldP (ps.take k)) p := by
  rw [List.take_add_one, h]; exact bldP_snoc _ _

theorem bldP_w_len (ps : List Pc) : (bldP ps).w.length = ps.length := by
  have : ∀ (l : List Pc) (b : Bld), (l.foldl bldOne b).w.length = b.w.length + l.length := fun l => by
    induction l with
    | nil => intro b; simp
    | cons p l ih => intro b; simp [ih, bldOne]; omega
  have := this ps ⟨[], [], 4⟩
  simpa [bldP] using this

/-- what a piece more makes -/
structure Gives (b : Bld) (p : Pc) (SP T : List UInt8) (tk : Tok) (b2 : Bld) : Prop where
  s : b2.s = b.s ++ SP ++ T
  w : b2.w = b.w ++ [⟨tk.kind, tk.text, tk.num, b.s.length + SP.length⟩]
  last : b2.last = tk.kind

theorem gives (b : Bld) (p : Pc) : Gives b p (spaceP b.last p) (tokP p).2 (tokP p).1 (bldOne b p) := by
  refine ⟨rfl, ?_, rfl⟩
  simp [bldOne]

theorem own_later {W wr u : World} {v : Value} {k : Nat} {xs : List Value} (h : wr.ownsRow W.heap.size 37 4 v k xs) (hB : Below wr.heap.size wr u) : u.ownsRow W.heap.size 37 4 v k xs :=
  h.kept (row := none) ⟨hB.os, hB.tape, hB.output, hB.size, fun i hi _ => hB.block i hi⟩ (by cases hq : v.ownBlock with | none => exact .inl rfl | some g => exact .inr (by simp))

theorem part_step {W wr w2 w4 : World} {v : Value} {k : Nat} {xs : List Value} {A : Array Value} {x : Value} (h : wr.ownsRow W.heap.size 37 4 v k xs) (hB : Below W.heap.size W wr) (hB2 : Below wr.heap.size wr w2) (hx : A[0]? = some x) (hg : ((w2.alloc (.cells A 37)).alloc (.cells A 37)).grownBy w4 v.ownBlock) :
    w4.cell? ⟨w2.heap.size, 0, none⟩ = some x ∧ Below W.heap.size W w4 := by
  have hv : ∀ q, v.ownBlock = some q → W.heap.size ≤ q ∧ q < wr.heap.size := fun q hq => h.lt q hq
  have hs2 := hB2.size
  have hs1 := hB.size
  constructor
  · have e : w4.heap[w2.heap.size]? = ((w2.alloc (.cells A 37)).alloc (.cells A 37)).heap[w2.heap.size]? := hg.block _ (by simp; omega) (fun e => by have := hv _ e.symm; omega)
    rw [(cells_of_block e 0).1]
    have e2 : ((w2.alloc (.cells A 37)).alloc (.cells A 37)).heap[w2.heap.size]? = (w2.alloc (.cells A 37)).heap[w2.heap.size]? := Below.heap_alloc _ _ _ (by simp)
    rw [(cells_of_block e2 0).1]
    unfold World.cell?
    rw [show (w2.alloc (.cells A 37)).heap[w2.heap.size]? = some (.cells A 37 (0, 0)) from heap_alloc_new _ _]
    exact hx
  · have b2 : Below W.heap.size W w2 := hB.trans (hB2.mono hs1)
    exact ((b2.alloc (by omega) _).alloc (by simp; omega) _).grown hg (by simp; omega) (fun q hq => (hv q hq).1)

theorem heap_new2 (w : World) (a b : Obj) : ((w.alloc a).alloc b).heap[w.heap.size + 1]? = some b := by
  have := heap_alloc_new (w.alloc a) b
  rwa [World.size_alloc] at this

theorem wSum_len (l : List Pc) : 40 * l.length ≤ wSum l := by
  induction l with
  | nil => simp [wSum]
  | cons p r ih => simp [wSum]; omega

end Go.Proofs.Ythnnmgiihpdblab
