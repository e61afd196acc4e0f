/- The program's scanner in memory; a token laid down. -/
import Derived.Test.YthnnmgiihpdblabLe
import Derived.Deep.AppendLies
import Derived.Deep.RegionLaw
import Derived.BigRegion
import Derived.Laws.IdiomStrings
namespace Go.Proofs.Ythnnmgiihpdblab
open Go.RowKit

def tokC (t : Tok) : List Value := [.int .i64 t.kind, S t.text, .int .i64 t.num, .int .i64 t.at_]
def tokCells (ts : List Tok) : List Value := ts.flatMap tokC
theorem tokCells_len (ts : List Tok) : (tokCells ts).length = ts.length * 4 := by
  induction ts with
  | nil => rfl
  | cons t ts ih => simp [tokCells, tokC] at ih ⊢; omega
theorem tokCells_snoc (ts : List Tok) (t : Tok) : tokCells (ts ++ [t]) = tokCells ts ++ tokC t := by simp [tokCells]

/-- The scanner: its block, its tokens. -/
structure SC (w : World) (p : Nat) (l : List UInt8) (st frm : Nat) (v : Value) (ts : List Tok) : Prop where
  s : w.cell? ⟨p, 0, none⟩ = some (S l)
  i : w.cell? ⟨p, 1, none⟩ = some (.int .i64 st)
  f : w.cell? ⟨p, 2, none⟩ = some (.int .i64 frm)
  t : w.cell? ⟨p, 3, none⟩ = some v
  f1 : w.frozen? ⟨p, 1, none⟩ = false
  f2 : w.frozen? ⟨p, 2, none⟩ = false
  f3 : w.frozen? ⟨p, 3, none⟩ = false
  own : w.ownsRow (p + 1) 37 4 v ts.length (tokCells ts)

theorem SC.lt {w : World} {p : Nat} {l : List UInt8} {st frm : Nat} {v : Value} {ts : List Tok} (h : SC w p l st frm v ts) : p < w.heap.size := by
  rcases Nat.lt_or_ge p w.heap.size with h1 | h1
  · exact h1
  · have := h.s
    simp [World.cell?, Array.getElem?_eq_none h1] at this

/-- What stays, and where the scanner's own tokens lie behind a step. -/
structure Kept (p : Nat) (v v' : Value) (w w' : World) : Prop where
  os : w'.os = w.os
  tape : w'.tape = w.tape
  output : w'.output = w.output
  size : w.heap.size ≤ w'.heap.size
  block : ∀ b, b < w.heap.size → b ≠ p → some b ≠ v.ownBlock → w'.heap[b]? = w.heap[b]?
  row : v'.ownBlock = v.ownBlock ∨ ∃ g, w.heap.size ≤ g ∧ v'.ownBlock = some g

theorem cells_of_block {w w' : World} {b : Nat} (h : w'.heap[b]? = w.heap[b]?) (o : Nat) : w'.cell? ⟨b, o, none⟩ = w.cell? ⟨b, o, none⟩ ∧ w'.frozen? ⟨b, o, none⟩ = w.frozen? ⟨b, o, none⟩ := by
  constructor
  · unfold World.cell?; simp only [h]
  · unfold World.frozen?; simp only [h]

theorem Kept.trans {p : Nat} {v1 v2 v3 : Value} {a b c : World} (h : Kept p v1 v2 a b) (k : Kept p v2 v3 b c) : Kept p v1 v3 a c := by
  refine ⟨k.os.trans h.os, k.tape.trans h.tape, k.output.trans h.output, Nat.le_trans h.size k.size, ?_, ?_⟩
  · intro i hi hp hv
    have hv2 : some i ≠ v2.ownBlock := by
      rcases h.row with e | ⟨g, hg1, e⟩
      · rw [e]; exact hv
      · rw [e]; intro e2; cases e2; omega
    exact (k.block i (Nat.lt_of_lt_of_le hi h.size) hp hv2).trans (h.block i hi hp hv)
  · rcases k.row with e | ⟨g, hg1, e⟩
    · rw [e]; exact h.row
    · exact .inr ⟨g, Nat.le_trans h.size hg1, e⟩
theorem Kept.refl (p : Nat) (v : Value) (w : World) : Kept p v v w w := ⟨rfl, rfl, rfl, Nat.le_refl _, fun _ _ _ _ => rfl, .inl rfl⟩
theorem Kept.of_below {p : Nat} {v : Value} {a b : World} (h : Below a.heap.size a b) : Kept p v v a b := ⟨h.os, h.tape, h.output, h.size, fun i hi _ _ => h.block i hi, .inl rfl⟩
theorem SC.below {w w' : World} {p : Nat} {l : List UInt8} {st frm : Nat} {v : Value} {ts : List Tok} (h : SC w p l st frm v ts) (hB : Below w.heap.size w w') : SC w' p l st frm v ts := by
  have hb : w'.heap[p]? = w.heap[p]? := hB.block p h.lt
  have hg : w.grownBy w' none := ⟨hB.os, hB.tape, hB.output, hB.size, fun k hk _ => hB.block k hk⟩
  exact ⟨(cells_of_block hb 0).1.trans h.s, (cells_of_block hb 1).1.trans h.i, (cells_of_block hb 2).1.trans h.f, (cells_of_block hb 3).1.trans h.t, (cells_of_block hb 1).2.trans h.f1, (cells_of_block hb 2).2.trans h.f2, (cells_of_block hb 3).2.trans h.f3,
    h.own.kept hg (by cases hq : v.ownBlock with | none => exact .inl rfl | some g => exact .inr (by simp))⟩

theorem info37_ex : ∃ i : TypeInfo, Try.prog.info? 37 = some i ∧ i.zero = some (.agg #[.int .i64 0, .string ⟨#[]⟩, .int .i64 0, .int .i64 0]) ∧ i.size = 4 ∧ i.bytes = 40 :=
  ⟨(Try.prog.info? 37).getD default, by kernel_rfl, by kernel_rfl, by kernel_rfl, by kernel_rfl⟩

theorem own_form {w : World} {base n : Nat} {e : TypeId} {size : Nat} {v : Value} {xs : List Value} (h : w.ownsRow base e size v n xs) : ∃ a cap, v = .slice a n cap := by
  rcases h.2 with ⟨rfl, rfl⟩ | ⟨g, cap, cur, rfl, _⟩
  · exact ⟨none, 0, rfl⟩
  · exact ⟨_, cap, rfl⟩


/-- One token more. -/
theorem lay_step {p : Nat} {l : List UInt8} {st frm : Nat} {v v2 : Value} {ts : List Tok} {w1 u w2 : World} {t : Tok} {H : Nat} (h : SC w1 p l st frm v ts) (hB : Below w1.heap.size w1 u) (hown : w2.ownsRow (p + 1) 37 4 v2 (ts.length + 1) (tokCells ts ++ tokC t)) (hg : u.grownBy w2 v.ownBlock)
    (hr : v2.ownBlock = v.ownBlock ∨ v2.ownBlock = some H) (hH : w1.heap.size ≤ H) :
    (w2.cell? ⟨p, 3, none⟩ = some v ∧ w2.frozen? ⟨p, 3, none⟩ = false) ∧ SC (w2.setCell ⟨p, 3, none⟩ v2) p l st frm v2 (ts ++ [t]) ∧ Kept p v v2 w1 (w2.setCell ⟨p, 3, none⟩ v2) := by
  have hu := h.below hB
  have hne : some p ≠ v.ownBlock := fun e => by have := (hu.own.lt p e.symm).1; omega
  have hne2 : v2.ownBlock ≠ some p := fun e => by have := (hown.lt p e).1; omega
  have hb : w2.heap[p]? = u.heap[p]? := hg.block p hu.lt hne
  have hsc : ∀ (k : Nat), k ≠ p → (w2.setCell ⟨p, 3, none⟩ v2).heap[k]? = w2.heap[k]? := fun k hk => Below.heap_setCell _ _ _ k hk
  have hgs : w2.grownBy (w2.setCell ⟨p, 3, none⟩ v2) (some p) := ⟨rfl, rfl, rfl, by simp, fun k _ hk => hsc k (fun e => hk (by rw [e]))⟩
  refine ⟨⟨(cells_of_block hb 3).1.trans hu.t, (cells_of_block hb 3).2.trans hu.f3⟩, ⟨?_, ?_, ?_, ?_, ?_, ?_, ?_, ?_⟩, ⟨?_, ?_, ?_, ?_, ?_, ?_⟩⟩
  · rw [World.cell?_setCell_other _ _ _ _ (by simp), (cells_of_block hb 0).1]; exact hu.s
  · rw [World.cell?_setCell_other _ _ _ _ (by simp), (cells_of_block hb 1).1]; exact hu.i
  · rw [World.cell?_setCell_other _ _ _ _ (by simp), (cells_of_block hb 2).1]; exact hu.f
  · exact World.cell?_setCell_same _ _ _ (by rw [(cells_of_block hb 3).1]; exact hu.t)
  · rw [World.frozen?_setCell, (cells_of_block hb 1).2]; exact hu.f1
  · rw [World.frozen?_setCell, (cells_of_block hb 2).2]; exact hu.f2
  · rw [World.frozen?_setCell, (cells_of_block hb 3).2]; exact hu.f3
  · rw [tokCells_snoc, show (ts ++ [t]).length = ts.length + 1 by simp]
    exact hown.kept hgs (.inr hne2)
  · exact hg.os.trans hB.os
  · exact hg.tape.trans hB.tape
  · exact hg.output.trans hB.output
  · exact Nat.le_trans hB.size (Nat.le_trans hg.size hgs.size)
  · intro b hb1 hb2 hb3
    rw [hsc b hb2, hg.block b (Nat.lt_of_lt_of_le hb1 hB.size) hb3]
    exact hB.block b hb1
  · rcases hr with e | e
    · exact .inl e
    · exact .inr ⟨_, hH, e⟩

set_option maxHeartbeats 2000000 in
theorem lay_any (p : Nat) (l text : List UInt8) (st frm : Nat) (v : Value) (ts : List Tok) (k n : Int) (w : World) (h : SC w p l st frm v ts) (hn : ts.length ≤ 100000) :
    Calls Try.prog 36 #[.pointer (some ⟨p, 0, none⟩), .int .i64 k, S text, .int .i64 n] w fun e w' => e = .returned (.tuple #[]) ∧ ∃ v', SC w' p l st frm v' (ts ++ [⟨k, text, n, frm⟩]) ∧ Kept p v v' w w' := by
  have hcv := fun w s => run_bytes_of_string (P := Try.prog) w 9 62 5 s Try.underlying9 Try.underlying62 Try.underlying5
  obtain ⟨w1, hw1⟩ : ∃ w1, w.drew.alloc (.cells (bytesRow ⟨text.toArray⟩ (grownCap w text.length 0 5)) 5 ((bytesRow ⟨text.toArray⟩ (grownCap w text.length 0 5)).size, (bytesRow ⟨text.toArray⟩ (grownCap w text.length 0 5)).size + 1)) = w1 := ⟨_, rfl⟩
  have hcb : (convert 62 9 (.slice (some ⟨w.heap.size, 0, none⟩) text.length (grownCap w text.length 0 5))).run Try.prog w1 = .ok (S text) w1 := by
    refine run_convert_bytes_back w1 62 9 5 ⟨w.heap.size, 0, none⟩ _ text Try.underlying62 Try.underlying5 Try.underlying9 fun j hj => ?_
    rw [← hw1, Addr.add_lit, Nat.zero_add]
    show (w.drew.alloc _).cell? ⟨w.drew.heap.size, j, none⟩ = _
    rw [World.cell?_alloc_mark, bytesRow_at _ _ _ (by simpa using hj)]
    simp
  have hB1 : Below w.heap.size w w1 := by rw [← hw1]; exact (Below.refl _ _).drew.alloc (Nat.le_refl _) _
  have hk1 : SC w1 p l st frm v ts := h.below hB1
  have HB1 : Hid (Below w.heap.size w w1) := hB1
  have HK1 : Hid (SC w1 p l st frm v ts) := hk1
  obtain ⟨oa, cap0, hv⟩ := own_form h.own
  have hlt1 := hk1.lt
  have hs2 := hk1.f
  have hs3 := hk1.t
  have hf3 := hk1.f3
  obtain ⟨N, hN⟩ : ∃ N : Nat, ts.length = N := ⟨_, rfl⟩
  rw [hN] at hv hn
  have HN : Hid (ts.length = N) := hN
  have HO : Hid (∀ w2 : World, (∀ b, b < w1.heap.size → w2.heap[b]? = w1.heap[b]?) → w2.ownsRow (p + 1) 37 4 v N (tokCells ts)) := fun w2 h2 => by
    have ho := hk1.own
    rw [hN] at ho
    refine ⟨ho.1, ?_⟩
    rcases ho.2 with hn | ⟨g, cap, cur, rfl, hb, hgg, rest⟩
    · exact .inl hn
    · exact .inr ⟨g, cap, cur, rfl, hb, by rw [h2 g (Array.getElem?_eq_some_iff.1 hgg).1]; exact hgg, rest⟩
  rw [hv] at hs3
  clear hB1 hk1 hN h
  obtain ⟨inf, hi1, hi2, hi3, hi4⟩ := info37_ex
  have HI : Hid (Try.prog.info? 37 = some inf ∧ inf.zero = some (.agg #[.int .i64 0, .string ⟨#[]⟩, .int .i64 0, .int .i64 0]) ∧ inf.size = 4 ∧ inf.bytes = 40) := ⟨hi1, hi2, hi3, hi4⟩
  clear hi1 hi2 hi3 hi4
  go_enter Try.func36, Try.ntmps36
  go_wp2_with fail
  clear hcv hcb
  have HW1 : Hid (w.drew.alloc (.cells (bytesRow ⟨text.toArray⟩ (grownCap w text.length 0 5)) 5 ((bytesRow ⟨text.toArray⟩ (grownCap w text.length 0 5)).size, (bytesRow ⟨text.toArray⟩ (grownCap w text.length 0 5)).size + 1)) = w1) := hw1
  clear hw1
  have HL : Hid (∀ (u w2 : World) (g cap : Nat), Below w1.heap.size w1 u → w2.ownsRow (p + 1) 37 4 (.slice (some ⟨g, 0, none⟩) (N + 1) cap) (N + 1) (tokCells ts ++ tokC ⟨k, text, n, frm⟩) → u.grownBy w2 v.ownBlock → (v.ownBlock = some g ∨ g = u.heap.size) →
      (w2.cell? ⟨p, 3, none⟩ = some v ∧ w2.frozen? ⟨p, 3, none⟩ = false) ∧ SC (w2.setCell ⟨p, 3, none⟩ (.slice (some ⟨g, 0, none⟩) (N + 1) cap)) p l st frm (.slice (some ⟨g, 0, none⟩) (N + 1) cap) (ts ++ [⟨k, text, n, frm⟩]) ∧ Kept p v (.slice (some ⟨g, 0, none⟩) (N + 1) cap) w1 (w2.setCell ⟨p, 3, none⟩ (.slice (some ⟨g, 0, none⟩) (N + 1) cap))) := fun u w2 g cap hB ho hg hat => by
    refine lay_step (H := u.heap.size) HK1.out hB (by rw [HN.out]; exact ho) hg ?_ hB.size
    rcases hat with e | e
    · exact .inl e.symm
    · exact .inr (by rw [e]; rfl)
  clear hs3
  have hs3 : w1.cell? ⟨p, 3, none⟩ = some (.slice oa N cap0) := by rw [← hv]; exact HK1.out.t
  have HV : Hid (v = .slice oa N cap0) := hv
  clear hv
  have HP : Hid (∀ (e : Ending) (w2 : World) (v2 : Value), SC w2 p l st frm v2 (ts ++ [⟨k, text, n, frm⟩]) → Kept p v v2 w1 w2 → ∃ v', SC w2 p l st frm v' (ts ++ [⟨k, text, n, frm⟩]) ∧ Kept p v v' w w2) := fun e w2 v2 h1 h2 => ⟨v2, h1, (Kept.of_below HB1.out).trans h2⟩
  go_region_law (refine step_append_lies _ rfl (.tmp 16) (.tmp 25) 25 rfl (p + 1) 37 inf (.agg #[.int .i64 0, .string ⟨#[]⟩, .int .i64 0, .int .i64 0]) 4 40 Try.underlying25 HI.out.1 HI.out.2.1 HI.out.2.2.1 HI.out.2.2.2 rfl (by decide) v N (tokCells ts) (by rw [HV.out]; rfl) (HO.out _ (fun b hb => Below.heap_alloc _ _ b hb)) ⟨w1.heap.size, 0, none⟩ 1 1 (tokC ⟨k, text, n, frm⟩) rfl rfl (World.news_of_block (cs := #[.int .i64 k, S text, .int .i64 n, .int .i64 frm]) (t := 37) (fr := (0, 0)) (heap_alloc_new _ _)) (by simp [tokC, Value.oneCell']) (by omega) (by unfold maxLen; omega) (by omega) (by simp; omega) _ rfl ?_; intro g cap w2 hown hgrow hat hlt; have HLL := HL.out _ w2 g cap ((Below.refl _ _).drew.alloc (Nat.le_refl _) _) hown hgrow hat; have hc3 := HLL.1.1; have hz3 := HLL.1.2; rw [HV.out] at hc3; have HSC : Hid (SC (w2.setCell ⟨p, 3, none⟩ (.slice (some ⟨g, 0, none⟩) (N + 1) cap)) p l st frm (.slice (some ⟨g, 0, none⟩) (N + 1) cap) (ts ++ [⟨k, text, n, frm⟩]) ∧ Kept p v (.slice (some ⟨g, 0, none⟩) (N + 1) cap) w1 (w2.setCell ⟨p, 3, none⟩ (.slice (some ⟨g, 0, none⟩) (N + 1) cap))) := HLL.2; clear hown hgrow hat hlt HLL)
  all_goals (
    go_wp2
    first | go_end0 | refine bodyPost_ret (results_none rfl _ _ _) rfl ?_
    exact ⟨rfl, HP.out (.returned (.tuple #[])) _ _ HSC.out.1 HSC.out.2⟩)

end Go.Proofs.Ythnnmgiihpdblab
