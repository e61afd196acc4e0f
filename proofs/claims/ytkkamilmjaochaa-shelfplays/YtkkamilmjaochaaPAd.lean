/- Each block has a tag; a step touches blocks of some tags alone. -/
import Derived.Test.YtkkamilmjaochaaPAb
namespace Go.Proofs.Ytkkamilmjaochaa
open Go.RowKit
structure Mv (T : Nat → Prop) (w w' : World) (K K' : Nat → Nat) : Prop where
  os : w'.os = w.os
  tape : w'.tape = w.tape
  output : w'.output = w.output
  size : w.heap.size ≤ w'.heap.size
  old : ∀ b, b < w.heap.size → K' b = K b
  kept : ∀ b, b < w.heap.size → ¬ T (K b) → w'.heap[b]? = w.heap[b]?
theorem Mv.refl (T : Nat → Prop) (w : World) (K : Nat → Nat) : Mv T w w K K := ⟨rfl, rfl, rfl, Nat.le_refl _, fun _ _ => rfl, fun _ _ _ => rfl⟩
theorem Mv.trans {T : Nat → Prop} {a b c : World} {K K' K'' : Nat → Nat} (h : Mv T a b K K') (k : Mv T b c K' K'') : Mv T a c K K'' :=
  ⟨k.os.trans h.os, k.tape.trans h.tape, k.output.trans h.output, Nat.le_trans h.size k.size, fun i hi => (k.old i (Nat.lt_of_lt_of_le hi h.size)).trans (h.old i hi), fun i hi ht => (k.kept i (Nat.lt_of_lt_of_le hi h.size) (by rw [h.old i hi]; exact ht)).trans (h.kept i hi ht)⟩
theorem Mv.mono {T T' : Nat → Prop} {a b : World} {K K' : Nat → Nat} (h : Mv T a b K K') (ht : ∀ t, T t → T' t) : Mv T' a b K K' := ⟨h.os, h.tape, h.output, h.size, h.old, fun i hi h2 => h.kept i hi (fun h3 => h2 (ht _ h3))⟩
/-- the old tags, and one for the new blocks -/
def ext (w : World) (K : Nat → Nat) (N : Nat → Nat) : Nat → Nat := fun b => if b < w.heap.size then K b else N b
theorem ext_old {w : World} {K N : Nat → Nat} {b : Nat} (h : b < w.heap.size) : ext w K N b = K b := if_pos h
theorem ext_new {w : World} {K N : Nat → Nat} {b : Nat} (h : w.heap.size ≤ b) : ext w K N b = N b := if_neg (by omega)
theorem Mv.of_below {w w' : World} (h : Below w.heap.size w w') (K N : Nat → Nat) : Mv (fun _ => False) w w' K (ext w K N) := ⟨h.os, h.tape, h.output, h.size, fun _ hb => ext_old hb, fun b hb _ => h.block b hb⟩
theorem Mv.of_grown {w w' : World} {p t : Nat} (h : w.grownBy w' (some p)) (K N : Nat → Nat) (hp : K p = t) : Mv (fun x => x = t) w w' K (ext w K N) :=
  ⟨h.os, h.tape, h.output, h.size, fun _ hb => ext_old hb, fun b hb ht => h.block b hb (fun e => ht (by cases e; exact hp))⟩
theorem Mv.of_set (w : World) (K : Nat → Nat) (a : Addr) (v : Value) {t : Nat} (hp : K a.block = t) : Mv (fun x => x = t) w (w.setCell a v) K K :=
  ⟨rfl, rfl, rfl, by simp [World.setCell], fun _ _ => rfl, fun b _ ht => Below.heap_setCell _ _ _ _ (fun e => ht (by rw [e]; exact hp))⟩
theorem Mv.drew (T : Nat → Prop) (w : World) (K : Nat → Nat) : Mv T w w.drew K K := ⟨rfl, rfl, rfl, Nat.le_refl _, fun _ _ => rfl, fun _ _ _ => rfl⟩
/-- all that was there at first stays, and bears the tag 0 -/
structure BS (W w : World) (K : Nat → Nat) : Prop where
  be : Below W.heap.size W w
  k0 : ∀ b, b < W.heap.size → K b = 0
theorem BS.mv {T : Nat → Prop} {W w w' : World} {K K' : Nat → Nat} (h : BS W w K) (m : Mv T w w' K K') (ht : ¬ T 0) : BS W w' K' :=
  ⟨⟨m.os.trans h.be.os, m.tape.trans h.be.tape, m.output.trans h.be.output, Nat.le_trans h.be.size m.size, fun b hb => (m.kept b (Nat.lt_of_lt_of_le hb h.be.size) (by rw [h.k0 b hb]; exact ht)).trans (h.be.block b hb)⟩, fun b hb => (m.old b (Nat.lt_of_lt_of_le hb h.be.size)).trans (h.k0 b hb)⟩
theorem BS.first (W : World) : BS W W (fun _ => 0) := ⟨Below.refl _ _, fun _ _ => rfl⟩
/-- a block with its tag -/
structure TB (K : Nat → Nat) (w : World) (t b : Nat) (o : Obj) : Prop where
  at_ : w.heap[b]? = some o
  k : K b = t
theorem TB.lt {K : Nat → Nat} {w : World} {t b : Nat} {o : Obj} (h : TB K w t b o) : b < w.heap.size := (Array.getElem?_eq_some_iff.1 h.at_).1
theorem TB.mv {T : Nat → Prop} {K K' : Nat → Nat} {w w' : World} {t b : Nat} {o : Obj} (h : TB K w t b o) (m : Mv T w w' K K') (ht : ¬ T t) : TB K' w' t b o :=
  ⟨(m.kept b h.lt (by rw [h.k]; exact ht)).trans h.at_, (m.old b h.lt).trans h.k⟩
theorem TB.new (w : World) (K N : Nat → Nat) (o : Obj) {t : Nat} (ht : N w.heap.size = t) : TB (ext w K N) (w.alloc o) t w.heap.size o := ⟨(MapKept.heap_alloc w o).1, (ext_new (Nat.le_refl _)).trans ht⟩
theorem Mv.alloc (w : World) (K N : Nat → Nat) (o : Obj) : Mv (fun _ => False) w (w.alloc o) K (ext w K N) := Mv.of_below ((Below.refl _ _).alloc (Nat.le_refl _) _) K N
section
variable {κ ν : Type} {I : Kd κ ν}
/-- a shelf whose blocks bear one tag -/
structure TS (I : Kd κ ν) (K : Nat → Nat) (w : World) (t p most m r : Nat) (L : List (Th κ ν)) : Prop where
  sh : SH I w p most m r L
  k : ∀ x ∈ foot p m r L, K x = t
variable {K K' : Nat → Nat} {w w' : World} {t p most m r : Nat} {L L' : List (Th κ ν)}
theorem TS.mv {T : Nat → Prop} (h : TS I K w t p most m r L) (mv : Mv T w w' K K') (ht : ¬ T t) : TS I K' w' t p most m r L :=
  ⟨h.sh.kept fun x hx => mv.kept x (h.sh.lt x hx) (by rw [h.k x hx]; exact ht), fun x hx => (mv.old x (h.sh.lt x hx)).trans (h.k x hx)⟩
theorem TS.chg (h : TS I K w t p most m r L) (s : SH I w' p most m r L') (c : Chg (foot p m r L) (foot p m r L') w w') : ∃ K', TS I K' w' t p most m r L' ∧ Mv (fun x => x = t) w w' K K' := by
  refine ⟨ext w K (fun _ => t), ⟨s, fun x hx => ?_⟩, ⟨c.os, c.tape, c.output, c.size, fun _ hb => ext_old hb, fun b hb ht => c.kept b hb (fun e => ht (h.k b e))⟩⟩
  by_cases hlt : x < w.heap.size
  · rw [ext_old hlt]
    rcases c.own x hx with e | e
    · exact h.k x e
    · omega
  · exact ext_new (by omega)
theorem TS.made (s : SH I w' p most m r ([] : List (Th κ ν))) (b : Below w.heap.size w w') (hn : w.heap.size ≤ p ∧ w.heap.size ≤ m ∧ w.heap.size ≤ r) (K : Nat → Nat) (t : Nat) : ∃ K', TS I K' w' t p most m r [] ∧ Mv (fun _ => False) w w' K K' := by
  refine ⟨ext w K (fun _ => t), ⟨s, fun x hx => ?_⟩, Mv.of_below b K _⟩
  simp at hx
  rcases hx with e | e | e <;> (rw [e]; exact ext_new (by omega))
end
end Go.Proofs.Ytkkamilmjaochaa
