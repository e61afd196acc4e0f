/- Blocks as they are; a body that was laid down as a credential. -/
import Derived.Test.YtihcdahmfdijoaaGreatDoorCb
namespace Go.Proofs.YtihcdahmfdijoaaGreatDoor
open Go.RowKit
/-- a block whole -/
def Bk (w : World) (b : Nat) (cs : List Value) (t : TypeId) : Prop := w.heap[b]? = some (.cells cs.toArray t)
theorem Bk.cell {w : World} {b : Nat} {cs : List Value} {t : TypeId} (h : Bk w b cs t) (i : Nat) {v : Value} (hv : cs[i]? = some v) : w.cell? ⟨b, i, none⟩ = some v := by
  unfold Bk at h
  simp [World.cell?, h, hv]
theorem Bk.frozen {w : World} {b : Nat} {cs : List Value} {t : TypeId} (h : Bk w b cs t) (i : Nat) : w.frozen? ⟨b, i, none⟩ = false := by
  unfold Bk at h
  simp [World.frozen?, h]
theorem Bk.lt {w : World} {b : Nat} {cs : List Value} {t : TypeId} (h : Bk w b cs t) : b < w.heap.size := by
  rcases Nat.lt_or_ge b w.heap.size with h1 | h1
  · exact h1
  · unfold Bk at h
    rw [Array.getElem?_eq_none h1] at h
    cases h
theorem Bk.set {w : World} {b : Nat} {cs : List Value} {t : TypeId} (h : Bk w b cs t) (i : Nat) (v : Value) : Bk (w.setCell ⟨b, i, none⟩ v) b (cs.set i v) t := by
  unfold Bk at h ⊢
  simp [World.setCell, Array.getElem?_modify, h]
theorem Bk.set_ne {w : World} {b b' : Nat} {cs : List Value} {t : TypeId} (h : Bk w b cs t) (hb : b ≠ b') (i : Nat) (v : Value) : Bk (w.setCell ⟨b', i, none⟩ v) b cs t :=
  (Below.heap_setCell w _ v b hb).trans h
theorem Bk.new (w : World) (cs : List Value) (t : TypeId) : Bk (w.alloc (.cells cs.toArray t)) w.heap.size cs t := by
  show (w.heap.push _)[w.heap.size]? = _
  simp
theorem Bk.below {w w' : World} {b B : Nat} {cs : List Value} {t : TypeId} (h : Bk w b cs t) (hB : Below B w w') (hb : b < B) : Bk w' b cs t := (hB.block b hb).trans h
theorem below_new (w : World) (o : Obj) : Below w.heap.size w (w.alloc o) := (Below.refl _ _).alloc (Nat.le_refl _) _
/-- a credential, or that a field may not be -/
def prV (f : Int) : Option (List UInt8) → Value
  | some l => .tuple #[.agg #[.int .i64 f, .string ⟨l.toArray⟩], .int .i64 0]
  | none => .tuple #[.agg #[.int .i64 0, .string ⟨#[]⟩], .int .i64 110]
set_option maxRecDepth 4000 in
theorem authOf_ok (p : Nat) (f M : Int) (P : Prop) (l : List UInt8) (w : World) (h : WrP w p M P l) (hT : ErrT w) (hP : P) :
    Calls Tryz.prog 36 #[.int .i64 f, .pointer (some ⟨p, 0, none⟩)] w fun e w' => e = .returned (prV f (some l)) ∧ Below w.heap.size w w' := by
  obtain ⟨wa, hwa⟩ : ∃ wa, w.alloc (.cells #[.int .i64 0, .string ⟨#[]⟩] 23) = wa := ⟨_, rfl⟩
  have hBa : Below w.heap.size w wa := hwa ▸ below_new _ _
  have hz : wa.heap.size = w.heap.size + 1 := by rw [← hwa]; simp
  have H1 : Hid (Calls Tryz.prog 58 #[.pointer (some ⟨p, 0, none⟩)] wa fun e w' => e = .returned (.tuple #[.string ⟨l.toArray⟩, .int .i64 0]) ∧ Below wa.heap.size wa w') := w_done_ok p M P l wa (h.below hBa) (hT.below hBa) hP
  have HR : Hid (Bk wa w.heap.size [.int .i64 0, .string ⟨#[]⟩] 23 ∧ Below w.heap.size w wa ∧ wa.heap.size = w.heap.size + 1) := ⟨hwa ▸ Bk.new _ _ _, hBa, hz⟩
  have HWA : Hid (w.alloc (.cells #[.int .i64 0, .string ⟨#[]⟩] 23) = wa) := hwa
  clear h hT hP hBa hz hwa
  go_enter Tryz.func36, Tryz.ntmps36
  go_wp2_with fail
  rw [HWA.out]
  refine H1.out.mono ?_
  rintro e w1 ⟨rfl, hB⟩
  have hk : Bk w1 w.heap.size _ _ := HR.out.1.below hB (by have := HR.out.2.2; omega)
  have c0 := hk.cell 0 rfl
  have c1 := hk.cell 1 rfl
  have f0 := hk.frozen 0
  have f1 := hk.frozen 1
  have q0 := ((hk.set 0 (.int .i64 f)).set 1 (.string ⟨l.toArray⟩)).cell 0 rfl
  have q1 := ((hk.set 0 (.int .i64 f)).set 1 (.string ⟨l.toArray⟩)).cell 1 rfl
  have HE : Hid (Below w.heap.size w ((w1.setCell ⟨w.heap.size, 0, none⟩ (.int .i64 f)).setCell ⟨w.heap.size, 1, none⟩ (.string ⟨l.toArray⟩))) :=
    (((HR.out.2.1.trans (hB.mono (by have := HR.out.2.2; omega))).setCell (Nat.le_refl _) _).setCell (Nat.le_refl _) _)
  clear hB hk
  go_wp2
  refine bodyPost_ret (v := prV f (some l)) (by unfold prV; simp [results, Tryz.results36, go_sem, q0, q1]) rfl ⟨rfl, HE.out⟩
set_option maxRecDepth 4000 in
theorem authOf_bad (p : Nat) (f M : Int) (P : Prop) (l : List UInt8) (w : World) (h : WrP w p M P l) (hT : ErrT w) (hP : ¬ P) :
    Calls Tryz.prog 36 #[.int .i64 f, .pointer (some ⟨p, 0, none⟩)] w fun e w' => e = .returned (prV f none) ∧ Below w.heap.size w w' := by
  obtain ⟨wa, hwa⟩ : ∃ wa, w.alloc (.cells #[.int .i64 0, .string ⟨#[]⟩] 23) = wa := ⟨_, rfl⟩
  have hBa : Below w.heap.size w wa := hwa ▸ below_new _ _
  have hz : wa.heap.size = w.heap.size + 1 := by rw [← hwa]; simp
  have H1 : Hid (Calls Tryz.prog 58 #[.pointer (some ⟨p, 0, none⟩)] wa fun e w' => (∃ E, E ≠ 0 ∧ e = .returned (.tuple #[.string ⟨#[]⟩, .int .i64 E])) ∧ Below wa.heap.size wa w') := w_done_bad p M P l wa (h.below hBa) (hT.below hBa) hP
  have HR : Hid (Bk wa w.heap.size [.int .i64 0, .string ⟨#[]⟩] 23 ∧ Below w.heap.size w wa ∧ wa.heap.size = w.heap.size + 1) := ⟨hwa ▸ Bk.new _ _ _, hBa, hz⟩
  have HWA : Hid (w.alloc (.cells #[.int .i64 0, .string ⟨#[]⟩] 23) = wa) := hwa
  clear h hT hP hBa hz hwa
  go_enter Tryz.func36, Tryz.ntmps36
  go_wp2_with fail
  rw [HWA.out]
  refine H1.out.mono ?_
  rintro e w1 ⟨⟨E, hE, rfl⟩, hB⟩
  have hk : Bk w1 w.heap.size _ _ := HR.out.1.below hB (by have := HR.out.2.2; omega)
  have c0 := hk.cell 0 rfl
  have c1 := hk.cell 1 rfl
  have f0 := hk.frozen 0
  have f1 := hk.frozen 1
  have q0 := ((hk.set 0 (.int .i64 0)).set 1 (.string ⟨#[]⟩)).cell 0 rfl
  have q1 := ((hk.set 0 (.int .i64 0)).set 1 (.string ⟨#[]⟩)).cell 1 rfl
  have HE : Hid (Below w.heap.size w ((w1.setCell ⟨w.heap.size, 0, none⟩ (.int .i64 0)).setCell ⟨w.heap.size, 1, none⟩ (.string ⟨#[]⟩))) :=
    (((HR.out.2.1.trans (hB.mono (by have := HR.out.2.2; omega))).setCell (Nat.le_refl _) _).setCell (Nat.le_refl _) _)
  have hE2 : (E != 0) = true := bne_iff_ne.2 hE
  have hE3 : ¬ E = 0 := hE
  clear hB hk
  go_wp2
  refine bodyPost_ret (v := prV f none) (by unfold prV; simp [results, Tryz.results36, go_sem, q0, q1]) rfl ⟨rfl, HE.out⟩
theorem authOf_any (p : Nat) (f M : Int) (P : Prop) [Decidable P] (l : List UInt8) (w : World) (h : WrP w p M P l) (hT : ErrT w) :
    Calls Tryz.prog 36 #[.int .i64 f, .pointer (some ⟨p, 0, none⟩)] w fun e w' => e = .returned (prV f (if P then some l else none)) ∧ Below w.heap.size w w' := by
  by_cases hP : P
  · rw [if_pos hP]; exact authOf_ok p f M P l w h hT hP
  · rw [if_neg hP]; exact authOf_bad p f M P l w h hT hP
end Go.Proofs.YtihcdahmfdijoaaGreatDoor
