/- ShelfPlays: keeps. -/
import Derived.Test.YtkkamilmjaochaaPBl
import Derived.Deep.CutBlock
import Derived.Deep.CutRange
import Derived.Deep.DeepCutAuto
namespace Go.Proofs.Ytkkamilmjaochaa
open Go.RowKit
def TK (β : Nat) : Nat → Prop := fun y => y = β ∨ y = β + 1 ∨ y = β + 3 ∨ y = β + 6 ∨ y = β + 7 ∨ y = β + 13
theorem cutA {w1 w2 : World} {S2 : Nat} (hS2 : w1.heap.size = S2) (b : Below w1.drew.heap.size w1.drew w2) (o : Obj) : (w2.alloc o).heap[w2.heap.size]? = some o ∧ S2 ≤ w2.heap.size ∧ Below S2 w1 (w2.alloc o) := by
  have h1 : Below S2 w1 w2 := by rw [← hS2]; exact ⟨b.os, b.tape, b.output, b.size, b.block⟩
  exact ⟨(MapKept.heap_alloc w2 o).1, by rw [← hS2]; exact b.size, h1.alloc (by rw [← hS2]; exact b.size) o⟩
theorem cutB {w1 wz w2 : World} {S2 : Nat} {z0 z1 : Value} (hz : wz.heap[S2]? = some (.cells #[z0, z1] 32)) (bz : Below S2 w1 wz) (b : Below wz.drew.heap.size wz.drew w2) (a c : Value) : ((w2.setCell ⟨S2, 0, none⟩ a).setCell ⟨S2, 1, none⟩ c).heap[S2]? = some (.cells #[a, c] 32) ∧ S2 ≤ S2 ∧ Below S2 w1 ((w2.setCell ⟨S2, 0, none⟩ a).setCell ⟨S2, 1, none⟩ c) := by
  have hl : S2 < wz.heap.size := (Array.getElem?_eq_some_iff.1 hz).1
  have h2 : w2.heap[S2]? = some (.cells #[z0, z1] 32) := (b.block S2 hl).trans hz
  have h1 : Below S2 w1 w2 := bz.trans ⟨b.os, b.tape, b.output, b.size, fun x hx => b.block x (Nat.lt_trans hx hl)⟩
  refine ⟨?_, Nat.le_refl _, ⟨h1.os, h1.tape, h1.output, ?_, fun x hx => ?_⟩⟩
  · unfold World.setCell; simp [Array.getElem?_modify, h2]
  · simpa [World.setCell] using h1.size
  · rw [Below.heap_setCell _ _ _ _ (show x ≠ S2 by omega), Below.heap_setCell _ _ _ _ (show x ≠ S2 by omega)]; exact h1.block x hx
theorem cutC (w : World) (o : Obj) : ((w.alloc o).drew).heap[w.heap.size]? = some o ∧ w.heap.size ≤ w.heap.size ∧ Below w.heap.size w (w.alloc o).drew :=
  ⟨(MapKept.heap_alloc w o).1, Nat.le_refl _, ((Below.refl _ _).alloc (Nat.le_refl _) o).drew⟩
theorem getL_hasK {L : List Pr} {k : KeyP} (h : hasK L k = false) : getL L k = 0 := by
  refine getL_none fun y hy e => ?_
  unfold hasK at h
  rw [List.any_eq_false] at h
  exact h y hy (by simp [e])
/-- while a keep is asked -/
structure KP (K : Nat → Nat) (w : World) (B β y p m r x most : Nat) (L D : List Pr) (A W : List As) (va vw : Value) (S0 : Nat) (o : OpP) (S1 : Nat) (k : KeyP) (A2 : Nat) (q : KeyP) : Prop where
  sd : SD K w B β y p m r x most L D A W va vw
  bo : TB K w (β + 10) S0 (opB o)
  bk : TB K w (β + 11) S1 (.cells #[.string k.s, .int .i64 k.n] 32)
  bq : TB K w (β + 12) A2 (.cells #[.string q.s, .int .i64 q.n] 32)
theorem KP.mv {T : Nat → Prop} {K K' : Nat → Nat} {w w' : World} {B β y p m r x most : Nat} {L D : List Pr} {A W : List As} {va vw : Value} {S0 S1 A2 : Nat} {o : OpP} {k q : KeyP} (h : KP K w B β y p m r x most L D A W va vw S0 o S1 k A2 q) (mv : Mv T w w' K K') (ht : ∀ t, T t → t = β + 13) : KP K' w' B β y p m r x most L D A W va vw S0 o S1 k A2 q :=
  have n : ∀ j, j < 13 → ¬ T (β + j) := fun j hj e => by have := ht _ e; omega
  ⟨h.sd.mv mv (n 0 (by omega)) (n 1 (by omega)) (n 2 (by omega)) (n 3 (by omega)) (n 4 (by omega)) (n 5 (by omega)), h.bo.mv mv (n 10 (by omega)), h.bk.mv mv (n 11 (by omega)), h.bq.mv mv (n 12 (by omega))⟩
section
variable {K : Nat → Nat} {w : World} {B β y p m r x most : Nat} {L D : List Pr} {A W : List As} {va vw : Value} {S0 S1 A2 : Nat} {o : OpP} {k q : KeyP}
theorem KP.y0 (h : KP K w B β y p m r x most L D A W va vw S0 o S1 k A2 q) : w.cell? ⟨y, 0, none⟩ = some (ptr p) := by unfold World.cell?; rw [h.sd.me.at_]; rfl
theorem KP.y1 (h : KP K w B β y p m r x most L D A W va vw S0 o S1 k A2 q) : w.cell? ⟨y, 1, none⟩ = some (ptr x) := by unfold World.cell?; rw [h.sd.me.at_]; rfl
theorem KP.y2 (h : KP K w B β y p m r x most L D A W va vw S0 o S1 k A2 q) : w.cell? ⟨y, 2, none⟩ = some va := by unfold World.cell?; rw [h.sd.me.at_]; rfl
theorem KP.y3 (h : KP K w B β y p m r x most L D A W va vw S0 o S1 k A2 q) : w.cell? ⟨y, 3, none⟩ = some vw := by unfold World.cell?; rw [h.sd.me.at_]; rfl
theorem KP.o5 (h : KP K w B β y p m r x most L D A W va vw S0 o S1 k A2 q) : w.cell? ⟨S0, 5, none⟩ = some (.int .i64 o.n) := by unfold World.cell?; rw [h.bo.at_]; rfl
theorem KP.k0 (h : KP K w B β y p m r x most L D A W va vw S0 o S1 k A2 q) : w.cell? ⟨S1, 0, none⟩ = some (.string k.s) := by unfold World.cell?; rw [h.bk.at_]; rfl
theorem KP.k1 (h : KP K w B β y p m r x most L D A W va vw S0 o S1 k A2 q) : w.cell? ⟨S1, 1, none⟩ = some (.int .i64 k.n) := by unfold World.cell?; rw [h.bk.at_]; rfl
theorem KP.q0 (h : KP K w B β y p m r x most L D A W va vw S0 o S1 k A2 q) : w.cell? ⟨A2, 0, none⟩ = some (.string q.s) := by unfold World.cell?; rw [h.bq.at_]; rfl
theorem KP.q1 (h : KP K w B β y p m r x most L D A W va vw S0 o S1 k A2 q) : w.cell? ⟨A2, 1, none⟩ = some (.int .i64 q.n) := by unfold World.cell?; rw [h.bq.at_]; rfl
theorem KP.fy (h : KP K w B β y p m r x most L D A W va vw S0 o S1 k A2 q) (n : Nat) : w.frozen? ⟨y, n, none⟩ = false := by unfold World.frozen?; rw [h.sd.me.at_]; rfl
theorem KP.asked (h : KP K w B β y p m r x most L D A W va vw S0 o S1 k A2 q) (hB : B ≤ w.heap.size) (a : As) (hl : A.length ≤ 1048576) :
    ∃ oa' c' w' K', (∀ r, (Builtin.append_ #[37, 37] r #[va, .slice (some ⟨w.heap.size, 0, none⟩) 1 1]).run Try.prog ((w.alloc (.cells #[.string a.k.s, .int .i64 a.k.n, .int .i64 a.v, .int .i64 a.len, .int .i64 a.there] 165)).drew) = .ok (.slice oa' (A.length + 1) c') w') ∧
      w'.cell? ⟨y, 2, none⟩ = some va ∧ w'.frozen? ⟨y, 2, none⟩ = false ∧ KP K' (w'.setCell ⟨y, 2, none⟩ (.slice oa' (A.length + 1) c')) B β y p m r x most L D (A ++ [a]) W (.slice oa' (A.length + 1) c') vw S0 o S1 k A2 q ∧ Mv (TK β) w (w'.setCell ⟨y, 2, none⟩ (.slice oa' (A.length + 1) c')) K K' := by
  have m1 : Mv (fun _ => False) w ((w.alloc (.cells #[.string a.k.s, .int .i64 a.k.n, .int .i64 a.v, .int .i64 a.len, .int .i64 a.there] 165)).drew) K (ext w K (fun _ => β + 13)) := (Mv.alloc w K (fun _ => β + 13) _).trans (Mv.drew _ _ _)
  have h1 := h.mv m1 (fun _ h => h.elim)
  obtain ⟨i, hi, hz, hs, hby⟩ := info165
  obtain ⟨v', w', K', q1, q2, q3⟩ := RW.app (ty := 37) Try.underlying37 hi hz hs hby rfl (by omega) asL asO h1.sd.ask (Nat.le_trans hB m1.size) (N := w.heap.size) (x := a) (cs := #[.string a.k.s, .int .i64 a.k.n, .int .i64 a.v, .int .i64 a.len, .int .i64 a.there]) rfl (MapKept.heap_alloc w _).1 (by omega) (by omega)
  obtain ⟨oa', c', e, _, _⟩ := q2.form
  rw [List.length_append, List.length_singleton] at e
  have hm := h1.sd.me.mv q3 (by omega)
  have n0 : ∀ j, j ≠ 1 → ¬ (fun x => x = β + 1) (β + j) := fun j hj e => by simp only at e; omega
  refine ⟨oa', c', w', K', by rw [← e]; exact q1, ?_, ?_, ?_⟩
  · unfold World.cell?; rw [hm.at_]; rfl
  · unfold World.frozen?; rw [hm.at_]; rfl
  · rw [← e]
    have m3 := Mv.of_set w' K' ⟨y, 2, none⟩ v' hm.k
    have n3 : ∀ j, j ≠ 0 → ¬ (fun x => x = β) (β + j) := fun j hj e => by simp only at e; omega
    have mm := q3.mono (T' := fun x => x = β + 1 ∨ x = β) (fun _ h => .inl h)
    have m33 := mm.trans (m3.mono (fun _ h => .inr h))
    have nn : ∀ j, j ≠ 0 → j ≠ 1 → ¬ (fun x => x = β + 1 ∨ x = β) (β + j) := fun j h0 h1 e => by simp only at e; omega
    refine ⟨⟨⟨⟨?_, hm.k⟩, q2.mv m3 (n3 1 (by omega)), h1.sd.was.mv m33 (nn 2 (by omega) (by omega)), h1.sd.sh.elim fun Lt q => ⟨Lt, q.1, q.2.mv m33 (nn 3 (by omega) (by omega))⟩, h1.sd.ds.elim fun vd q => ⟨vd, q.mv m33 (nn 4 (by omega) (by omega)) (nn 5 (by omega) (by omega))⟩⟩, h1.bo.mv m33 (nn 10 (by omega) (by omega)), h1.bk.mv m33 (nn 11 (by omega) (by omega)), h1.bq.mv m33 (nn 12 (by omega) (by omega))⟩, (m1.mono (fun _ h => h.elim)).trans (m33.mono (fun _ h => h.elim (fun e => .inr (.inl e)) (fun e => .inl e)))⟩
    unfold World.setCell; simp [Array.getElem?_modify, hm.at_]
theorem KP.shelf {T : Nat → Prop} {K' : Nat → Nat} {w' : World} {L' : List Pr} (h : KP K w B β y p m r x most L D A W va vw S0 o S1 k A2 q) (mv : Mv T w w' K K') (ht : ∀ t, T t → t = β + 3 ∨ t = β + 6 ∨ t = β + 7) (hs : ∃ Lt, prs Lt = L' ∧ TS kdK K' w' (β + 3) p most m r Lt) : KP K' w' B β y p m r x most L' D A W va vw S0 o S1 k A2 q :=
  have n : ∀ j, j ≠ 3 → j ≠ 6 → j ≠ 7 → ¬ T (β + j) := fun j h3 h6 h7 e => by have := ht _ e; omega
  ⟨⟨h.sd.me.mv mv (n 0 (by omega) (by omega) (by omega)), h.sd.ask.mv mv (n 1 (by omega) (by omega) (by omega)), h.sd.was.mv mv (n 2 (by omega) (by omega) (by omega)), hs, h.sd.ds.elim fun vd q => ⟨vd, q.mv mv (n 4 (by omega) (by omega) (by omega)) (n 5 (by omega) (by omega) (by omega))⟩⟩, h.bo.mv mv (n 10 (by omega) (by omega) (by omega)), h.bk.mv mv (n 11 (by omega) (by omega) (by omega)), h.bq.mv mv (n 12 (by omega) (by omega) (by omega))⟩
end
end Go.Proofs.Ytkkamilmjaochaa
