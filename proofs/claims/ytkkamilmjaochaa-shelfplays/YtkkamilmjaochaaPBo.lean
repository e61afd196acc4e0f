/- ShelfPlays: would: lemmas. -/
import Derived.Test.YtkkamilmjaochaaPBn
namespace Go.Proofs.Ytkkamilmjaochaa
open Go.RowKit
def TW (β : Nat) : Nat → Prop := fun y => y = β ∨ y = β + 2 ∨ y = β + 4 ∨ y = β + 5 ∨ y = β + 7 ∨ y = β + 13
section
variable {K : Nat → Nat} {w : World} {B β y p m r x most : Nat} {L D : List Pr} {A W : List As} {va vw : Value} {S0 S1 A2 : Nat} {o : OpP} {k q : KeyP}
theorem KP.wased (h : KP K w B β y p m r x most L D A W va vw S0 o S1 k A2 q) (hB : B ≤ w.heap.size) (a : As) (hl : W.length ≤ 1048576) :
    ∃ oa' c' w' K', (∀ r, (Builtin.append_ #[37, 37] r #[vw, .slice (some ⟨w.heap.size, 0, none⟩) 1 1]).run Try.prog ((w.alloc (.cells #[.string a.k.s, .int .i64 a.k.n, .int .i64 a.v, .int .i64 a.len, .int .i64 a.there] 165)).drew) = .ok (.slice oa' (W.length + 1) c') w') ∧
      w'.cell? ⟨y, 3, none⟩ = some vw ∧ w'.frozen? ⟨y, 3, none⟩ = false ∧ KP K' (w'.setCell ⟨y, 3, none⟩ (.slice oa' (W.length + 1) c')) B β y p m r x most L D A (W ++ [a]) va (.slice oa' (W.length + 1) c') S0 o S1 k A2 q ∧ Mv (TW β) w (w'.setCell ⟨y, 3, none⟩ (.slice oa' (W.length + 1) c')) K K' := by
  have m1 : Mv (fun _ => False) w ((w.alloc (.cells #[.string a.k.s, .int .i64 a.k.n, .int .i64 a.v, .int .i64 a.len, .int .i64 a.there] 165)).drew) K (ext w K (fun _ => β + 13)) := (Mv.alloc w K (fun _ => β + 13) _).trans (Mv.drew _ _ _)
  have h1 := h.mv m1 (fun _ h => h.elim)
  obtain ⟨i, hi, hz, hs, hby⟩ := info165
  obtain ⟨v', w', K', q1, q2, q3⟩ := RW.app (ty := 37) Try.underlying37 hi hz hs hby rfl (by omega) asL asO h1.sd.was (Nat.le_trans hB m1.size) (N := w.heap.size) (x := a) (cs := #[.string a.k.s, .int .i64 a.k.n, .int .i64 a.v, .int .i64 a.len, .int .i64 a.there]) rfl (MapKept.heap_alloc w _).1 (by omega) (by omega)
  obtain ⟨oa', c', e, _, _⟩ := q2.form
  rw [List.length_append, List.length_singleton] at e
  have hm := h1.sd.me.mv q3 (by omega)
  refine ⟨oa', c', w', K', by rw [← e]; exact q1, ?_, ?_, ?_⟩
  · unfold World.cell?; rw [hm.at_]; rfl
  · unfold World.frozen?; rw [hm.at_]; rfl
  · rw [← e]
    have m3 := Mv.of_set w' K' ⟨y, 3, none⟩ v' hm.k
    have n3 : ∀ j, j ≠ 0 → ¬ (fun x => x = β) (β + j) := fun j hj e => by simp only at e; omega
    have mm := q3.mono (T' := fun x => x = β + 2 ∨ x = β) (fun _ h => .inl h)
    have m33 := mm.trans (m3.mono (fun _ h => .inr h))
    have nn : ∀ j, j ≠ 0 → j ≠ 2 → ¬ (fun x => x = β + 2 ∨ x = β) (β + j) := fun j h0 h1 e => by simp only at e; omega
    refine ⟨⟨⟨⟨?_, hm.k⟩, h1.sd.ask.mv m33 (nn 1 (by omega) (by omega)), q2.mv m3 (n3 2 (by omega)), h1.sd.sh.elim fun Lt q => ⟨Lt, q.1, q.2.mv m33 (nn 3 (by omega) (by omega))⟩, h1.sd.ds.elim fun vd q => ⟨vd, q.mv m33 (nn 4 (by omega) (by omega)) (nn 5 (by omega) (by omega))⟩⟩, h1.bo.mv m33 (nn 10 (by omega) (by omega)), h1.bk.mv m33 (nn 11 (by omega) (by omega)), h1.bq.mv m33 (nn 12 (by omega) (by omega))⟩, (m1.mono (fun _ h => h.elim)).trans (m33.mono (fun _ h => h.elim (fun e => .inr (.inl e)) (fun e => .inl e)))⟩
    unfold World.setCell; simp [Array.getElem?_modify, hm.at_]
theorem KP.dshelf {T : Nat → Prop} {K' : Nat → Nat} {w' : World} {D' : List Pr} (h : KP K w B β y p m r x most L D A W va vw S0 o S1 k A2 q) (mv : Mv T w w' K K') (ht : ∀ t, T t → t = β + 4 ∨ t = β + 5 ∨ t = β + 7) (hs : ∃ vd, DS K' w' B (β + 4) x most vd D') : KP K' w' B β y p m r x most L D' A W va vw S0 o S1 k A2 q :=
  have n : ∀ j, j ≠ 4 → j ≠ 5 → j ≠ 7 → ¬ T (β + j) := fun j h3 h6 h7 e => by have := ht _ e; omega
  ⟨⟨h.sd.me.mv mv (n 0 (by omega) (by omega) (by omega)), h.sd.ask.mv mv (n 1 (by omega) (by omega) (by omega)), h.sd.was.mv mv (n 2 (by omega) (by omega) (by omega)), h.sd.sh.elim fun Lt q => ⟨Lt, q.1, q.2.mv mv (n 3 (by omega) (by omega) (by omega))⟩, hs⟩, h.bo.mv mv (n 10 (by omega) (by omega) (by omega)), h.bk.mv mv (n 11 (by omega) (by omega) (by omega)), h.bq.mv mv (n 12 (by omega) (by omega) (by omega))⟩
end
end Go.Proofs.Ytkkamilmjaochaa
