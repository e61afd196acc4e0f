/- ShelfPlays: prunes: lemmas. -/
import Derived.Test.YtkkamilmjaochaaPBs
import Derived.Test.YtkkamilmjaochaaPBp
namespace Go.Proofs.Ytkkamilmjaochaa
open Go.RowKit
def TQ (β : Nat) : Nat → Prop := fun t => β ≤ t ∧ t ≤ β + 15
def pruL (most : Nat) (o : OpP) (L : List Pr) : List Pr := takesL (stL most o.m L L L.length) (goneL o.n L)
def wasJ (o : OpP) (L : List Pr) (j : Nat) : List KeyP := goneJ (ansJ o.n L) (L.map Pr.k) j
theorem wasJ_succ (o : OpP) (L : List Pr) {j : Nat} {z : Pr} (hz : L[j]? = some z) : wasJ o L (j + 1) = wasJ o L j ++ (if ansJ o.n L j then [] else [z.k]) := by
  show goneJ _ _ j ++ (if ansJ o.n L j then [] else ((L.map Pr.k)[j]?).toList) = _
  rw [List.getElem?_map, hz]
  rfl
theorem wasJ_len (o : OpP) (L : List Pr) : ∀ j, (wasJ o L j).length ≤ j
  | 0 => Nat.le_refl _
  | j + 1 => by
    show (goneJ _ _ j ++ (if ansJ o.n L j then [] else ((L.map Pr.k)[j]?).toList)).length ≤ _
    have := wasJ_len o L j
    unfold wasJ at this
    rw [List.length_append]
    have : (if ansJ o.n L j then [] else ((L.map Pr.k)[j]?).toList).length ≤ 1 := by
      split
      · simp
      · cases (L.map Pr.k)[j]? <;> simp
    omega
section
variable {K : Nat → Nat} {w : World} {B β y p m r x most : Nat} {L D : List Pr} {A W : List As} {va vw : Value}
theorem SD.y0 (h : SD K w B β y p m r x most L D A W va vw) : w.cell? ⟨y, 0, none⟩ = some (ptr p) := by unfold World.cell?; rw [h.me.at_]; rfl
theorem SD.y1 (h : SD K w B β y p m r x most L D A W va vw) : w.cell? ⟨y, 1, none⟩ = some (ptr x) := by unfold World.cell?; rw [h.me.at_]; rfl
theorem SD.y2 (h : SD K w B β y p m r x most L D A W va vw) : w.cell? ⟨y, 2, none⟩ = some va := by unfold World.cell?; rw [h.me.at_]; rfl
theorem SD.y3 (h : SD K w B β y p m r x most L D A W va vw) : w.cell? ⟨y, 3, none⟩ = some vw := by unfold World.cell?; rw [h.me.at_]; rfl
theorem SD.fy (h : SD K w B β y p m r x most L D A W va vw) (n : Nat) : w.frozen? ⟨y, n, none⟩ = false := by unfold World.frozen?; rw [h.me.at_]; rfl
theorem SD.nilA (h : SD K w B β y p m r x most L D A W va vw) : SD K (w.setCell ⟨y, 2, none⟩ (.slice none 0 0)) B β y p m r x most L D [] W (.slice none 0 0) vw ∧ Mv (fun t => t = β) w (w.setCell ⟨y, 2, none⟩ (.slice none 0 0)) K K := by
  have m3 := Mv.of_set w K ⟨y, 2, none⟩ (.slice none 0 0) h.me.k
  have n3 : ∀ j, j ≠ 0 → ¬ (fun x => x = β) (β + j) := fun j hj e => by simp only at e; omega
  refine ⟨⟨⟨?_, h.me.k⟩, RW.nil _ _ _ _ _ _ _, h.was.mv m3 (n3 2 (by omega)), h.sh.elim fun Lt q => ⟨Lt, q.1, q.2.mv m3 (n3 3 (by omega))⟩, h.ds.elim fun vd q => ⟨vd, q.mv m3 (n3 4 (by omega)) (n3 5 (by omega))⟩⟩, m3⟩
  unfold World.setCell; simp [Array.getElem?_modify, h.me.at_]
theorem SD.nilW (h : SD K w B β y p m r x most L D A W va vw) : SD K (w.setCell ⟨y, 3, none⟩ (.slice none 0 0)) B β y p m r x most L D A [] va (.slice none 0 0) ∧ Mv (fun t => t = β) w (w.setCell ⟨y, 3, none⟩ (.slice none 0 0)) K K := by
  have m3 := Mv.of_set w K ⟨y, 3, none⟩ (.slice none 0 0) h.me.k
  have n3 : ∀ j, j ≠ 0 → ¬ (fun x => x = β) (β + j) := fun j hj e => by simp only at e; omega
  refine ⟨⟨⟨?_, h.me.k⟩, h.ask.mv m3 (n3 1 (by omega)), RW.nil _ _ _ _ _ _ _, h.sh.elim fun Lt q => ⟨Lt, q.1, q.2.mv m3 (n3 3 (by omega))⟩, h.ds.elim fun vd q => ⟨vd, q.mv m3 (n3 4 (by omega)) (n3 5 (by omega))⟩⟩, m3⟩
  unfold World.setCell; simp [Array.getElem?_modify, h.me.at_]
theorem SD.docs {T : Nat → Prop} {K' : Nat → Nat} {w' : World} {D' : List Pr} (h : SD K w B β y p m r x most L D A W va vw) (mv : Mv T w w' K K') (ht : ∀ t, T t → t = β + 4 ∨ t = β + 5) (hs : ∃ vd, DS K' w' B (β + 4) x most vd D') : SD K' w' B β y p m r x most L D' A W va vw :=
  have n : ∀ j, j ≠ 4 → j ≠ 5 → ¬ T (β + j) := fun j h3 h4 e => by have := ht _ e; omega
  ⟨h.me.mv mv (n 0 (by omega) (by omega)), h.ask.mv mv (n 1 (by omega) (by omega)), h.was.mv mv (n 2 (by omega) (by omega)), h.sh.elim fun Lt q => ⟨Lt, q.1, q.2.mv mv (n 3 (by omega) (by omega))⟩, hs⟩
end
/-- while the document's Prune goes on: j asked, of i it is known whether they are gone -/
structure PL (K0 : Nat → Nat) (w0 : World) (K : Nat → Nat) (w : World) (B β y p m r x most : Nat) (L1 L : List Pr) (A : List As) (va : Value) (a b : Nat) (o : OpP) (Bl : Nat) (vl : Value) (j i : Nat) (vg : Value) : Prop where
  sd : ∃ vw, SD K w B β y p m r x most L1 (stL most o.m L L j) A (stA most o.m L L j) va vw
  ba : TB K w (β + 14) a (.cells #[ptr y] 36)
  bb : TB K w (β + 15) b (opB o)
  l : RW 159 3 prC K w Bl (β + 8) vl L
  g : RW 32 2 kcK K w Bl (β + 9) vg (wasJ o L i)
  hB : B ≤ w.heap.size ∧ Bl ≤ w.heap.size
  mv : Mv (TQ β) w0 w K0 K
section
variable {K0 K : Nat → Nat} {w0 w : World} {B β y p m r x most : Nat} {L1 L : List Pr} {A : List As} {va : Value} {a b : Nat} {o : OpP} {Bl : Nat} {vl : Value} {j i : Nat} {vg : Value}
theorem PL.to {T : Nat → Prop} {K' : Nat → Nat} {w' : World} (h : PL K0 w0 K w B β y p m r x most L1 L A va a b o Bl vl j i vg) (mv : Mv T w w' K K') (ht : ∀ t, ¬ T t) : PL K0 w0 K' w' B β y p m r x most L1 L A va a b o Bl vl j i vg :=
  ⟨h.sd.elim fun vw q => ⟨vw, q.mv mv (ht _) (ht _) (ht _) (ht _) (ht _) (ht _)⟩, h.ba.mv mv (ht _), h.bb.mv mv (ht _), h.l.mv mv (ht _), h.g.mv mv (ht _), ⟨Nat.le_trans h.hB.1 mv.size, Nat.le_trans h.hB.2 mv.size⟩, h.mv.trans (mv.mono (fun t h => (ht t h).elim))⟩
theorem PL.a0 (h : PL K0 w0 K w B β y p m r x most L1 L A va a b o Bl vl j i vg) : w.cell? ⟨a, 0, none⟩ = some (ptr y) := by unfold World.cell?; rw [h.ba.at_]; rfl
theorem PL.bc (h : PL K0 w0 K w B β y p m r x most L1 L A va a b o Bl vl j i vg) : (w.cell? ⟨b, 0, none⟩ = some (.int .i64 o.kd) ∧ w.cell? ⟨b, 1, none⟩ = some (.int .i64 o.on) ∧ w.cell? ⟨b, 2, none⟩ = some (.string o.k.s)) ∧ (w.cell? ⟨b, 3, none⟩ = some (.int .i64 o.k.n) ∧ w.cell? ⟨b, 4, none⟩ = some (.int .i64 o.v) ∧ w.cell? ⟨b, 5, none⟩ = some (.int .i64 o.n)) ∧ w.cell? ⟨b, 6, none⟩ = some (.int .i64 o.m) := by
  unfold World.cell?; rw [h.bb.at_]; exact ⟨⟨rfl, rfl, rfl⟩, ⟨rfl, rfl, rfl⟩, rfl⟩
theorem PL.held {gl n capl : Nat} (h : PL K0 w0 K w B β y p m r x most L1 L A va a b o Bl (.slice (some ⟨gl, 0, none⟩) n capl) j i vg) (hn : L.length = n) {q : Nat} {z : Pr} (hz : L[q]? = some z) :
    w.cell? ⟨a, 0, none⟩ = some (ptr y) ∧ w.cell? ⟨b, 0, none⟩ = some (.int .i64 o.kd) ∧ w.cell? ⟨b, 1, none⟩ = some (.int .i64 o.on) ∧ w.cell? ⟨b, 2, none⟩ = some (.string o.k.s) ∧ w.cell? ⟨b, 3, none⟩ = some (.int .i64 o.k.n) ∧ w.cell? ⟨b, 4, none⟩ = some (.int .i64 o.v) ∧ w.cell? ⟨b, 5, none⟩ = some (.int .i64 o.n) ∧ w.cell? ⟨b, 6, none⟩ = some (.int .i64 o.m) ∧ w.cell? ⟨gl, q * 3, none⟩ = some (.string z.k.s) ∧ w.cell? ⟨gl, q * 3 + 1, none⟩ = some (.int .i64 z.k.n) ∧ w.cell? ⟨gl, q * 3 + 2, none⟩ = some (.int .i64 z.v) := by
  obtain ⟨⟨b0, b1, b2⟩, ⟨b3, b4, b5⟩, b6⟩ := h.bc
  exact ⟨h.a0, b0, b1, b2, b3, b4, b5, b6, h.l.cell prL hn hz 0 (by omega), h.l.cell prL hn hz 1 (by omega), h.l.cell prL hn hz 2 (by omega)⟩
/-- one is asked -/
theorem PL.ask (h : PL K0 w0 K w B β y p m r x most L1 L A va a b o Bl vl j i vg) (ho : I64 o.m ∧ I64 o.n) (hV : VOk L) (hND : ND L) (hl : L.length ≤ most) (hm : most ≤ 1048576) {z : Pr} (hz : L[j]? = some z) :
    Calls Try.prog 64 #[ptr y, opV o, keyV z.k, .int .i64 z.v] w fun e w' => e = .returned (.bool (ansJ o.n L j)) ∧ ∃ K', PL K0 w0 K' w' B β y p m r x most L1 L A va a b o Bl vl (j + 1) i vg := by
  obtain ⟨vw, sd⟩ := h.sd
  have hj : j < L.length := (List.getElem?_eq_some_iff.1 hz).1
  have hln := stA_len (most := most) (m := o.m) (l := L) (L0 := L) j (by omega)
  refine (would_any sd h.hB.1 o ho z.k z.v (hV z (List.mem_of_getElem? hz)) (stL_v hV j) (by omega) (stL_nd hND j) (stL_len hl j) hm).mono ?_
  rintro _ w' ⟨rfl, K', vw', s, mv⟩
  rw [hln] at s ⊢
  have n : ∀ q, q = 8 ∨ q = 9 ∨ q = 14 ∨ q = 15 → ¬ TW β (β + q) := fun q h e => by unfold TW at e; omega
  refine ⟨by unfold ansJ; rw [hz], K', ⟨vw', ?_⟩, h.ba.mv mv (n 14 (by omega)), h.bb.mv mv (n 15 (by omega)), h.l.mv mv (n 8 (by omega)), h.g.mv mv (n 9 (by omega)), ⟨Nat.le_trans h.hB.1 mv.size, Nat.le_trans h.hB.2 mv.size⟩, h.mv.trans (mv.mono (fun t h => by unfold TW at h; unfold TQ; omega))⟩
  rw [stL_succ hz, stA_succ hz]
  exact s
/-- one is gone -/
theorem PL.gone (h : PL K0 w0 K w B β y p m r x most L1 L A va a b o Bl vl (j + 1) j vg) {z : Pr} (hz : L[j]? = some z) (ha : ansJ o.n L j = false) (hl : j ≤ 1048576) {w1 : World} (hw : w.alloc (.cells #[.string z.k.s, .int .i64 z.k.n] 32) = w1) :
    ∃ oa c w2 K2, (∀ r, (Builtin.append_ #[109, 109] r #[vg, .slice (some ⟨w.heap.size, 0, none⟩) 1 1]).run Try.prog w1 = .ok (.slice oa (wasJ o L (j + 1)).length c) w2) ∧ PL K0 w0 K2 w2 B β y p m r x most L1 L A va a b o Bl vl (j + 1) (j + 1) (.slice oa (wasJ o L (j + 1)).length c) := by
  have m1 : Mv (fun _ => False) w w1 K (ext w K (fun _ => β + 13)) := by rw [← hw]; exact Mv.alloc _ _ _ _
  have h1 := h.to m1 (fun _ => id)
  obtain ⟨i, hi, hz0, hs, hby⟩ := kinfoK
  have hwl := wasJ_len o L j
  obtain ⟨v', w', K', q1, q2, q3⟩ := RW.app (ty := 109) Try.underlying109 hi hz0 hs hby rfl (by omega) kcL (fun k u hu => kcsK_one [k] u (by simpa [kcsK] using hu)) h1.g h1.hB.2 (N := w.heap.size) (x := z.k) (cs := #[.string z.k.s, .int .i64 z.k.n]) rfl (by rw [← hw]; exact (MapKept.heap_alloc w _).1) (by omega) (by omega)
  have e1 : wasJ o L (j + 1) = wasJ o L j ++ [z.k] := by rw [wasJ_succ o L hz, ha]; rfl
  rw [← e1] at q2
  obtain ⟨oa, c, e, _, _⟩ := q2.form
  subst e
  have n : ∀ q, q ≠ 9 → ¬ (fun t => t = β + 9) (β + q) := fun q h e => by simp only at e; omega
  exact ⟨oa, c, w', K', q1, h1.sd.elim fun vw q => ⟨vw, q.mv q3 (n 0 (by omega)) (n 1 (by omega)) (n 2 (by omega)) (n 3 (by omega)) (n 4 (by omega)) (n 5 (by omega))⟩, h1.ba.mv q3 (n 14 (by omega)), h1.bb.mv q3 (n 15 (by omega)), h1.l.mv q3 (n 8 (by omega)), q2, ⟨Nat.le_trans h1.hB.1 q3.size, Nat.le_trans h1.hB.2 q3.size⟩, h1.mv.trans (q3.mono (fun t h => by unfold TQ; omega))⟩
theorem PL.stays (h : PL K0 w0 K w B β y p m r x most L1 L A va a b o Bl vl (j + 1) j vg) {z : Pr} (hz : L[j]? = some z) (ha : ansJ o.n L j = true) : PL K0 w0 K w B β y p m r x most L1 L A va a b o Bl vl (j + 1) (j + 1) vg := by
  have e1 : wasJ o L (j + 1) = wasJ o L j := by rw [wasJ_succ o L hz, ha]; simp
  exact ⟨h.sd, h.ba, h.bb, h.l, by rw [e1]; exact h.g, h.hB, h.mv⟩
end
end Go.Proofs.Ytkkamilmjaochaa
