/- The client: finish. The client: Tick. The client: Due. The client: which call a reply is for (slices.IndexFunc with Hear's closure). -/
import Derived.Test.YtfcbjcebkahehaaGreatDoorZbo
import Derived.Test.YtfcbjcebkahehaaGreatDoorJm
namespace Go.Proofs.YtfcbjcebkahehaaGreatDoor.Cl
open Go.RowKit
section
variable {K K' : Nat → Nat} {w w' : World} {B t p : Nat} {c : Cf} {oa : Option Addr} {cap : Nat} {next now : Int} {L : List Wt} {D : List Oc} {vw vd : Value} {q : Mq}
theorem bls75 (v0 v1 v2 v3 v4 v5 v6 v8 : Int) (s : ByteArray) (w : World) : (Instr.buildSlice 75 1 #[(0, .agg #[.int .i64 v0, .int .i64 v1, .int .i64 v2, .int .i64 v3, .int .i64 v4, .int .i64 v5, .int .i64 v6, .string s, .int .i64 v8])]).run Tryz.prog w = .ok (.slice (some ⟨w.heap.size, 0, none⟩) 1 1) (w.alloc (.cells #[.int .i64 v0, .int .i64 v1, .int .i64 v2, .int .i64 v3, .int .i64 v4, .int .i64 v5, .int .i64 v6, .string s, .int .i64 v8] 80)) := by kernel_rfl
set_option maxRecDepth 8000 in
set_option maxHeartbeats 8000000 in
theorem PC.finish_any {L1 L2 : List Wt} {x : Wt} (h : PC K w B t p c oa cap next now (L1 ++ x :: L2) D vw vd q) (o : Oc) (hl : D.length ≤ 100000000) (hL : L1.length ≤ 100000000) :
    Calls Tryz.prog 58 #[ptr p, .int .i64 (L1.length : Int), .agg (ocC o).toArray] w fun e w' => (∃ v, e = .returned v) ∧ Hid (∃ K' vw' vd', PC K' w' B t p c oa cap next now (L1 ++ L2) (D ++ [{ o with seq := x.seq, at_ := now }]) vw' vd' q ∧ Mv (fun u => u = t ∨ u = t + 1 ∨ u = t + 2) w w' K K') := by
  obtain ⟨s0, st, acc, rej, why, low, high, res, at0⟩ := o
  show Calls Tryz.prog 58 #[ptr p, .int .i64 (L1.length : Int), .agg #[.int .i64 s0, .int .i64 st, .int .i64 acc, .int .i64 rej, .int .i64 why, .int .i64 low, .int .i64 high, .string ⟨res.toArray⟩, .int .i64 at0]] w fun e w' => (∃ v, e = .returned v) ∧ Hid (∃ K' vw' vd', PC K' w' B t p c oa cap next now (L1 ++ L2) (D ++ [⟨x.seq, st, acc, rej, why, low, high, res, now⟩]) vw' vd' q ∧ Mv (fun u => u = t ∨ u = t + 1 ∨ u = t + 2) w w' K K')
  obtain ⟨S, hS⟩ : ∃ y, w.heap.size = y := ⟨_, rfl⟩
  obtain ⟨w1, hw1⟩ : ∃ y, w.alloc (.cells #[.int .i64 s0, .int .i64 st, .int .i64 acc, .int .i64 rej, .int .i64 why, .int .i64 low, .int .i64 high, .string ⟨res.toArray⟩, .int .i64 at0] 80) = y := ⟨_, rfl⟩
  have hB1 : Below w.heap.size w w1 := by rw [← hw1]; exact (Below.refl _ _).alloc (Nat.le_refl _) _
  have P1 := h.below hB1 (fun _ => t + 7)
  have m1 := Mv.of_below hB1 K (fun _ => t + 7)
  have k1 : w1.heap[S]? = some (.cells #[.int .i64 s0, .int .i64 st, .int .i64 acc, .int .i64 rej, .int .i64 why, .int .i64 low, .int .i64 high, .string ⟨res.toArray⟩, .int .i64 at0] 80) := by rw [← hw1, ← hS]; exact (MapKept.heap_alloc w _).1
  have hKS : ext w K (fun _ => t + 7) S = t + 7 := ext_new (Nat.le_of_eq hS)
  generalize ext w K (fun _ => t + 7) = K1 at P1 m1 hKS
  obtain ⟨o14, c14, e14, _, hg⟩ := P1.wr.form
  obtain ⟨g, rfl⟩ := hg (by simp; omega)
  obtain ⟨n, hn⟩ : ∃ n, ((L1 ++ x :: L2).map Wt.b).length = n := ⟨_, rfl⟩
  rw [hn] at e14
  subst e14
  obtain ⟨a, ha⟩ : ∃ a, L1.length = a := ⟨_, rfl⟩
  have han : a < n := by rw [← hn, ← ha]; simp
  obtain ⟨o15, c15, e15, _, _⟩ := P1.dn.form
  obtain ⟨d, hd⟩ : ∃ d, D.length = d := ⟨_, rfl⟩
  rw [hd] at e15
  subst e15
  have hx0 : w1.cell? ⟨g, a, none⟩ = some (ptr x.b) := by
    have := P1.wr.cell ptrL hn (j := a) (x := x.b) (by rw [← ha]; simp) 0 (by omega)
    simpa [ptrC] using this
  have hx1 : w1.cell? ⟨x.b, 0, none⟩ = some (.int .i64 x.seq) := cell_at (P1.cs x (by simp)).me.at_ rfl
  have s0' : w1.drew.cell? ⟨p, 14, none⟩ = some (.slice (some ⟨g, 0, none⟩) n c14) ∧ w1.drew.cell? ⟨p, 13, none⟩ = some (.int .i64 now) ∧ w1.drew.cell? ⟨g, a, none⟩ = some (ptr x.b) ∧ w1.drew.cell? ⟨x.b, 0, none⟩ = some (.int .i64 x.seq) := ⟨P1.ce (k := 14) rfl, P1.ce (k := 13) rfl, hx0, hx1⟩
  have nS : ∀ {u b : Nat} {ob : Obj}, TB K1 w1 u b ob → u < t + 7 → b ≠ S := fun hb hu e => by have := hb.k; rw [e, hKS] at this; omega
  have hgS : g ≠ S := fun e => by have := P1.wr.k g rfl; rw [e, hKS] at this; omega
  have hpS : p ≠ S := nS P1.cl (by omega)
  have hbS : x.b ≠ S := nS (P1.cs x (by simp)).me (by omega)
  obtain ⟨wA, hwA⟩ : ∃ y, w1.drew.setCell ⟨S, 0, none⟩ (.int .i64 x.seq) = y := ⟨_, rfl⟩
  have kA : wA.heap[S]? = some (.cells #[.int .i64 x.seq, .int .i64 st, .int .i64 acc, .int .i64 rej, .int .i64 why, .int .i64 low, .int .i64 high, .string ⟨res.toArray⟩, .int .i64 at0] 80) := by rw [← hwA]; exact set_at (w := w1.drew) k1 0 _
  have sA : wA.cell? ⟨p, 14, none⟩ = some (.slice (some ⟨g, 0, none⟩) n c14) ∧ wA.cell? ⟨p, 13, none⟩ = some (.int .i64 now) ∧ wA.cell? ⟨g, a, none⟩ = some (ptr x.b) ∧ wA.cell? ⟨x.b, 0, none⟩ = some (.int .i64 x.seq) := by
    rw [← hwA]
    exact ⟨(World.cell?_of_block (a := ⟨p, 14, none⟩) (Below.heap_setCell _ _ _ _ hpS)).trans s0'.1, (World.cell?_of_block (a := ⟨p, 13, none⟩) (Below.heap_setCell _ _ _ _ hpS)).trans s0'.2.1, (World.cell?_of_block (a := ⟨g, a, none⟩) (Below.heap_setCell _ _ _ _ hgS)).trans s0'.2.2.1, (World.cell?_of_block (a := ⟨x.b, 0, none⟩) (Below.heap_setCell _ _ _ _ hbS)).trans s0'.2.2.2⟩
  obtain ⟨wB, hwB⟩ : ∃ y, wA.setCell ⟨S, 8, none⟩ (.int .i64 now) = y := ⟨_, rfl⟩
  have kB : wB.heap[S]? = some (.cells #[.int .i64 x.seq, .int .i64 st, .int .i64 acc, .int .i64 rej, .int .i64 why, .int .i64 low, .int .i64 high, .string ⟨res.toArray⟩, .int .i64 now] 80) := by rw [← hwB]; exact set_at kA 8 _
  have mB : Mv (fun u => u = t + 7) w1 wB K1 K1 := by
    rw [← hwB, ← hwA]
    exact ((Mv.drew _ w1 K1).trans (Mv.of_set _ K1 ⟨S, 0, none⟩ _ hKS)).trans (Mv.of_set _ K1 ⟨S, 8, none⟩ _ hKS)
  have PB := P1.to mB (fun t' e => by omega)
  have y0 : w1.drew.cell? ⟨S, 0, none⟩ = some (.int .i64 s0) := cell_at (w := w1.drew) k1 rfl
  have y1 : wA.cell? ⟨S, 8, none⟩ = some (.int .i64 at0) := cell_at kA rfl
  have f0 : w1.drew.frozen? ⟨S, 0, none⟩ = false := frozen_at (w := w1.drew) k1 0
  have f1 : wA.frozen? ⟨S, 8, none⟩ = false := frozen_at kA 8
  have z14 : wB.cell? ⟨p, 14, none⟩ = some (.slice (some ⟨g, 0, none⟩) n c14) := PB.ce (k := 14) rfl
  have HD : Hid (Calls Tryz.prog 96 #[.slice (some ⟨g, 0, none⟩) n c14, .int .i64 (a : Int), .int .i64 ((a : Int) + 1)] wB fun e w' => e = .returned (.slice (some ⟨g, 0, none⟩) (n - 1) c14) ∧ Hid (RW 109 1 ptrC K1 w' B (t + 1) (.slice (some ⟨g, 0, none⟩) (n - 1) c14) ((L1 ++ L2).map Wt.b) ∧ Mv (fun u => u = t + 1) wB w' K1 K1)) := by
    have hr := PB.wr
    rw [List.map_append, List.map_cons] at hr
    have := RW.del hr (by rw [← hn]; simp)
    rw [List.length_map, ha, show ((a + 1 : Nat) : Int) = (a : Int) + 1 by omega] at this
    refine this.mono ?_
    rintro e w' ⟨e1, e2, e3⟩
    exact ⟨e1, by rw [List.map_append]; exact e2, e3⟩
  have HS : Hid (S = w.heap.size ∧ K1 S = t + 7 ∧ wB.heap[S]? = some (.cells #[.int .i64 x.seq, .int .i64 st, .int .i64 acc, .int .i64 rej, .int .i64 why, .int .i64 low, .int .i64 high, .string ⟨res.toArray⟩, .int .i64 now] 80) ∧ p ≠ S ∧ Mv (fun _ => False) w wB K K1 ∧ PC K1 wB B t p c oa cap next now (L1 ++ x :: L2) D (.slice (some ⟨g, 0, none⟩) n c14) (.slice o15 d c15) q) := by
    refine ⟨hS.symm, hKS, kB, hpS, ?_, PB⟩
    refine ⟨mB.os.trans m1.os, mB.tape.trans m1.tape, mB.output.trans m1.output, Nat.le_trans m1.size mB.size, fun b hb => m1.old b hb ▸ mB.old b (Nat.lt_of_lt_of_le hb m1.size), fun b hb hf => ?_⟩
    have hne : b ≠ S := by omega
    rw [← hwB, Below.heap_setCell _ _ _ _ hne, ← hwA, Below.heap_setCell _ _ _ _ hne]
    exact m1.kept b hb hf
  have hT : Hid (∀ w2, RW 109 1 ptrC K1 w2 B (t + 1) (.slice (some ⟨g, 0, none⟩) (n - 1) c14) ((L1 ++ L2).map Wt.b) → Mv (fun u => u = t + 1) wB w2 K1 K1 → ∀ w3, w2.setCell ⟨p, 14, none⟩ (.slice (some ⟨g, 0, none⟩) (n - 1) c14) = w3 →
      w2.frozen? ⟨p, 14, none⟩ = false ∧ (w2.cell? ⟨p, 14, none⟩ = some (.slice (some ⟨g, 0, none⟩) n c14)) ∧ (∀ w', Below w3.heap.size w3 w' → w'.cell? ⟨p, 15, none⟩ = some (.slice o15 d c15) ∧ w'.cell? ⟨S, 0, none⟩ = some (.int .i64 x.seq) ∧ w'.cell? ⟨S, 1, none⟩ = some (.int .i64 st) ∧ w'.cell? ⟨S, 2, none⟩ = some (.int .i64 acc) ∧ w'.cell? ⟨S, 3, none⟩ = some (.int .i64 rej) ∧ w'.cell? ⟨S, 4, none⟩ = some (.int .i64 why) ∧ w'.cell? ⟨S, 5, none⟩ = some (.int .i64 low) ∧ w'.cell? ⟨S, 6, none⟩ = some (.int .i64 high) ∧ w'.cell? ⟨S, 7, none⟩ = some (.string ⟨res.toArray⟩) ∧ w'.cell? ⟨S, 8, none⟩ = some (.int .i64 now)) ∧
      ∀ w4 N4, w3.drew.heap.size = N4 → w3.drew.alloc (.cells #[.int .i64 x.seq, .int .i64 st, .int .i64 acc, .int .i64 rej, .int .i64 why, .int .i64 low, .int .i64 high, .string ⟨res.toArray⟩, .int .i64 now] 80) = w4 → ∃ o5 c5 w5, (∀ r, (Builtin.append_ #[75, 75] r #[.slice o15 d c15, .slice (some ⟨N4, 0, none⟩) 1 1]).run Tryz.prog w4 = .ok (.slice o5 (d + 1) c5) w5) ∧ (w5.cell? ⟨p, 15, none⟩ = some (.slice o15 d c15) ∧ w5.cell? ⟨S, 0, none⟩ = some (.int .i64 x.seq) ∧ w5.cell? ⟨S, 1, none⟩ = some (.int .i64 st) ∧ w5.cell? ⟨S, 2, none⟩ = some (.int .i64 acc) ∧ w5.cell? ⟨S, 3, none⟩ = some (.int .i64 rej) ∧ w5.cell? ⟨S, 4, none⟩ = some (.int .i64 why) ∧ w5.cell? ⟨S, 5, none⟩ = some (.int .i64 low) ∧ w5.cell? ⟨S, 6, none⟩ = some (.int .i64 high) ∧ w5.cell? ⟨S, 7, none⟩ = some (.string ⟨res.toArray⟩) ∧ w5.cell? ⟨S, 8, none⟩ = some (.int .i64 now)) ∧ w5.frozen? ⟨p, 15, none⟩ = false ∧
        ∀ w6, w5.setCell ⟨p, 15, none⟩ (.slice o5 (d + 1) c5) = w6 → Hid (∃ K' vw' vd', PC K' w6 B t p c oa cap next now (L1 ++ L2) (D ++ [⟨x.seq, st, acc, rej, why, low, high, res, now⟩]) vw' vd' q ∧ Mv (fun u => u = t ∨ u = t + 1 ∨ u = t + 2) w w6 K K')) := by
    intro w2 R2 m2 w3 hw3
    obtain ⟨hSS, hK, hk, hp, mw, PB⟩ := HS.out
    have cl2 := PB.cl.mv m2 (by omega)
    obtain ⟨P3, m3⟩ := PB.less R2 m2
    rw [hw3] at P3 m3
    have k3 : w3.heap[S]? = some (.cells #[.int .i64 x.seq, .int .i64 st, .int .i64 acc, .int .i64 rej, .int .i64 why, .int .i64 low, .int .i64 high, .string ⟨res.toArray⟩, .int .i64 now] 80) := (m3.kept S (Array.getElem?_eq_some_iff.1 hk).1 (by rw [hK]; omega)).trans hk
    have hlt3 := (Array.getElem?_eq_some_iff.1 k3).1
    have s3 : ∀ w', Below w3.heap.size w3 w' → w'.cell? ⟨p, 15, none⟩ = some (.slice o15 d c15) ∧ w'.cell? ⟨S, 0, none⟩ = some (.int .i64 x.seq) ∧ w'.cell? ⟨S, 1, none⟩ = some (.int .i64 st) ∧ w'.cell? ⟨S, 2, none⟩ = some (.int .i64 acc) ∧ w'.cell? ⟨S, 3, none⟩ = some (.int .i64 rej) ∧ w'.cell? ⟨S, 4, none⟩ = some (.int .i64 why) ∧ w'.cell? ⟨S, 5, none⟩ = some (.int .i64 low) ∧ w'.cell? ⟨S, 6, none⟩ = some (.int .i64 high) ∧ w'.cell? ⟨S, 7, none⟩ = some (.string ⟨res.toArray⟩) ∧ w'.cell? ⟨S, 8, none⟩ = some (.int .i64 now) := fun w' hb => ⟨cell_at ((hb.block p P3.cl.lt).trans P3.cl.at_) rfl, cell_at ((hb.block S hlt3).trans k3) rfl, cell_at ((hb.block S hlt3).trans k3) rfl, cell_at ((hb.block S hlt3).trans k3) rfl, cell_at ((hb.block S hlt3).trans k3) rfl, cell_at ((hb.block S hlt3).trans k3) rfl, cell_at ((hb.block S hlt3).trans k3) rfl, cell_at ((hb.block S hlt3).trans k3) rfl, cell_at ((hb.block S hlt3).trans k3) rfl, cell_at ((hb.block S hlt3).trans k3) rfl⟩
    refine ⟨frozen_at cl2.at_ 14, cell_at cl2.at_ rfl, s3, fun w4 N4 hN4 hw4 => ?_⟩
    have b4 : Below w3.heap.size w3 w4 := by
      rw [← hw4]
      exact (show Below w3.heap.size w3 w3.drew from ⟨rfl, rfl, rfl, Nat.le_refl _, fun _ _ => rfl⟩).alloc (Nat.le_refl _) _
    have P4 := P3.below b4 (fun _ => t + 8)
    have m4 := Mv.of_below b4 K1 (fun _ => t + 8)
    have hN : w4.heap[N4]? = some (.cells (ocC ⟨x.seq, st, acc, rej, why, low, high, res, now⟩).toArray 80) := by rw [← hw4, ← hN4]; exact (MapKept.heap_alloc w3.drew _).1
    have hK4 : ext w3 K1 (fun _ => t + 8) S = t + 7 := (ext_old hlt3).trans hK
    generalize ext w3 K1 (fun _ => t + 8) = K4 at P4 m4 hK4
    obtain ⟨o5, c5, w5, K5, hr, hp5, P5, m5⟩ := P4.told hN hl
    rw [hd] at hr P5 m5
    have k4 : w4.heap[S]? = some (.cells #[.int .i64 x.seq, .int .i64 st, .int .i64 acc, .int .i64 rej, .int .i64 why, .int .i64 low, .int .i64 high, .string ⟨res.toArray⟩, .int .i64 now] 80) := (b4.block S hlt3).trans k3
    have kp5 := hp5.trans P4.cl.at_
    refine ⟨o5, c5, w5, hr, ?_, frozen_at kp5 15, fun w6 hw6 => ?_⟩
    · have k5 : w5.heap[S]? = some (.cells #[.int .i64 x.seq, .int .i64 st, .int .i64 acc, .int .i64 rej, .int .i64 why, .int .i64 low, .int .i64 high, .string ⟨res.toArray⟩, .int .i64 now] 80) := by
        have h6 := m5.kept S (Array.getElem?_eq_some_iff.1 k4).1 (by rw [hK4]; omega)
        rw [Below.heap_setCell _ _ _ _ (Ne.symm hp)] at h6
        exact h6.trans k4
      exact ⟨cell_at kp5 rfl, cell_at k5 rfl, cell_at k5 rfl, cell_at k5 rfl, cell_at k5 rfl, cell_at k5 rfl, cell_at k5 rfl, cell_at k5 rfl, cell_at k5 rfl, cell_at k5 rfl⟩
    · rw [hw6] at P5 m5
      exact ⟨K5, _, _, P5, (mw.mono (fun _ e => e.elim)).trans ((m3.mono (fun u e => e.elim .inl (fun e => .inr (.inl e)))).trans ((m4.mono (fun _ e => e.elim)).trans (m5.mono (fun u e => e.elim .inl (fun e => .inr (.inr e))))))⟩
  have hai : (a : Int) < (n : Int) := by omega
  have hwr : wrap64 ((a : Int) + 1) = (a : Int) + 1 := wrapS (by omega)
  have hb75 := fun v0 v1 v2 v3 v4 v5 v6 v8 s w => bls75 v0 v1 v2 v3 v4 v5 v6 v8 s w
  have HL := hid hL
  rw [ha]
  clear h hl hB1 P1 m1 k1 hKS hn ha han hd hx0 hx1 nS hgS hpS hbS kA kB mB PB hL hg HS HL
  go_enter Tryz.func58, Tryz.ntmps58
  go_wp2_with fail
  refine wp_region_last (S := fun w' => w'.cell? ⟨p, 14, none⟩ = some (.slice (some ⟨g, 0, none⟩) n c14) ∧ w'.cell? ⟨p, 13, none⟩ = some (.int .i64 now) ∧ w'.cell? ⟨g, a, none⟩ = some (ptr x.b) ∧ w'.cell? ⟨x.b, 0, none⟩ = some (.int .i64 x.seq)) (n := 17) (by kernel_rfl) rfl (by kernel_rfl) (by kernel_rfl) ?_ (fun hHeld => ?_)
  · exact s0'
  refine wpAnyH_take (i := 0) (v := ?_) rfl (by kernel_rfl) (by kernel_rfl) (by kernel_rfl) (fun _ _ _ h => h) (Or.inl ⟨by rfl, ?_⟩) (by assumption) ?_
  rotate_left
  · (intro w hSw; (try dsimp only at hSw); go_simp; try with_reducible rfl)
  try simp only [Act.put]
  try simp only [List.setIfInBounds_toArray]
  try simp only [List.set_cons_succ]
  try simp only [List.set_cons_zero]
  refine wpAnyH_take (i := 1) (v := ?_) rfl (by kernel_rfl) (by kernel_rfl) (by kernel_rfl) (fun _ _ _ h => h) (Or.inl ⟨by rfl, ?_⟩) (by assumption) ?_
  rotate_left
  · (intro w hSw; (try dsimp only at hSw); go_simp; try with_reducible rfl)
  try simp only [Act.put]
  try simp only [List.setIfInBounds_toArray]
  try simp only [List.set_cons_succ]
  try simp only [List.set_cons_zero]
  refine wpAnyH_take (i := 2) (v := ?_) rfl (by kernel_rfl) (by kernel_rfl) (by kernel_rfl) (fun _ _ _ h => h) (Or.inl ⟨by rfl, ?_⟩) (by assumption) ?_
  rotate_left
  · (intro w hSw; (try dsimp only at hSw); go_simp; try with_reducible rfl)
  try simp only [Act.put]
  try simp only [List.setIfInBounds_toArray]
  try simp only [List.set_cons_succ]
  try simp only [List.set_cons_zero]
  refine wpAnyH_take (i := 3) (v := ?_) rfl (by kernel_rfl) (by kernel_rfl) (by kernel_rfl) (fun _ _ _ h => h) (Or.inl ⟨by rfl, ?_⟩) (by assumption) ?_
  rotate_left
  · (intro w hSw; (try dsimp only at hSw); go_simp; try with_reducible rfl)
  try simp only [Act.put]
  try simp only [List.setIfInBounds_toArray]
  try simp only [List.set_cons_succ]
  try simp only [List.set_cons_zero]
  refine wpAnyH_take (i := 4) (v := ?_) rfl (by kernel_rfl) (by kernel_rfl) (by kernel_rfl) (fun _ _ _ h => h) (Or.inl ⟨by rfl, ?_⟩) (by assumption) ?_
  rotate_left
  · (intro w hSw; (try dsimp only at hSw); go_simp; try with_reducible rfl)
  try simp only [Act.put]
  try simp only [List.setIfInBounds_toArray]
  try simp only [List.set_cons_succ]
  try simp only [List.set_cons_zero]
  refine wpAnyH_take (i := 5) (v := ?_) rfl (by kernel_rfl) (by kernel_rfl) (by kernel_rfl) (fun _ _ _ h => h) (Or.inl ⟨by rfl, ?_⟩) (by assumption) ?_
  rotate_left
  · (intro w hSw; (try dsimp only at hSw); go_simp; try with_reducible rfl)
  try simp only [Act.put]
  try simp only [List.setIfInBounds_toArray]
  try simp only [List.set_cons_succ]
  try simp only [List.set_cons_zero]
  refine wpAnyH_take (i := 6) (v := ?_) rfl (by kernel_rfl) (by kernel_rfl) (by kernel_rfl) (fun _ _ _ h => h) (Or.inl ⟨by rfl, ?_⟩) (by assumption) ?_
  rotate_left
  · (intro w hSw; (try dsimp only at hSw); go_simp; try with_reducible rfl)
  try simp only [Act.put]
  try simp only [List.setIfInBounds_toArray]
  try simp only [List.set_cons_succ]
  try simp only [List.set_cons_zero]
  refine wpAnyH_take (i := 7) (v := ?_) rfl (by kernel_rfl) (by kernel_rfl) (by kernel_rfl) (fun _ _ _ h => h) (Or.inl ⟨by rfl, ?_⟩) (by assumption) ?_
  rotate_left
  · (intro w hSw; (try dsimp only at hSw); go_simp; try with_reducible rfl)
  try simp only [Act.put]
  try simp only [List.setIfInBounds_toArray]
  try simp only [List.set_cons_succ]
  try simp only [List.set_cons_zero]
  refine wpAnyH_take (i := 8) (v := ?_) rfl (by kernel_rfl) (by kernel_rfl) (by kernel_rfl) (fun _ _ _ h => h) (Or.inl ⟨by rfl, ?_⟩) (by assumption) ?_
  rotate_left
  · (intro w hSw; (try dsimp only at hSw); go_simp; try with_reducible rfl)
  try simp only [Act.put]
  try simp only [List.setIfInBounds_toArray]
  try simp only [List.set_cons_succ]
  try simp only [List.set_cons_zero]
  refine wpAnyH_take (i := 9) (v := ?_) rfl (by kernel_rfl) (by kernel_rfl) (by kernel_rfl) (fun _ _ _ h => h) (Or.inl ⟨by rfl, ?_⟩) (by assumption) ?_
  rotate_left
  · (intro w hSw; (try dsimp only at hSw); go_simp; try with_reducible rfl)
  try simp only [Act.put]
  try simp only [List.setIfInBounds_toArray]
  try simp only [List.set_cons_succ]
  try simp only [List.set_cons_zero]
  refine wpAnyH_take (i := 10) (v := ?_) rfl (by kernel_rfl) (by kernel_rfl) (by kernel_rfl) (fun _ _ _ h => h) (Or.inl ⟨by rfl, ?_⟩) (by assumption) ?_
  rotate_left
  · (intro w hSw; (try dsimp only at hSw); go_simp; try with_reducible rfl)
  try simp only [Act.put]
  try simp only [List.setIfInBounds_toArray]
  try simp only [List.set_cons_succ]
  try simp only [List.set_cons_zero]
  refine wpAnyH_take (i := 11) (v := ?_) rfl (by kernel_rfl) (by kernel_rfl) (by kernel_rfl) (fun _ _ _ h => h) (Or.inl ⟨by rfl, ?_⟩) (by assumption) ?_
  rotate_left
  · (intro w hSw; (try dsimp only at hSw); go_simp; try with_reducible rfl)
  try simp only [Act.put]
  try simp only [List.setIfInBounds_toArray]
  try simp only [List.set_cons_succ]
  try simp only [List.set_cons_zero]
  refine wpAnyH_take (i := 12) (v := ?_) rfl (by kernel_rfl) (by kernel_rfl) (by kernel_rfl) (fun _ _ _ h => h) (Or.inl ⟨by rfl, ?_⟩) (by assumption) ?_
  rotate_left
  · (intro w hSw; (try dsimp only at hSw); go_simp; try with_reducible rfl)
  try simp only [Act.put]
  try simp only [List.setIfInBounds_toArray]
  try simp only [List.set_cons_succ]
  try simp only [List.set_cons_zero]
  refine wpAnyH_take (i := 13) (v := ?_) rfl (by kernel_rfl) (by kernel_rfl) (by kernel_rfl) (fun _ _ _ h => h) (Or.inl ⟨by rfl, ?_⟩) (by assumption) ?_
  rotate_left
  · (intro w hSw; (try dsimp only at hSw); go_simp; try with_reducible rfl)
  try simp only [Act.put]
  try simp only [List.setIfInBounds_toArray]
  try simp only [List.set_cons_succ]
  try simp only [List.set_cons_zero]
  refine wpAnyH_take (i := 14) (v := ?_) rfl (by kernel_rfl) (by kernel_rfl) (by kernel_rfl) (fun _ _ _ h => h) (Or.inl ⟨by rfl, ?_⟩) (by assumption) ?_
  rotate_left
  · (intro w hSw; (try dsimp only at hSw); go_simp; try with_reducible rfl)
  try simp only [Act.put]
  try simp only [List.setIfInBounds_toArray]
  try simp only [List.set_cons_succ]
  try simp only [List.set_cons_zero]
  refine wpAnyH_ready (rs := [15]) (by kernel_rfl) (by simp) ?_
  refine AllReadyH.cons rfl (fun K hK => ?_) AllReadyH.nil
  go_simp
  refine hK.out _ _ ?_ (fun hHeldA => ?_)
  · exact sA
  clear hK hHeld
  try simp only [Act.put]
  try simp only [List.setIfInBounds_toArray]
  try simp only [List.set_cons_succ]
  try simp only [List.set_cons_zero]
  refine wpAnyH_take (i := 16) (v := ?_) rfl (by kernel_rfl) (by kernel_rfl) (by kernel_rfl) (fun _ _ _ h => h) (Or.inl ⟨by rfl, ?_⟩) (by assumption) ?_
  rotate_left
  · (intro w hSw; (try dsimp only at hSw); go_simp; try with_reducible rfl)
  try simp only [Act.put]
  try simp only [List.setIfInBounds_toArray]
  try simp only [List.set_cons_succ]
  try simp only [List.set_cons_zero]
  refine wpAnyH_done (by kernel_rfl) ?_ _
  refine LastQ.done ?_
  refine wpOp_step (i := 17) rfl (fun K hK => ?_)
  have HK := hid hK
  clear hK
  go_simp
  refine HK.out _ _ ?_
  clear HK
  clear hHeldA s0' sA y0 y1 f0 f1
  go_wp2_with fail
  refine HD.out.mono ?_
  rintro _ w2 ⟨rfl, H2⟩
  obtain ⟨w3, hw3⟩ : ∃ y, w2.setCell ⟨p, 14, none⟩ (.slice (some ⟨g, 0, none⟩) (n - 1) c14) = y := ⟨_, rfl⟩
  obtain ⟨f14, z14', t3, ht4⟩ := hT.out w2 H2.out.1 H2.out.2 w3 hw3
  have s3 := t3 w3.drew ⟨rfl, rfl, rfl, Nat.le_refl _, fun _ _ => rfl⟩
  obtain ⟨N4, hN4⟩ : ∃ y, w3.drew.heap.size = y := ⟨_, rfl⟩
  obtain ⟨w4, hw4⟩ : ∃ y, w3.drew.alloc (.cells #[.int .i64 x.seq, .int .i64 st, .int .i64 acc, .int .i64 rej, .int .i64 why, .int .i64 low, .int .i64 high, .string ⟨res.toArray⟩, .int .i64 now] 80) = y := ⟨_, rfl⟩
  have s4 := t3 w4 (by rw [← hw4]; exact (show Below w3.heap.size w3 w3.drew from ⟨rfl, rfl, rfl, Nat.le_refl _, fun _ _ => rfl⟩).alloc (Nat.le_refl _) _)
  obtain ⟨o5, c5, w5, r5, s5, f5, h6⟩ := ht4 w4 N4 hN4 hw4
  obtain ⟨w6, hw6⟩ : ∃ y, w5.setCell ⟨p, 15, none⟩ (.slice o5 (d + 1) c5) = y := ⟨_, rfl⟩
  have HR := hid r5
  have HF := h6 w6 hw6
  clear r5 h6 t3 ht4 H2 HD hT
  go_wp2_with fail
  refine wp_region_last (S := fun w' => w'.cell? ⟨p, 15, none⟩ = some (.slice o15 d c15) ∧ w'.cell? ⟨S, 0, none⟩ = some (.int .i64 x.seq) ∧ w'.cell? ⟨S, 1, none⟩ = some (.int .i64 st) ∧ w'.cell? ⟨S, 2, none⟩ = some (.int .i64 acc) ∧ w'.cell? ⟨S, 3, none⟩ = some (.int .i64 rej) ∧ w'.cell? ⟨S, 4, none⟩ = some (.int .i64 why) ∧ w'.cell? ⟨S, 5, none⟩ = some (.int .i64 low) ∧ w'.cell? ⟨S, 6, none⟩ = some (.int .i64 high) ∧ w'.cell? ⟨S, 7, none⟩ = some (.string ⟨res.toArray⟩) ∧ w'.cell? ⟨S, 8, none⟩ = some (.int .i64 now)) (n := 10) (by kernel_rfl) rfl (by kernel_rfl) (by kernel_rfl) ?_ (fun hHeld3 => ?_)
  · exact s3
  refine wpAnyH_take (i := 0) (v := ?_) rfl (by kernel_rfl) (by kernel_rfl) (by kernel_rfl) (fun _ _ _ h => h) (Or.inl ⟨by rfl, ?_⟩) (by assumption) ?_
  rotate_left
  · (intro w hSw; (try dsimp only at hSw); go_simp; try with_reducible rfl)
  try simp only [Act.put]
  try simp only [List.setIfInBounds_toArray]
  try simp only [List.set_cons_succ]
  try simp only [List.set_cons_zero]
  refine wpAnyH_take (i := 1) (v := ?_) rfl (by kernel_rfl) (by kernel_rfl) (by kernel_rfl) (fun _ _ _ h => h) (Or.inl ⟨by rfl, ?_⟩) (by assumption) ?_
  rotate_left
  · (intro w hSw; (try dsimp only at hSw); go_simp; try with_reducible rfl)
  try simp only [Act.put]
  try simp only [List.setIfInBounds_toArray]
  try simp only [List.set_cons_succ]
  try simp only [List.set_cons_zero]
  refine wpAnyH_take (i := 2) (v := ?_) rfl (by kernel_rfl) (by kernel_rfl) (by kernel_rfl) (fun _ _ _ h => h) (Or.inl ⟨by rfl, ?_⟩) (by assumption) ?_
  rotate_left
  · (intro w hSw; (try dsimp only at hSw); go_simp; try with_reducible rfl)
  try simp only [Act.put]
  try simp only [List.setIfInBounds_toArray]
  try simp only [List.set_cons_succ]
  try simp only [List.set_cons_zero]
  refine wpAnyH_take (i := 3) (v := ?_) rfl (by kernel_rfl) (by kernel_rfl) (by kernel_rfl) (fun _ _ _ h => h) (Or.inl ⟨by rfl, ?_⟩) (by assumption) ?_
  rotate_left
  · (intro w hSw; (try dsimp only at hSw); go_simp; try with_reducible rfl)
  try simp only [Act.put]
  try simp only [List.setIfInBounds_toArray]
  try simp only [List.set_cons_succ]
  try simp only [List.set_cons_zero]
  refine wpAnyH_take (i := 4) (v := ?_) rfl (by kernel_rfl) (by kernel_rfl) (by kernel_rfl) (fun _ _ _ h => h) (Or.inl ⟨by rfl, ?_⟩) (by assumption) ?_
  rotate_left
  · (intro w hSw; (try dsimp only at hSw); go_simp; try with_reducible rfl)
  try simp only [Act.put]
  try simp only [List.setIfInBounds_toArray]
  try simp only [List.set_cons_succ]
  try simp only [List.set_cons_zero]
  refine wpAnyH_take (i := 5) (v := ?_) rfl (by kernel_rfl) (by kernel_rfl) (by kernel_rfl) (fun _ _ _ h => h) (Or.inl ⟨by rfl, ?_⟩) (by assumption) ?_
  rotate_left
  · (intro w hSw; (try dsimp only at hSw); go_simp; try with_reducible rfl)
  try simp only [Act.put]
  try simp only [List.setIfInBounds_toArray]
  try simp only [List.set_cons_succ]
  try simp only [List.set_cons_zero]
  refine wpAnyH_ready (rs := [6]) (by kernel_rfl) (by simp) ?_
  refine AllReadyH.cons rfl (fun K hK => ?_) AllReadyH.nil
  go_simp
  refine hK.out _ _ ?_ (fun hHeld4 => ?_)
  · exact s4
  clear hK hHeld3
  try simp only [Act.put]
  try simp only [List.setIfInBounds_toArray]
  try simp only [List.set_cons_succ]
  try simp only [List.set_cons_zero]
  refine wpAnyH_ready (rs := [7]) (by kernel_rfl) (by simp) ?_
  refine AllReadyH.cons rfl (fun K hK => ?_) AllReadyH.nil
  refine step_app rfl (.tmp 37) (.tmp 39) 75 rfl (.slice o15 d c15) (.slice (some ⟨N4, 0, none⟩) 1 1) _ _ (by go_simp) (by go_simp) (HR.out _) ?_
  refine hK.out _ _ ?_ (fun hHeld5 => ?_)
  · exact s5
  clear hK hHeld4
  try simp only [Act.put]
  try simp only [List.setIfInBounds_toArray]
  try simp only [List.set_cons_succ]
  try simp only [List.set_cons_zero]
  refine wpAnyH_take (i := 8) (v := ?_) rfl (by kernel_rfl) (by kernel_rfl) (by kernel_rfl) (fun _ _ _ h => h) (Or.inl ⟨by rfl, ?_⟩) (by assumption) ?_
  rotate_left
  · (intro w hSw; (try dsimp only at hSw); go_simp; try with_reducible rfl)
  try simp only [Act.put]
  try simp only [List.setIfInBounds_toArray]
  try simp only [List.set_cons_succ]
  try simp only [List.set_cons_zero]
  refine wpAnyH_take (i := 9) (v := ?_) rfl (by kernel_rfl) (by kernel_rfl) (by kernel_rfl) (fun _ _ _ h => h) (Or.inl ⟨by rfl, ?_⟩) (by assumption) ?_
  rotate_left
  · (intro w hSw; (try dsimp only at hSw); go_simp; try with_reducible rfl)
  try simp only [Act.put]
  try simp only [List.setIfInBounds_toArray]
  try simp only [List.set_cons_succ]
  try simp only [List.set_cons_zero]
  refine wpAnyH_done (by kernel_rfl) ?_ _
  refine LastQ.done ?_
  refine wpOp_step (i := 10) rfl (fun K hK => ?_)
  have HK := hid hK
  clear hK
  go_simp
  refine HK.out _ _ ?_
  clear HK
  clear hHeld5 s3 s4 s5
  go_wp2
  first | go_end0 | ((try simp only [Exit.inBlock, Exit.then]); refine bodyPost_ret (results_none rfl _ _ _) rfl ?_)
  exact ⟨⟨_, rfl⟩, HF⟩
end
end Go.Proofs.YtfcbjcebkahehaaGreatDoor.Cl
namespace Go.Proofs.YtfcbjcebkahehaaGreatDoor.Cl
open Go.RowKit
/-- the time of a call is over -/
def overB (now : Int) (x : Wt) : Bool := decide (x.fin ≤ now)
def tOut (now : Int) (x : Wt) : Oc := ⟨x.seq, 2, 0, 0, 0, 0, 0, [], now⟩
def lenC (p : Nat) (w : World) : Nat := match w.cell? ⟨p, 14, none⟩ with | some (.slice _ n _) => n | _ => 0
theorem bld80 (w : World) : (Instr.build 80 #[(1, .int .i64 2)]).run Tryz.prog w = .ok (.agg #[.int .i64 0, .int .i64 2, .int .i64 0, .int .i64 0, .int .i64 0, .int .i64 0, .int .i64 0, .string ⟨#[]⟩, .int .i64 0]) w := by kernel_rfl
section
variable {K K' : Nat → Nat} {w w' : World} {B t p : Nat} {c : Cf} {oa : Option Addr} {cap : Nat} {next now : Int} {L : List Wt} {D : List Oc} {vw vd : Value} {q : Mq}
def TickR (K : Nat → Nat) (w w' : World) (B t p : Nat) (c : Cf) (oa : Option Addr) (cap : Nat) (next now : Int) (L : List Wt) (D : List Oc) (q : Mq) (L' : List Wt) : Prop :=
  ∃ K' vw' vd' D', PC K' w' B t p c oa cap next now L' D' vw' vd' q ∧ L'.dropWhile (overB now) = L.dropWhile (overB now) ∧ D' ++ (L'.takeWhile (overB now)).map (tOut now) = D ++ (L.takeWhile (overB now)).map (tOut now) ∧ D'.length + L'.length = D.length + L.length ∧ Mv (fun u => u = t ∨ u = t + 1 ∨ u = t + 2) w w' K K'
set_option maxRecDepth 8000 in
set_option maxHeartbeats 8000000 in
theorem PC.tick_any (h : PC K w B t p c oa cap next now L D vw vd q) (hn : -1000000000000 ≤ now ∧ now ≤ 1000000000000) (hD : D.length + L.length ≤ 100000000) :
    Calls Tryz.prog 21 #[ptr p] w fun e w' => (∃ v, e = .returned v) ∧ Hid (∃ K' vw' vd', PC K' w' B t p c oa cap next (now + 1) (L.dropWhile (overB (now + 1))) (D ++ (L.takeWhile (overB (now + 1))).map (tOut (now + 1))) vw' vd' q ∧ Mv (fun u => u = t ∨ u = t + 1 ∨ u = t + 2) w w' K K') := by
  have c13 := h.ce (k := 13) rfl
  have f13 := h.fz 13
  obtain ⟨w0, hw0⟩ : ∃ y, w.setCell ⟨p, 13, none⟩ (.int .i64 (now + 1)) = y := ⟨_, rfl⟩
  obtain ⟨P0, m0⟩ := h.now_ (now + 1)
  rw [hw0] at P0 m0
  obtain ⟨nw, hnw⟩ : ∃ nw, now + 1 = nw := ⟨_, rfl⟩
  have hwr : wrap64 (now + 1) = nw := by rw [← hnw]; unfold wrap64; omega
  rw [hnw] at P0 hw0 ⊢
  have HR0 : Hid (TickR K w w0 B t p c oa cap next nw L D q L) := ⟨K, vw, vd, D, P0, rfl, rfl, rfl, m0.mono (fun u e => .inl e)⟩
  have HD := hid hD
  clear h hn hD P0 m0 hnw
  go_enter Tryz.func21, Tryz.ntmps21
  go_wp2_with fail
  go_loopw [] (fun wr => ∃ L', Hid (TickR K w wr B t p c oa cap next nw L D q L')) (fun wr => lenC p wr)
  case atStart => exact ⟨L, HR0⟩
  case round =>
    obtain ⟨L', HR⟩ := hrel
    clear HR0 c13 f13 hw0 hwr
    obtain ⟨wo, hwo⟩ : ∃ yy, yy = wr := ⟨_, rfl⟩
    subst hwo
    obtain ⟨K1, vw1, vd1, D1, P1, e1, e2, e3, m1⟩ := HR.out
    have c14 : wo.cell? ⟨p, 14, none⟩ = some vw1 := P1.ce (k := 14) rfl
    have d13 : wo.cell? ⟨p, 13, none⟩ = some (.int .i64 nw) := P1.ce (k := 13) rfl
    obtain ⟨o14, c14', ew, _, hg⟩ := P1.wr.form
    rw [List.length_map] at ew hg
    subst ew
    cases L' with
    | nil =>
      have HF : Hid (∀ k, ∃ K' vw' vd', PC K' (wo.drewN k) B t p c oa cap next nw (L.dropWhile (overB nw)) (D ++ (L.takeWhile (overB nw)).map (tOut nw)) vw' vd' q ∧ Mv (fun u => u = t ∨ u = t + 1 ∨ u = t + 2) w (wo.drewN k) K K') := fun k => by
        have e1' : L.dropWhile (overB nw) = [] := e1.symm
        have e2' : D ++ (L.takeWhile (overB nw)).map (tOut nw) = D1 := e2.symm.trans (List.append_nil D1)
        rw [e1', e2']
        exact ⟨K1, _, _, P1.to (mv_drewN wo K1 k) (fun _ e => e.elim), m1.trans ((mv_drewN wo K1 k).mono (fun _ e => e.elim))⟩
      clear P1 e1 e2 e3 m1 HR hg d13
      go_wp2_with fail
      go_quiet (fail)
      go_wp2
      first | go_end0 | ((try simp only [Exit.inBlock, Exit.then]); refine bodyPost_ret (results_none rfl _ _ _) rfl ?_)
      exact ⟨⟨_, rfl⟩, HF.out _⟩
    | cons x L' =>
      obtain ⟨g, rfl⟩ := hg (by simp)
      obtain ⟨n, hlen⟩ : ∃ n, (x :: L').length = n := ⟨_, rfl⟩
      have x0 : wo.cell? ⟨g, 0, none⟩ = some (ptr x.b) := by
        have := P1.wr.cell ptrL (by rw [List.length_map]) (j := 0) (x := x.b) rfl 0 (by omega)
        simpa [ptrC] using this
      have x5 : wo.cell? ⟨x.b, 5, none⟩ = some (.int .i64 x.fin) := cell_at (P1.cs x (by simp)).me.at_ rfl
      have hn0 : (0 : Int) < (n : Int) := by rw [← hlen]; simp
      have hnn : 0 < n := by omega
      have hmz : lenC p wo = n := by unfold lenC; rw [c14]; exact hlen
      rw [hlen] at c14
      obtain ⟨fin, hfin⟩ : ∃ fin, x.fin = fin := ⟨_, rfl⟩
      rw [hfin] at x5
      cases eo : decide (fin ≤ nw)
      · have HF : Hid (∀ k, ∃ K' vw' vd', PC K' (wo.drewN k) B t p c oa cap next nw (L.dropWhile (overB nw)) (D ++ (L.takeWhile (overB nw)).map (tOut nw)) vw' vd' q ∧ Mv (fun u => u = t ∨ u = t + 1 ∨ u = t + 2) w (wo.drewN k) K K') := fun k => by
          have eb : overB nw x = false := by unfold overB; rw [hfin]; exact eo
          have e1' : L.dropWhile (overB nw) = x :: L' := e1.symm.trans (List.dropWhile_cons_of_neg (by simp [eb]))
          have e2' : D ++ (L.takeWhile (overB nw)).map (tOut nw) = D1 := e2.symm.trans (by rw [List.takeWhile_cons_of_neg (by simp [eb])]; exact List.append_nil D1)
          rw [e1', e2']
          exact ⟨K1, _, _, P1.to (mv_drewN wo K1 k) (fun _ e => e.elim), m1.trans ((mv_drewN wo K1 k).mono (fun _ e => e.elim))⟩
        clear P1 e1 e2 e3 m1 HR hg hfin hlen hmz
        go_wp2_with fail
        go_quiet (fail)
        go_wp2
        first | go_end0 | ((try simp only [Exit.inBlock, Exit.then]); refine bodyPost_ret (results_none rfl _ _ _) rfl ?_)
        exact ⟨⟨_, rfl⟩, HF.out _⟩
      · have HC : Hid (∀ k, Calls Tryz.prog 58 #[ptr p, .int .i64 0, .agg #[.int .i64 0, .int .i64 2, .int .i64 0, .int .i64 0, .int .i64 0, .int .i64 0, .int .i64 0, .string ⟨#[]⟩, .int .i64 0]] (wo.drewN k) fun e w' => (∃ v, e = .returned v) ∧ Hid (TickR K w w' B t p c oa cap next nw L D q L' ∧ lenC p w' < n)) := fun k => by
          have P2 := P1.to (mv_drewN wo K1 k) (fun _ e => e.elim)
          have hDD := HD.out
          refine (PC.finish_any (L1 := []) (L2 := L') (x := x) P2 ⟨0, 2, 0, 0, 0, 0, 0, [], 0⟩ (by simp at e3; omega) (by simp)).mono ?_
          rintro e w' ⟨he, hf⟩
          obtain ⟨K', vw', vd', P3, m3⟩ := hf.out
          refine ⟨he, ⟨K', vw', vd', _, P3, ?_, ?_, ?_, m1.trans (((mv_drewN wo K1 k).mono (fun _ e => e.elim)).trans m3)⟩, ?_⟩
          · have eb : overB nw x = true := by unfold overB; rw [hfin]; exact eo
            rw [← e1, List.dropWhile_cons_of_pos eb]
            (try rfl)
          · have eb : overB nw x = true := by unfold overB; rw [hfin]; exact eo
            rw [← e2, List.takeWhile_cons_of_pos eb]
            simp [tOut]
          · simp at e3 ⊢
            (try omega)
          · obtain ⟨o3, c3, ev, _, _⟩ := P3.wr.form
            have := P3.ce (k := 14) rfl
            unfold lenC
            rw [this, ev, ← hlen]
            simp
        have hb80 := fun w => bld80 w
        clear P1 e1 e2 e3 m1 HR hg hfin hlen
        go_wp2_with fail
        go_quiet (fail)
        go_wp2_with fail
        refine (HC.out _).mono ?_
        rintro _ w3 ⟨⟨v, rfl⟩, H3⟩
        clear HC
        go_wp2
        go_roundw
        case rel =>
          exact ⟨L', H3.out.1⟩
        case measure => rw [hmz]; exact H3.out.2
end
end Go.Proofs.YtfcbjcebkahehaaGreatDoor.Cl
namespace Go.Proofs.YtfcbjcebkahehaaGreatDoor.Cl
open Go.RowKit
/-- a datagram -/
structure Pk where
  src : Int
  dst : Int
  data : List UInt8
def pkC (x : Pk) : List Value := [.int .i64 x.src, .int .i64 x.dst, .string ⟨x.data.toArray⟩]
theorem pkL (x : Pk) : (pkC x).length = 3 := rfl
theorem pkO (x : Pk) : ∀ u ∈ pkC x, u.oneCell' = true := by
  intro u hu
  simp only [pkC, List.mem_cons, List.not_mem_nil, or_false] at hu
  rcases hu with rfl | rfl | rfl <;> rfl
theorem info78 : ∃ i z, Tryz.prog.info? 78 = some i ∧ i.zero = some z ∧ i.size = 3 ∧ i.bytes = 32 ∧ z.cells.size = 3 :=
  ⟨(Tryz.prog.info? 78).getD default, .agg #[.int .i64 0, .int .i64 0, .string ⟨#[]⟩], by kernel_rfl, by kernel_rfl, by kernel_rfl, by kernel_rfl, by kernel_rfl⟩
theorem under73 : Tryz.prog.underlying 73 = some (.slice 78) := by kernel_rfl
theorem bls73 (v0 v1 : Int) (s : ByteArray) (w : World) : (Instr.buildSlice 73 1 #[(0, .agg #[.int .i64 v0, .int .i64 v1, .string s])]).run Tryz.prog w = .ok (.slice (some ⟨w.heap.size, 0, none⟩) 1 1) (w.alloc (.cells #[.int .i64 v0, .int .i64 v1, .string s] 78)) := by kernel_rfl
theorem app73 {K : Nat → Nat} {w : World} {B t : Nat} {v : Value} {l : List Pk} (h : RW 78 3 pkC K w B t v l) (hB : B ≤ w.heap.size) {N : Nat} {x : Pk} (hb : w.heap[N]? = some (.cells (pkC x).toArray 78 (0, 0))) (hl : l.length ≤ 100000000) :
    ∃ v' w' K', (∀ r, (Builtin.append_ #[73, 73] r #[v, .slice (some ⟨N, 0, none⟩) 1 1]).run Tryz.prog w = .ok v' w') ∧ RW 78 3 pkC K' w' B t v' (l ++ [x]) ∧ Mv (fun x => x = t) w w' K K' := by
  obtain ⟨i, z, hi, hz, hs, hby, hzs⟩ := info78
  exact RW.app (ty := 73) under73 hi hz hs hby hzs (by omega) pkL pkO h hB (N := N) (x := x) (cs := (pkC x).toArray) rfl hb (by omega) (by omega)
/-- what Due does, plainly -/
def dueW (c : Cf) (now : Int) (x : Wt) : Bool := dueB c.pt now x.snd x.due
def givW (c : Cf) (now : Int) (x : Wt) : Wt := { x with snd := (runG c.pb c.pc c.pt now 40 (x.snd, x.due)).1, due := (runG c.pb c.pc c.pt now 40 (x.snd, x.due)).2, tms := x.tms + 1, last := now }
def dueL (c : Cf) (now : Int) (L : List Wt) : List Wt := L.map fun x => if dueW c now x then givW c now x else x
def pksL (c : Cf) (water now : Int) (L : List Wt) : List Pk := (L.filter (dueW c now)).map fun x => ⟨c.ad, x.dst, x.data c water⟩
theorem dueL_len (c : Cf) (now : Int) (L : List Wt) : (dueL c now L).length = L.length := by simp [dueL]
theorem dueL_b (c : Cf) (now : Int) (L : List Wt) : (dueL c now L).map Wt.b = L.map Wt.b := by
  unfold dueL
  rw [List.map_map]
  refine List.map_congr_left fun x _ => ?_
  show (if dueW c now x then givW c now x else x).b = x.b
  split <;> rfl
theorem dueL_app (c : Cf) (now : Int) (A R : List Wt) : dueL c now (A ++ R) = dueL c now A ++ dueL c now R := by simp [dueL]
theorem pksL_app (c : Cf) (water now : Int) (A R : List Wt) : pksL c water now (A ++ R) = pksL c water now A ++ pksL c water now R := by simp [pksL]
theorem pksL_len (c : Cf) (water now : Int) (L : List Wt) : (pksL c water now L).length ≤ L.length := by
  unfold pksL
  rw [List.length_map]
  exact List.length_filter_le _ _
theorem water_due (c : Cf) (next now : Int) (A R : List Wt) : waterL next (dueL c now A ++ R) = waterL next (A ++ R) := by
  cases A with
  | nil => rfl
  | cons x A =>
    show (if dueW c now x then givW c now x else x).seq = x.seq
    split <;> rfl
def Wt.fine (x : Wt) : Prop := 0 ≤ x.snd ∧ (-1000000000000 ≤ x.due ∧ x.due ≤ 1000000000000) ∧ (0 ≤ x.tms ∧ x.tms ≤ 1000000000000) ∧ x.args.length ≤ 1000
section
variable {K K' : Nat → Nat} {w w' : World} {B t p : Nat} {c : Cf} {oa : Option Addr} {cap : Nat} {next now : Int} {L : List Wt} {D : List Oc} {vw vd : Value} {q : Mq}
theorem PC.toOther {tp : Nat} (h : PC K w B t p c oa cap next now L D vw vd q) (m : Mv (fun u => u = tp) w w' K K') (ht : t + 8 < tp) : PC K' w' B t p c oa cap next now L D vw vd q := h.to m (fun t' e => by omega)
/-- behind some of the calls -/
structure DueR (K : Nat → Nat) (w w' : World) (B t p tp : Nat) (c : Cf) (oa : Option Addr) (cap : Nat) (next now : Int) (L : List Wt) (D : List Oc) (vw vd : Value) (q : Mq) (A R : List Wt) (v : Value) : Prop where
  ex : ∃ K', PC K' w' B t p c oa cap next now (dueL c now A ++ R) D vw vd q ∧ RW 78 3 pkC K' w' B tp v (pksL c (waterL next L) now A) ∧ Mv (fun u => u = t + 3 ∨ u = tp) w w' K K'
  is : A ++ R = L
set_option maxRecDepth 8000 in
set_option maxHeartbeats 8000000 in
theorem PC.due_any (h : PC K w B t p c oa cap next now L D vw vd q) (tp : Nat) (htp : t + 8 < tp) (hX : ∀ x ∈ L, x.fine) (hL : L.length ≤ 100000000) :
    Calls Tryz.prog 20 #[ptr p] w fun e w' => ∃ v, e = .returned v ∧ Hid (∃ K', PC K' w' B t p c oa cap next now (dueL c now L) D vw vd q ∧ RW 78 3 pkC K' w' B tp v (pksL c (waterL next L) now L) ∧ Mv (fun u => u = t + 3 ∨ u = tp) w w' K K') := by
  have hok := h.ok
  have hpt : c.pt ≤ 32 ∧ c.sys.groups.length ≤ 16 := by
    unfold okC Pc.rightP at hok
    simp only [Bool.and_eq_true, decide_eq_true_eq, inB, Pc.inB] at hok
    refine ⟨by omega, ?_⟩
    have := hok.1
    exact this.2.2.2.2.1
  have c14 : w.cell? ⟨p, 14, none⟩ = some vw := h.ce (k := 14) rfl
  obtain ⟨o14, c14', ew, _, hg⟩ := h.wr.form
  rw [List.length_map] at ew hg
  subst ew
  obtain ⟨n, hn⟩ : ∃ n, L.length = n := ⟨_, rfl⟩
  have hnI : (n : Int) ≤ 100000000 := by omega
  have HG := hid hg
  have HN := hid hn
  have HC : Hid (c.pt ≤ 32 ∧ c.sys.groups.length ≤ 16 ∧ n ≤ 100000000 ∧ t + 8 < tp) := ⟨hpt.1, hpt.2, by omega, htp⟩
  have HX := hid hX
  rw [hn] at c14
  have HR0 : Hid (DueR K w w B t p tp c oa cap next now L D (.slice o14 L.length c14') vd q [] L (.slice none 0 0)) := ⟨⟨K, h, RW.nil _ _ _ _ _ _ _, Mv.refl _ _ _⟩, rfl⟩
  rw [hn] at HR0
  clear h hok hpt hg hn hL hX htp
  go_enter Tryz.func20, Tryz.ntmps20
  go_wp2_with fail
  go_loopw [3, 11] (fun u3 u11 wr => ∃ (A R : List Wt) (j : Nat), u11 = .int .i64 (j : Int) ∧ j ≤ n ∧ Hid (A.length = j ∧ DueR K w wr B t p tp c oa cap next now L D (.slice o14 n c14') vd q A R u3)) (fun _ u11 _ => n - (intOf u11).toNat)
  case atStart => exact ⟨[], L, 0, rfl, by omega, rfl, HR0.out⟩
  case round =>
    obtain ⟨A, R, j, rfl, hjn, HR⟩ := hrel
    clear HR0 c14
    obtain ⟨wo, hwo⟩ : ∃ yy, yy = wr := ⟨_, rfl⟩
    subst hwo
    obtain ⟨⟨K1, P1, R1, m1⟩, hAR⟩ := HR.out.2
    have hjA := HR.out.1
    have hle : A.length + R.length = n := by rw [← HN.out, ← hAR]; simp
    cases R with
    | nil =>
      have hj : j = n := by simp at hle; omega
      subst hj
      have HF : Hid (∃ K', PC K' wo B t p c oa cap next now (dueL c now L) D (.slice o14 j c14') vd q ∧ RW 78 3 pkC K' wo B tp u3 (pksL c (waterL next L) now L) ∧ Mv (fun u => u = t + 3 ∨ u = tp) w wo K K') := by
        rw [List.append_nil] at hAR
        subst hAR
        exact ⟨K1, by simpa using P1, R1, m1⟩
      clear P1 R1 m1 hAR hjA hle HR HX HG
      go_wp2
      go_ret
      exact ⟨_, rfl, by rw [HN.out]; exact HF.out⟩
    | cons x R =>
      have hjl : j < n := by simp at hle; omega
      have hji : (j : Int) < (n : Int) := by omega
      obtain ⟨g, rfl⟩ := HG.out (by rw [HN.out]; omega)
      have hxL : x ∈ L := by rw [← hAR]; simp
      have hxf := HX.out x hxL
      have xg : wo.cell? ⟨g, j, none⟩ = some (ptr x.b) := by
        have hl2 : ((dueL c now A ++ x :: R).map Wt.b).length = n := by rw [List.length_map, List.length_append, dueL_len]; exact hle
        have := P1.wr.cell ptrL hl2 (j := j) (x := x.b) (by rw [List.map_append, List.getElem?_append_right (by simp [dueL_len]; omega)]; simp [dueL_len, hjA]) 0 (by omega)
        simpa [ptrC] using this
      have s0 : wo.drew.cell? ⟨p, 4, none⟩ = some (.int .i64 c.pb) ∧ wo.drew.cell? ⟨p, 5, none⟩ = some (.int .i64 c.pc) ∧ wo.drew.cell? ⟨p, 6, none⟩ = some (.int .i64 c.pt) ∧ wo.drew.cell? ⟨p, 13, none⟩ = some (.int .i64 now) := ⟨P1.ce (k := 4) rfl, P1.ce (k := 5) rfl, P1.ce (k := 6) rfl, P1.ce (k := 13) rfl⟩
      have hx := P1.cs x (by simp)
      have HD := hid (isDue_any c.pb c.pc c.pt now x.snd x.due x.b wo.drew (cell_at (w := wo.drew) hx.me.at_ rfl) (cell_at (w := wo.drew) hx.me.at_ rfl))
      obtain ⟨bd, hbd⟩ : ∃ bd, dueB c.pt now x.snd x.due = bd := ⟨_, rfl⟩
      rw [hbd] at HD
      have hj1 : wrap64 ((j : Int) + 1) = (j : Int) + 1 := wrapS (by have := HC.out; omega)
      have HB0 : Hid (∀ w1, Below wo.drew.heap.size wo.drew w1 → bd = false → DueR K w w1 B t p tp c oa cap next now L D (.slice (some ⟨g, 0, none⟩) n c14') vd q (A ++ [x]) R u3) := fun w1 hb hf => by
        have b1 : Below wo.heap.size wo w1 := ⟨hb.os, hb.tape, hb.output, hb.size, hb.block⟩
        have hdw : dueW c now x = false := by unfold dueW; rw [hbd]; exact hf
        have mB := Mv.of_below b1 K1 (fun _ => t + 7)
        refine ⟨⟨_, ?_, ?_, m1.trans (mB.mono (fun _ e => e.elim))⟩, by rw [List.append_assoc]; exact hAR⟩
        · have := P1.below b1 (fun _ => t + 7)
          rw [dueL_app]
          simpa [dueL, hdw] using this
        · rw [pksL_app]
          have : pksL c (waterL next L) now [x] = [] := by simp [pksL, hdw]
          rw [this, List.append_nil]
          exact R1.mv mB (fun e => e)
      have HB1 : Hid (∀ w1, Below wo.drew.heap.size wo.drew w1 → bd = true → PC (ext wo K1 (fun _ => t + 7)) w1 B t p c oa cap next now (dueL c now A ++ x :: R) D (.slice (some ⟨g, 0, none⟩) n c14') vd q ∧ RW 78 3 pkC (ext wo K1 (fun _ => t + 7)) w1 B tp u3 (pksL c (waterL next L) now A) ∧ Mv (fun u => u = t + 3 ∨ u = tp) w w1 K (ext wo K1 (fun _ => t + 7)) ∧ dueW c now x = true) := fun w1 hb hf => by
        have b1 : Below wo.heap.size wo w1 := ⟨hb.os, hb.tape, hb.output, hb.size, hb.block⟩
        have mB := Mv.of_below b1 K1 (fun _ => t + 7)
        exact ⟨P1.below b1 (fun _ => t + 7), R1.mv mB (fun e => e), m1.trans (mB.mono (fun _ e => e.elim)), by unfold dueW; rw [hbd]; exact hf⟩
      have HA := hid (And.intro hjA (And.intro hAR hxf))
      clear P1 R1 m1 hAR hjA hle hxL hxf hbd hx HR HX HG HN
      generalize ext wo K1 (fun _ => t + 7) = K2 at HB1
      go_wp2_with fail
      refine wp_region_last (S := fun w' => w'.cell? ⟨p, 4, none⟩ = some (.int .i64 c.pb) ∧ w'.cell? ⟨p, 5, none⟩ = some (.int .i64 c.pc) ∧ w'.cell? ⟨p, 6, none⟩ = some (.int .i64 c.pt) ∧ w'.cell? ⟨p, 13, none⟩ = some (.int .i64 now)) (n := 10) (by kernel_rfl) rfl (by kernel_rfl) (by kernel_rfl) ?_ (fun hHeld => ?_)
      · exact s0
      refine wpAnyH_take (i := 0) (v := ?_) rfl (by kernel_rfl) (by kernel_rfl) (by kernel_rfl) (fun _ _ _ h => h) (Or.inl ⟨by rfl, ?_⟩) (by assumption) ?_
      rotate_left
      · (intro w hSw; (try dsimp only at hSw); go_simp; try with_reducible rfl)
      try simp only [Act.put]
      try simp only [List.setIfInBounds_toArray]
      try simp only [List.set_cons_succ]
      try simp only [List.set_cons_zero]
      refine wpAnyH_take (i := 1) (v := ?_) rfl (by kernel_rfl) (by kernel_rfl) (by kernel_rfl) (fun _ _ _ h => h) (Or.inl ⟨by rfl, ?_⟩) (by assumption) ?_
      rotate_left
      · (intro w hSw; (try dsimp only at hSw); go_simp; try with_reducible rfl)
      try simp only [Act.put]
      try simp only [List.setIfInBounds_toArray]
      try simp only [List.set_cons_succ]
      try simp only [List.set_cons_zero]
      refine wpAnyH_take (i := 2) (v := ?_) rfl (by kernel_rfl) (by kernel_rfl) (by kernel_rfl) (fun _ _ _ h => h) (Or.inl ⟨by rfl, ?_⟩) (by assumption) ?_
      rotate_left
      · (intro w hSw; (try dsimp only at hSw); go_simp; try with_reducible rfl)
      try simp only [Act.put]
      try simp only [List.setIfInBounds_toArray]
      try simp only [List.set_cons_succ]
      try simp only [List.set_cons_zero]
      refine wpAnyH_take (i := 3) (v := ?_) rfl (by kernel_rfl) (by kernel_rfl) (by kernel_rfl) (fun _ _ _ h => h) (Or.inl ⟨by rfl, ?_⟩) (by assumption) ?_
      rotate_left
      · (intro w hSw; (try dsimp only at hSw); go_simp; try with_reducible rfl)
      try simp only [Act.put]
      try simp only [List.setIfInBounds_toArray]
      try simp only [List.set_cons_succ]
      try simp only [List.set_cons_zero]
      refine wpAnyH_take (i := 4) (v := ?_) rfl (by kernel_rfl) (by kernel_rfl) (by kernel_rfl) (fun _ _ _ h => h) (Or.inl ⟨by rfl, ?_⟩) (by assumption) ?_
      rotate_left
      · (intro w hSw; (try dsimp only at hSw); go_simp; try with_reducible rfl)
      try simp only [Act.put]
      try simp only [List.setIfInBounds_toArray]
      try simp only [List.set_cons_succ]
      try simp only [List.set_cons_zero]
      refine wpAnyH_take (i := 5) (v := ?_) rfl (by kernel_rfl) (by kernel_rfl) (by kernel_rfl) (fun _ _ _ h => h) (Or.inl ⟨by rfl, ?_⟩) (by assumption) ?_
      rotate_left
      · (intro w hSw; (try dsimp only at hSw); go_simp; try with_reducible rfl)
      try simp only [Act.put]
      try simp only [List.setIfInBounds_toArray]
      try simp only [List.set_cons_succ]
      try simp only [List.set_cons_zero]
      refine wpAnyH_take (i := 6) (v := ?_) rfl (by kernel_rfl) (by kernel_rfl) (by kernel_rfl) (fun _ _ _ h => h) (Or.inl ⟨by rfl, ?_⟩) (by assumption) ?_
      rotate_left
      · (intro w hSw; (try dsimp only at hSw); go_simp; try with_reducible rfl)
      try simp only [Act.put]
      try simp only [List.setIfInBounds_toArray]
      try simp only [List.set_cons_succ]
      try simp only [List.set_cons_zero]
      refine wpAnyH_take (i := 7) (v := ?_) rfl (by kernel_rfl) (by kernel_rfl) (by kernel_rfl) (fun _ _ _ h => h) (Or.inl ⟨by rfl, ?_⟩) (by assumption) ?_
      rotate_left
      · (intro w hSw; (try dsimp only at hSw); go_simp; try with_reducible rfl)
      try simp only [Act.put]
      try simp only [List.setIfInBounds_toArray]
      try simp only [List.set_cons_succ]
      try simp only [List.set_cons_zero]
      refine wpAnyH_take (i := 8) (v := ?_) rfl (by kernel_rfl) (by kernel_rfl) (by kernel_rfl) (fun _ _ _ h => h) (Or.inl ⟨by rfl, ?_⟩) (by assumption) ?_
      rotate_left
      · (intro w hSw; (try dsimp only at hSw); go_simp; try with_reducible rfl)
      try simp only [Act.put]
      try simp only [List.setIfInBounds_toArray]
      try simp only [List.set_cons_succ]
      try simp only [List.set_cons_zero]
      refine wpAnyH_take (i := 9) (v := ?_) rfl (by kernel_rfl) (by kernel_rfl) (by kernel_rfl) (fun _ _ _ h => h) (Or.inl ⟨by rfl, ?_⟩) (by assumption) ?_
      rotate_left
      · (intro w hSw; (try dsimp only at hSw); go_simp; try with_reducible rfl)
      try simp only [Act.put]
      try simp only [List.setIfInBounds_toArray]
      try simp only [List.set_cons_succ]
      try simp only [List.set_cons_zero]
      refine wpAnyH_done (by kernel_rfl) ?_ _
      refine LastQ.done ?_
      refine wpOp_step (i := 10) rfl (fun KK hK => ?_)
      have HK := hid hK
      clear hK
      go_simp
      refine HD.out.mono ?_
      rintro _ w1 ⟨rfl, hb1⟩
      refine HK.out _ _ ?_
      clear HK s0 xg
      cases bd
      · have HZ := hid (HB0.out w1 hb1 rfl)
        clear HB0 HB1 hb1 HD
        go_wp2
        go_roundw
        case rel => exact ⟨A ++ [x], R, j + 1, by simp, by omega, by have := HA.out.1; simp; omega, HZ.out⟩
        case measure => exact meas rfl hji
      · obtain ⟨P2, R2, m2, hdw⟩ := HB1.out w1 hb1 rfl
        have HV := hid (give_any x.b (.int .i64 x.seq) (.int .i64 x.dst) x.fn c.pb c.pc c.pt now x.snd x.due x.fin x.tms x.last w1.drew (P2.cs x (by simp)).me.at_ HA.out.2.2.1 HC.out.1 HA.out.2.2.2.1 HA.out.2.2.2.2.1)
        have s1 : w1.drew.cell? ⟨p, 4, none⟩ = some (.int .i64 c.pb) ∧ w1.drew.cell? ⟨p, 5, none⟩ = some (.int .i64 c.pc) ∧ w1.drew.cell? ⟨p, 6, none⟩ = some (.int .i64 c.pt) ∧ w1.drew.cell? ⟨p, 13, none⟩ = some (.int .i64 now) := ⟨P2.ce (k := 4) rfl, P2.ce (k := 5) rfl, P2.ce (k := 6) rfl, P2.ce (k := 13) rfl⟩
        have HT : Hid (∀ w2, w2.heap[x.b]? = some (gvB (.int .i64 x.seq) (.int .i64 x.dst) x.fn (runG c.pb c.pc c.pt now 40 (x.snd, x.due)).1 (runG c.pb c.pc c.pt now 40 (x.snd, x.due)).2 x.fin (x.tms + 1) now) → w1.drew.grownBy w2 (some x.b) → ∃ K3, PC K3 w2 B t p c oa cap next now (dueL c now A ++ givW c now x :: R) D (.slice (some ⟨g, 0, none⟩) n c14') vd q ∧ RW 78 3 pkC K3 w2 B tp u3 (pksL c (waterL next L) now A) ∧ Mv (fun u => u = t + 3 ∨ u = tp) w w2 K K3) := fun w2 hb hgr => by
          have htp := HC.out.2.2.2
          have hgr' : w1.grownBy w2 (some x.b) := ⟨hgr.os, hgr.tape, hgr.output, hgr.size, hgr.block⟩
          obtain ⟨P3, m3⟩ := P2.upd (x' := givW c now x) (w' := w2) ⟨rfl, rfl, rfl, rfl, rfl, rfl⟩ hb hgr'
          exact ⟨_, P3, R2.mv m3 (by omega), m2.trans (m3.mono (fun u e => .inl e))⟩
        clear HB0 HB1 hb1 HD P2 R2 m2
        go_wp2_with fail
        refine wp_region_last (S := fun w' => w'.cell? ⟨p, 4, none⟩ = some (.int .i64 c.pb) ∧ w'.cell? ⟨p, 5, none⟩ = some (.int .i64 c.pc) ∧ w'.cell? ⟨p, 6, none⟩ = some (.int .i64 c.pt) ∧ w'.cell? ⟨p, 13, none⟩ = some (.int .i64 now)) (n := 10) (by kernel_rfl) rfl (by kernel_rfl) (by kernel_rfl) ?_ (fun hHeld6 => ?_)
        · exact s1
        refine wpAnyH_take (i := 0) (v := ?_) rfl (by kernel_rfl) (by kernel_rfl) (by kernel_rfl) (fun _ _ _ h => h) (Or.inl ⟨by rfl, ?_⟩) (by assumption) ?_
        rotate_left
        · (intro w hSw; (try dsimp only at hSw); go_simp; try with_reducible rfl)
        try simp only [Act.put]
        try simp only [List.setIfInBounds_toArray]
        try simp only [List.set_cons_succ]
        try simp only [List.set_cons_zero]
        refine wpAnyH_take (i := 1) (v := ?_) rfl (by kernel_rfl) (by kernel_rfl) (by kernel_rfl) (fun _ _ _ h => h) (Or.inl ⟨by rfl, ?_⟩) (by assumption) ?_
        rotate_left
        · (intro w hSw; (try dsimp only at hSw); go_simp; try with_reducible rfl)
        try simp only [Act.put]
        try simp only [List.setIfInBounds_toArray]
        try simp only [List.set_cons_succ]
        try simp only [List.set_cons_zero]
        refine wpAnyH_take (i := 2) (v := ?_) rfl (by kernel_rfl) (by kernel_rfl) (by kernel_rfl) (fun _ _ _ h => h) (Or.inl ⟨by rfl, ?_⟩) (by assumption) ?_
        rotate_left
        · (intro w hSw; (try dsimp only at hSw); go_simp; try with_reducible rfl)
        try simp only [Act.put]
        try simp only [List.setIfInBounds_toArray]
        try simp only [List.set_cons_succ]
        try simp only [List.set_cons_zero]
        refine wpAnyH_take (i := 3) (v := ?_) rfl (by kernel_rfl) (by kernel_rfl) (by kernel_rfl) (fun _ _ _ h => h) (Or.inl ⟨by rfl, ?_⟩) (by assumption) ?_
        rotate_left
        · (intro w hSw; (try dsimp only at hSw); go_simp; try with_reducible rfl)
        try simp only [Act.put]
        try simp only [List.setIfInBounds_toArray]
        try simp only [List.set_cons_succ]
        try simp only [List.set_cons_zero]
        refine wpAnyH_take (i := 4) (v := ?_) rfl (by kernel_rfl) (by kernel_rfl) (by kernel_rfl) (fun _ _ _ h => h) (Or.inl ⟨by rfl, ?_⟩) (by assumption) ?_
        rotate_left
        · (intro w hSw; (try dsimp only at hSw); go_simp; try with_reducible rfl)
        try simp only [Act.put]
        try simp only [List.setIfInBounds_toArray]
        try simp only [List.set_cons_succ]
        try simp only [List.set_cons_zero]
        refine wpAnyH_take (i := 5) (v := ?_) rfl (by kernel_rfl) (by kernel_rfl) (by kernel_rfl) (fun _ _ _ h => h) (Or.inl ⟨by rfl, ?_⟩) (by assumption) ?_
        rotate_left
        · (intro w hSw; (try dsimp only at hSw); go_simp; try with_reducible rfl)
        try simp only [Act.put]
        try simp only [List.setIfInBounds_toArray]
        try simp only [List.set_cons_succ]
        try simp only [List.set_cons_zero]
        refine wpAnyH_take (i := 6) (v := ?_) rfl (by kernel_rfl) (by kernel_rfl) (by kernel_rfl) (fun _ _ _ h => h) (Or.inl ⟨by rfl, ?_⟩) (by assumption) ?_
        rotate_left
        · (intro w hSw; (try dsimp only at hSw); go_simp; try with_reducible rfl)
        try simp only [Act.put]
        try simp only [List.setIfInBounds_toArray]
        try simp only [List.set_cons_succ]
        try simp only [List.set_cons_zero]
        refine wpAnyH_take (i := 7) (v := ?_) rfl (by kernel_rfl) (by kernel_rfl) (by kernel_rfl) (fun _ _ _ h => h) (Or.inl ⟨by rfl, ?_⟩) (by assumption) ?_
        rotate_left
        · (intro w hSw; (try dsimp only at hSw); go_simp; try with_reducible rfl)
        try simp only [Act.put]
        try simp only [List.setIfInBounds_toArray]
        try simp only [List.set_cons_succ]
        try simp only [List.set_cons_zero]
        refine wpAnyH_take (i := 8) (v := ?_) rfl (by kernel_rfl) (by kernel_rfl) (by kernel_rfl) (fun _ _ _ h => h) (Or.inl ⟨by rfl, ?_⟩) (by assumption) ?_
        rotate_left
        · (intro w hSw; (try dsimp only at hSw); go_simp; try with_reducible rfl)
        try simp only [Act.put]
        try simp only [List.setIfInBounds_toArray]
        try simp only [List.set_cons_succ]
        try simp only [List.set_cons_zero]
        refine wpAnyH_take (i := 9) (v := ?_) rfl (by kernel_rfl) (by kernel_rfl) (by kernel_rfl) (fun _ _ _ h => h) (Or.inl ⟨by rfl, ?_⟩) (by assumption) ?_
        rotate_left
        · (intro w hSw; (try dsimp only at hSw); go_simp; try with_reducible rfl)
        try simp only [Act.put]
        try simp only [List.setIfInBounds_toArray]
        try simp only [List.set_cons_succ]
        try simp only [List.set_cons_zero]
        refine wpAnyH_done (by kernel_rfl) ?_ _
        refine LastQ.done ?_
        refine wpOp_step (i := 10) rfl (fun KK hK => ?_)
        have HK := hid hK
        clear hK
        go_simp
        refine HV.out.mono ?_
        rintro _ w2 ⟨⟨v6, rfl⟩, hb2, hg2⟩
        refine HK.out _ _ ?_
        obtain ⟨K3, P3, R3, m3⟩ := HT.out w2 hb2 hg2
        clear HK s1 HV HT hb2 hg2
        have hx3 := P3.cs (givW c now x) (by simp)
        have s3 : w2.drew.cell? ⟨x.b, 2, none⟩ = some (.func (.func 93) #[] #[ptr x.bx, ptr x.bc, ptr x.bt]) := cell_at (w := w2.drew) hx3.me.at_ rfl
        have hwa : waterL next (dueL c now A ++ givW c now x :: R) = waterL next L := by
          rw [← HA.out.2.1]
          have h1 := water_due c next now (A ++ [x]) R
          rw [dueL_app] at h1
          simpa [dueL, hdw] using h1
        have HW : Hid (Calls Tryz.prog 23 #[ptr p] w2.drew fun e w' => e = .returned (.int .i64 (waterL next L)) ∧ w' = w2.drew) := by
          have := (P3.to (mv_drewN w2 K3 1) (fun _ e => e.elim)).water_any
          rw [hwa] at this
          exact this
        obtain ⟨wt, hwt⟩ : ∃ wt, waterL next L = wt := ⟨_, rfl⟩
        rw [hwt] at HW R3
        have HQ : Hid (Calls Tryz.prog 93 #[.int .i64 wt, ptr x.bx, ptr x.bc, ptr x.bt] w2.drew fun e w' => e = .returned (.agg #[.int .i64 c.ad, .int .i64 x.dst, .string ⟨((givW c now x).data c wt).toArray⟩]) ∧ Below w2.heap.size w2 w') := by
          have hP := P3.to (mv_drewN w2 K3 1) (fun _ e => e.elim)
          have hl := HC.out.2.1
          refine ((hP.cs (givW c now x) (by simp)).request_any wt hP.err hP.gs.at_ hP.gl (by omega) HA.out.2.2.2.2.2).mono ?_
          rintro e w' ⟨e1, hb⟩
          exact ⟨e1, hb.os, hb.tape, hb.output, hb.size, hb.block⟩
        obtain ⟨dat, hdat⟩ : ∃ dat : ByteArray, (⟨((givW c now x).data c wt).toArray⟩ : ByteArray) = dat := ⟨_, rfl⟩
        rw [hdat] at HQ
        have HT : Hid (∀ w3, Below w2.heap.size w2 w3 → (w3.cell? ⟨x.b, 2, none⟩ = some (.func (.func 93) #[] #[ptr x.bx, ptr x.bc, ptr x.bt])) ∧ ∀ w4 N4, w3.heap.size = N4 → w3.alloc (.cells #[.int .i64 c.ad, .int .i64 x.dst, .string dat] 78) = w4 → (w4.cell? ⟨x.b, 2, none⟩ = some (.func (.func 93) #[] #[ptr x.bx, ptr x.bc, ptr x.bt])) ∧ ∃ v5 w5, (∀ r, (Builtin.append_ #[73, 73] r #[u3, .slice (some ⟨N4, 0, none⟩) 1 1]).run Tryz.prog w4 = .ok v5 w5) ∧ (w5.cell? ⟨x.b, 2, none⟩ = some (.func (.func 93) #[] #[ptr x.bx, ptr x.bc, ptr x.bt])) ∧ DueR K w w5 B t p tp c oa cap next now L D (.slice (some ⟨g, 0, none⟩) n c14') vd q (A ++ [x]) R v5) := fun w3 hb3 => by
          have htp := HC.out.2.2.2
          refine ⟨cell_at ((hb3.block x.b hx3.me.lt).trans hx3.me.at_) rfl, fun w4 N4 hN4 hw4 => ?_⟩
          have hb4 : Below w2.heap.size w2 w4 := by rw [← hw4]; exact hb3.alloc hb3.size _
          have m4 := Mv.of_below hb4 K3 (fun _ => t + 8)
          have P4 := P3.below hb4 (fun _ => t + 8)
          have R4 := R3.mv m4 (fun e => e)
          generalize ext w2 K3 (fun _ => t + 8) = K4 at m4 P4 R4
          have hN : w4.heap[N4]? = some (.cells (pkC ⟨c.ad, x.dst, (givW c now x).data c wt⟩).toArray 78) := by rw [← hw4, ← hN4, ← hdat]; exact (MapKept.heap_alloc w3 _).1
          obtain ⟨v5, w5, K5, hr, R5, m5⟩ := app73 R4 P4.hB hN (by have := pksL_len c wt now A; have := HC.out.2.2.1; have := HA.out.1; omega)
          have P5 := P4.toOther m5 htp
          refine ⟨cell_at ((hb4.block x.b hx3.me.lt).trans hx3.me.at_) rfl, v5, w5, hr, cell_at (P5.cs (givW c now x) (by simp)).me.at_ rfl, ⟨⟨K5, ?_, ?_, m3.trans ((m4.mono (fun _ e => e.elim)).trans (m5.mono (fun u e => .inr e)))⟩, by rw [List.append_assoc]; exact HA.out.2.1⟩⟩
          · rw [dueL_app]
            simpa [dueL, hdw] using P5
          · rw [pksL_app, hwt]
            have : pksL c wt now [x] = [⟨c.ad, x.dst, (givW c now x).data c wt⟩] := by simp [pksL, hdw]; rfl
            rw [this]
            exact R5
        have hb73 := fun v0 v1 s w => bls73 v0 v1 s w
        clear P3 R3 m3 hx3 hwa hwt hdat hdw
        go_wp2_with fail
        refine wp_region_last (S := fun w' => w'.cell? ⟨x.b, 2, none⟩ = some (.func (.func 93) #[] #[ptr x.bx, ptr x.bc, ptr x.bt])) (n := 10) (by kernel_rfl) rfl (by kernel_rfl) (by kernel_rfl) ?_ (fun hHeld7 => ?_)
        · exact s3
        refine wpAnyH_take (i := 0) (v := ?_) rfl (by kernel_rfl) (by kernel_rfl) (by kernel_rfl) (fun _ _ _ h => h) (Or.inl ⟨by rfl, ?_⟩) (by assumption) ?_
        rotate_left
        · (intro w hSw; (try dsimp only at hSw); go_simp; try with_reducible rfl)
        try simp only [Act.put]
        try simp only [List.setIfInBounds_toArray]
        try simp only [List.set_cons_succ]
        try simp only [List.set_cons_zero]
        refine wpAnyH_take (i := 1) (v := ?_) rfl (by kernel_rfl) (by kernel_rfl) (by kernel_rfl) (fun _ _ _ h => h) (Or.inl ⟨by rfl, ?_⟩) (by assumption) ?_
        rotate_left
        · (intro w hSw; (try dsimp only at hSw); go_simp; try with_reducible rfl)
        try simp only [Act.put]
        try simp only [List.setIfInBounds_toArray]
        try simp only [List.set_cons_succ]
        try simp only [List.set_cons_zero]
        refine wpAnyH_take (i := 2) (v := ?_) rfl (by kernel_rfl) (by kernel_rfl) (by kernel_rfl) (fun _ _ _ h => h) (Or.inl ⟨by rfl, ?_⟩) (by assumption) ?_
        rotate_left
        · (intro w hSw; (try dsimp only at hSw); go_simp; try with_reducible rfl)
        try simp only [Act.put]
        try simp only [List.setIfInBounds_toArray]
        try simp only [List.set_cons_succ]
        try simp only [List.set_cons_zero]
        refine wpAnyH_take (i := 3) (v := ?_) rfl (by kernel_rfl) (by kernel_rfl) (by kernel_rfl) (fun _ _ _ h => h) (Or.inl ⟨by rfl, ?_⟩) (by assumption) ?_
        rotate_left
        · (intro w hSw; (try dsimp only at hSw); go_simp; try with_reducible rfl)
        try simp only [Act.put]
        try simp only [List.setIfInBounds_toArray]
        try simp only [List.set_cons_succ]
        try simp only [List.set_cons_zero]
        refine wpAnyH_take (i := 4) (v := ?_) rfl (by kernel_rfl) (by kernel_rfl) (by kernel_rfl) (fun _ _ _ h => h) (Or.inl ⟨by rfl, ?_⟩) (by assumption) ?_
        rotate_left
        · (intro w hSw; (try dsimp only at hSw); go_simp; try with_reducible rfl)
        try simp only [Act.put]
        try simp only [List.setIfInBounds_toArray]
        try simp only [List.set_cons_succ]
        try simp only [List.set_cons_zero]
        refine wpAnyH_take (i := 5) (v := ?_) rfl (by kernel_rfl) (by kernel_rfl) (by kernel_rfl) (fun _ _ _ h => h) (Or.inl ⟨by rfl, ?_⟩) (by assumption) ?_
        rotate_left
        · (intro w hSw; (try dsimp only at hSw); go_simp; try with_reducible rfl)
        try simp only [Act.put]
        try simp only [List.setIfInBounds_toArray]
        try simp only [List.set_cons_succ]
        try simp only [List.set_cons_zero]
        refine wpAnyH_ready (rs := [6]) (by kernel_rfl) (by simp) ?_
        refine AllReadyH.cons rfl (fun KK hK => ?_) AllReadyH.nil
        go_simp
        refine HW.out.mono ?_
        rintro _ _ ⟨rfl, rfl⟩
        refine hK.out _ _ ?_ (fun hHeld8 => ?_)
        · exact s3
        clear hK hHeld7
        try simp only [Act.put]
        try simp only [List.setIfInBounds_toArray]
        try simp only [List.set_cons_succ]
        try simp only [List.set_cons_zero]
        refine wpAnyH_ready (rs := [7]) (by kernel_rfl) (by simp) ?_
        refine AllReadyH.cons rfl (fun KK hK => ?_) AllReadyH.nil
        go_simp
        refine HQ.out.mono ?_
        rintro _ w3 ⟨rfl, hb3⟩
        obtain ⟨s4, ht4⟩ := HT.out w3 hb3
        obtain ⟨N4, hN4⟩ : ∃ y, w3.heap.size = y := ⟨_, rfl⟩
        obtain ⟨w4, hw4⟩ : ∃ y, w3.alloc (.cells #[.int .i64 c.ad, .int .i64 x.dst, .string dat] 78) = y := ⟨_, rfl⟩
        obtain ⟨s5, v5, w5, r5, s6, hfin⟩ := ht4 w4 N4 hN4 hw4
        have HRun := hid r5
        have HFin := hid hfin
        clear r5 hfin ht4 hb3 HT
        refine hK.out _ _ ?_ (fun hHeld9 => ?_)
        · exact s4
        clear hK hHeld8
        try simp only [Act.put]
        try simp only [List.setIfInBounds_toArray]
        try simp only [List.set_cons_succ]
        try simp only [List.set_cons_zero]
        refine wpAnyH_ready (rs := [8]) (by kernel_rfl) (by simp) ?_
        refine AllReadyH.cons rfl (fun KK hK => ?_) AllReadyH.nil
        go_simp
        refine hK.out _ _ ?_ (fun hHeld10 => ?_)
        · exact s5
        clear hK hHeld9
        try simp only [Act.put]
        try simp only [List.setIfInBounds_toArray]
        try simp only [List.set_cons_succ]
        try simp only [List.set_cons_zero]
        refine wpAnyH_ready (rs := [9]) (by kernel_rfl) (by simp) ?_
        refine AllReadyH.cons rfl (fun KK hK => ?_) AllReadyH.nil
        refine step_app rfl (.tmp 37) (.tmp 45) 73 rfl u3 (.slice (some ⟨N4, 0, none⟩) 1 1) _ _ (by go_simp) (by go_simp) (HRun.out _) ?_
        refine hK.out _ _ ?_ (fun hHeld11 => ?_)
        · exact s6
        clear hK hHeld10
        try simp only [Act.put]
        try simp only [List.setIfInBounds_toArray]
        try simp only [List.set_cons_succ]
        try simp only [List.set_cons_zero]
        refine wpAnyH_done (by kernel_rfl) ?_ _
        refine LastQ.done ?_
        refine wpOp_step (i := 10) rfl (fun KK hK => ?_)
        have HK := hid hK
        clear hK
        go_simp
        refine HK.out _ _ ?_
        clear HK
        go_wp2
        go_roundw
        case rel => exact ⟨A ++ [x], R, j + 1, by simp, by omega, by have := HA.out.1; simp; omega, HFin.out⟩
        case measure => exact meas rfl hji
end
end Go.Proofs.YtfcbjcebkahehaaGreatDoor.Cl
namespace Go.Proofs.YtfcbjcebkahehaaGreatDoor.Cl
open Go.RowKit
/-- is a reply of the sequence n from src for the call x? -/
def hitW (n src : Int) (x : Wt) : Bool := decide (x.seq = n) && decide (x.dst = src)
theorem hit_any (b rb sb : Nat) (seq dst n src : Int) (w : World) (h0 : w.cell? ⟨b, 0, none⟩ = some (.int .i64 seq)) (h1 : w.cell? ⟨b, 1, none⟩ = some (.int .i64 dst)) (hr : w.cell? ⟨rb, 0, none⟩ = some (.int .i64 n)) (hs : w.cell? ⟨sb, 0, none⟩ = some (.int .i64 src)) :
    Calls Tryz.prog 85 #[ptr b, ptr rb, ptr sb] w fun e w' => e = .returned (.bool (decide (seq = n) && decide (dst = src))) ∧ ∃ k, w' = w.drewN k := by
  by_cases e1 : seq = n
  · subst e1
    by_cases e2 : dst = src
    · subst e2
      go_enter Tryz.func85, Tryz.ntmps85
      go_wp2_with fail
      go_quiet (fail)
      go_wp2
      go_ret
      exact ⟨by simp, _, rfl⟩
    · have e3 : (dst == src) = false := by simpa using e2
      go_enter Tryz.func85, Tryz.ntmps85
      go_wp2_with fail
      go_quiet (fail)
      go_wp2
      go_ret
      exact ⟨by simp [e2], _, rfl⟩
  · have e3 : (seq == n) = false := by simpa using e1
    go_enter Tryz.func85, Tryz.ntmps85
    go_wp2_with fail
    go_quiet (fail)
    go_wp2
    go_ret
    exact ⟨by simp [e1], _, rfl⟩
section
variable {K K' : Nat → Nat} {w w' : World} {B t p : Nat} {c : Cf} {oa : Option Addr} {cap : Nat} {next now : Int} {L : List Wt} {D : List Oc} {vw vd : Value} {q : Mq}
set_option maxRecDepth 8000 in
set_option maxHeartbeats 4000000 in
theorem PC.index_any (h : PC K w B t p c oa cap next now L D vw vd q) (rb sb : Nat) (m src : Int) (hr : w.cell? ⟨rb, 0, none⟩ = some (.int .i64 m)) (hs : w.cell? ⟨sb, 0, none⟩ = some (.int .i64 src)) (hL : L.length ≤ 100000000) :
    Calls Tryz.prog 84 #[vw, .func (.func 85) #[] #[ptr rb, ptr sb]] w fun e w' => (∃ k, w' = w.drewN k) ∧ ((∃ A x R, L = A ++ x :: R ∧ e = .returned (.int .i64 (A.length : Int)) ∧ hitW m src x = true ∧ ∀ y ∈ A, hitW m src y = false) ∨ (e = .returned (.int .i64 (-1)) ∧ ∀ y ∈ L, hitW m src y = false)) := by
  obtain ⟨o14, c14', ew, _, hg⟩ := h.wr.form
  rw [List.length_map] at ew hg
  subst ew
  obtain ⟨n, hn⟩ : ∃ n, L.length = n := ⟨_, rfl⟩
  have HH : Hid (PC K w B t p c oa cap next now L D (.slice o14 n c14') vd q ∧ w.cell? ⟨rb, 0, none⟩ = some (.int .i64 m) ∧ w.cell? ⟨sb, 0, none⟩ = some (.int .i64 src) ∧ n ≤ 100000000) := ⟨by rw [← hn]; exact h, hr, hs, by omega⟩
  have HG := hid hg
  have HN := hid hn
  rw [hn]
  clear h hr hs hg hn hL
  go_enter Tryz.func84, Tryz.ntmps84
  go_wp2_with fail
  go_loopw [8] (fun u8 wr => ∃ (A R : List Wt) (j : Nat), u8 = .int .i64 (j : Int) ∧ j ≤ n ∧ Hid (A.length = j ∧ A ++ R = L ∧ (∀ y ∈ A, hitW m src y = false) ∧ ∃ k, wr = w.drewN k)) (fun u8 _ => n - (intOf u8).toNat)
  case atStart => exact ⟨[], L, 0, rfl, by omega, rfl, rfl, by simp, 0, rfl⟩
  case round =>
    obtain ⟨A, R, j, rfl, hjn, HR⟩ := hrel
    obtain ⟨wo, hwo⟩ : ∃ yy, yy = wr := ⟨_, rfl⟩
    subst hwo
    obtain ⟨hjA, hAR, hall, k, hk⟩ := HR.out
    have hle : A.length + R.length = n := by rw [← HN.out, ← hAR]; simp
    cases R with
    | nil =>
      have hj : j = n := by simp at hle; omega
      subst hj
      have HF : Hid ((∃ k, wo = w.drewN k) ∧ ∀ y ∈ L, hitW m src y = false) := ⟨⟨k, hk⟩, by rw [← hAR, List.append_nil]; exact hall⟩
      clear hjA hAR hall hk hle HR HH HG
      go_wp2
      go_ret
      exact ⟨HF.out.1, .inr ⟨rfl, HF.out.2⟩⟩
    | cons x R =>
      have hjl : j < n := by simp at hle; omega
      have hji : (j : Int) < (n : Int) := by omega
      obtain ⟨g, rfl⟩ := HG.out (by rw [HN.out]; omega)
      obtain ⟨P, hr, hs, hnb⟩ := HH.out
      have hx := P.cs x (by rw [← hAR]; simp)
      have xg : wo.cell? ⟨g, j, none⟩ = some (ptr x.b) := by
        have := P.wr.cell ptrL (by rw [List.length_map]; exact HN.out) (j := j) (x := x.b) (by rw [← hAR, List.map_append, List.getElem?_append_right (by simp; omega)]; simp [hjA]) 0 (by omega)
        rw [hk]
        show w.cell? _ = _
        simpa [ptrC] using this
      have HC := hid (hit_any x.b rb sb x.seq x.dst m src wo (by rw [hk]; exact cell_at (w := w) hx.me.at_ rfl) (by rw [hk]; exact cell_at (w := w) hx.me.at_ rfl) (by rw [hk]; exact hr) (by rw [hk]; exact hs))
      obtain ⟨bd, hbd⟩ : ∃ bd, (decide (x.seq = m) && decide (x.dst = src)) = bd := ⟨_, rfl⟩
      rw [hbd] at HC
      have hj1 : wrap64 ((j : Int) + 1) = (j : Int) + 1 := wrapS (by omega)
      have HD : Hid (hitW m src x = bd ∧ A.length = j ∧ A ++ x :: R = L ∧ (∀ y ∈ A, hitW m src y = false) ∧ wo = w.drewN k) := ⟨hbd, hjA, hAR, hall, hk⟩
      clear hjA hAR hall hk hle HR HH HG P hr hs hnb hx hbd HN
      go_wp2_with fail
      refine HC.out.mono ?_
      rintro _ w1 ⟨rfl, k1, hk1⟩
      have HW : Hid (∃ k, w1 = w.drewN k) := ⟨k + k1, by
        rw [hk1, HD.out.2.2.2.2]
        simp [World.drewN, Nat.add_assoc]⟩
      clear HC hk1
      cases bd
      · go_wp2
        go_roundw
        case rel => exact ⟨A ++ [x], R, j + 1, by rw [hj1]; simp, by omega, by have := HD.out.2.1; simp; omega, by rw [List.append_assoc]; exact HD.out.2.2.1, fun y hy => by
            rcases List.mem_append.1 hy with e | e
            · exact HD.out.2.2.2.1 y e
            · simp at e; rw [e]; exact HD.out.1, HW.out⟩
        case measure => exact meas hj1 hji
      · go_wp2
        go_ret
        exact ⟨HW.out, .inl ⟨A, x, R, HD.out.2.2.1.symm, by rw [HD.out.2.1]; rfl, HD.out.1, HD.out.2.2.2.1⟩⟩
end
end Go.Proofs.YtfcbjcebkahehaaGreatDoor.Cl
