/- The law's own functions: the same sys, the same mark. -/
import Derived.Test.YtihcdahmfdijoaaGreatDoorCt
namespace Go.Proofs.YtihcdahmfdijoaaGreatDoor
open Go.RowKit
set_option maxRecDepth 4000 in
theorem syses_core (st us gr : Int) (mc : List UInt8) (gs : List Int) (oa ob : Option Addr) (ca cb : Nat) (w : World) (hg : GsAt w w.heap.size oa gs) (hh : GsAt w w.heap.size ob gs) (hl : (gs.length : Int) ≤ 9223372036854775807) :
    Calls Tryz.prog 11 #[.agg #[.int .i64 st, .string ⟨mc.toArray⟩, .int .i64 us, .int .i64 gr, .slice oa gs.length ca], .agg #[.int .i64 st, .string ⟨mc.toArray⟩, .int .i64 us, .int .i64 gr, .slice ob gs.length cb]] w fun e w' => e = .returned (.bool true) ∧ Below w.heap.size w w' := by
  obtain ⟨w2, hw2⟩ : ∃ x, (w.alloc (.cells #[.int .i64 st, .string ⟨mc.toArray⟩, .int .i64 us, .int .i64 gr, .slice oa gs.length ca] 30)).alloc (.cells #[.int .i64 st, .string ⟨mc.toArray⟩, .int .i64 us, .int .i64 gr, .slice ob gs.length cb] 30) = x := ⟨_, rfl⟩
  have h2 := two_start [.int .i64 st, .string ⟨mc.toArray⟩, .int .i64 us, .int .i64 gr, .slice oa gs.length ca] [.int .i64 st, .string ⟨mc.toArray⟩, .int .i64 us, .int .i64 gr, .slice ob gs.length cb] _ _ w w2 hw2.symm
  have hk1 : Bk w2 w.heap.size [.int .i64 st, .string ⟨mc.toArray⟩, .int .i64 us, .int .i64 gr, .slice oa gs.length ca] 30 := by rw [← hw2]; exact (Bk.new w [.int .i64 st, .string ⟨mc.toArray⟩, .int .i64 us, .int .i64 gr, .slice oa gs.length ca] _).below (below_new _ _) (by simp)
  have HI : Hid (Calls Tryz.prog 30 #[.slice oa gs.length ca, .slice ob gs.length cb] w2 fun e w' => e = .returned (.bool true) ∧ Below w2.heap.size w2 w') := by
    have := ints_any oa ob ca cb gs gs w2 ((hg.below h2.2.1).mono (by omega)) ((hh.below h2.2.1).mono (by omega)) hl
    rwa [show (gs == gs) = true by simp] at this
  have HW2 := hid hw2
  have H2 := hid (And.intro hk1 h2)
  clear hw2 h2 hk1 hg hh hl
  go_enter Tryz.func11, Tryz.ntmps11
  go_wp2_with fail
  rw [HW2.out]
  refine HI.out.mono ?_
  rintro e w3 ⟨rfl, hB3⟩
  have hz := H2.out.2.2.2
  have k1 := H2.out.1.below hB3 (by omega)
  have k2 := H2.out.2.1.below hB3 (by omega)
  have c0 := k1.cell 0 rfl
  have c1 := k1.cell 1 rfl
  have c2 := k1.cell 2 rfl
  have c3 := k1.cell 3 rfl
  have d0 := k2.cell 0 rfl
  have d1 := k2.cell 1 rfl
  have d2 := k2.cell 2 rfl
  have d3 := k2.cell 3 rfl
  have HB : Hid (Below w.heap.size w w3) := H2.out.2.2.1.trans (hB3.mono (by omega))
  clear k1 k2 hz hB3
  go_wp2
  go_ret
  exact ⟨rfl, HB.out⟩
set_option maxRecDepth 4000 in
theorem marks_core (i q u st us gr : Int) (mc : List UInt8) (gs : List Int) (oa ob : Option Addr) (ca cb : Nat) (w : World) (hg : GsAt w w.heap.size oa gs) (hh : GsAt w w.heap.size ob gs) (hl : (gs.length : Int) ≤ 9223372036854775807) :
    Calls Tryz.prog 12 #[.agg #[.int .i64 i, .int .i64 q, .int .i64 u, .int .i64 st, .string ⟨mc.toArray⟩, .int .i64 us, .int .i64 gr, .slice oa gs.length ca], .agg #[.int .i64 i, .int .i64 q, .int .i64 u, .int .i64 st, .string ⟨mc.toArray⟩, .int .i64 us, .int .i64 gr, .slice ob gs.length cb]] w fun e w' => e = .returned (.bool true) ∧ Below w.heap.size w w' := by
  obtain ⟨w2, hw2⟩ : ∃ x, (w.alloc (.cells #[.int .i64 i, .int .i64 q, .int .i64 u, .int .i64 st, .string ⟨mc.toArray⟩, .int .i64 us, .int .i64 gr, .slice oa gs.length ca] 35)).alloc (.cells #[.int .i64 i, .int .i64 q, .int .i64 u, .int .i64 st, .string ⟨mc.toArray⟩, .int .i64 us, .int .i64 gr, .slice ob gs.length cb] 35) = x := ⟨_, rfl⟩
  have h2 := two_start [.int .i64 i, .int .i64 q, .int .i64 u, .int .i64 st, .string ⟨mc.toArray⟩, .int .i64 us, .int .i64 gr, .slice oa gs.length ca] [.int .i64 i, .int .i64 q, .int .i64 u, .int .i64 st, .string ⟨mc.toArray⟩, .int .i64 us, .int .i64 gr, .slice ob gs.length cb] _ _ w w2 hw2.symm
  have hk1 : Bk w2 w.heap.size [.int .i64 i, .int .i64 q, .int .i64 u, .int .i64 st, .string ⟨mc.toArray⟩, .int .i64 us, .int .i64 gr, .slice oa gs.length ca] 35 := by rw [← hw2]; exact (Bk.new w [.int .i64 i, .int .i64 q, .int .i64 u, .int .i64 st, .string ⟨mc.toArray⟩, .int .i64 us, .int .i64 gr, .slice oa gs.length ca] _).below (below_new _ _) (by simp)
  have HI := hid (syses_core st us gr mc gs oa ob ca cb w2 ((hg.below h2.2.1).mono (by omega)) ((hh.below h2.2.1).mono (by omega)) hl)
  have HW2 := hid hw2
  have H2 := hid (And.intro hk1 h2)
  clear hw2 h2 hk1 hg hh hl
  go_enter Tryz.func12, Tryz.ntmps12
  go_wp2_with fail
  rw [HW2.out]
  refine HI.out.mono ?_
  rintro e w3 ⟨rfl, hB3⟩
  have hz := H2.out.2.2.2
  have k1 := H2.out.1.below hB3 (by omega)
  have k2 := H2.out.2.1.below hB3 (by omega)
  have c0 := k1.cell 0 rfl
  have c1 := k1.cell 1 rfl
  have c2 := k1.cell 2 rfl
  have d0 := k2.cell 0 rfl
  have d1 := k2.cell 1 rfl
  have d2 := k2.cell 2 rfl
  have HB : Hid (Below w.heap.size w w3) := H2.out.2.2.1.trans (hB3.mono (by omega))
  clear k1 k2 hz hB3
  go_wp2
  go_ret
  exact ⟨rfl, HB.out⟩
def addF (a b : Int) : Int := if 2147483647 < a ∨ 2147483647 < b then 2147483648 else a + b
theorem addsUp_fits (a b : Int) (w : World) (ha0 : 0 ≤ a) (hb0 : 0 ≤ b) (ha : a ≤ 2147483647) (hb : b ≤ 2147483647) : Calls Tryz.prog 5 #[.int .i64 a, .int .i64 b] w fun e w' => e = .returned (.int .i64 (a + b)) ∧ w' = w := by
  go_enter Tryz.func5, Tryz.ntmps5
  go_wp2
  go_ret
  exact ⟨rfl, rfl⟩
theorem addsUp_over (a b : Int) (w : World) (h : 2147483647 < a ∨ 2147483647 < b) : Calls Tryz.prog 5 #[.int .i64 a, .int .i64 b] w fun e w' => e = .returned (.int .i64 2147483648) ∧ w' = w := by
  by_cases ha : 2147483647 < a
  · clear h
    go_enter Tryz.func5, Tryz.ntmps5
    go_wp2
    go_ret
    exact ⟨rfl, rfl⟩
  · have hb : 2147483647 < b := h.resolve_left ha
    clear h
    go_enter Tryz.func5, Tryz.ntmps5
    go_wp2
    go_ret
    exact ⟨rfl, rfl⟩
theorem addsUp_any (a b : Int) (w : World) (ha0 : 0 ≤ a) (hb0 : 0 ≤ b) : Calls Tryz.prog 5 #[.int .i64 a, .int .i64 b] w fun e w' => e = .returned (.int .i64 (addF a b)) ∧ w' = w := by
  unfold addF
  by_cases h : 2147483647 < a ∨ 2147483647 < b
  · rw [if_pos h]; exact addsUp_over a b w h
  · rw [if_neg h]; exact addsUp_fits a b w ha0 hb0 (by omega) (by omega)
theorem addF_le {a b : Int} (h : addF a b ≤ 2147483647) : a + b = addF a b := by
  unfold addF at h ⊢
  split at h
  · omega
  · rename_i h1; rw [if_neg h1]
theorem addF_pos {a b : Int} (ha : 0 ≤ a) (hb : 0 ≤ b) : 0 ≤ addF a b := by unfold addF; split <;> omega
end Go.Proofs.YtihcdahmfdijoaaGreatDoor
