/- The client: the document's New. -/
import Derived.Test.YteejeemljhmgcaaGreatDoorJf
import Derived.Test.YteejeemljhmgcaaGreatDoorWb
namespace Go.Proofs.YteejeemljhmgcaaGreatDoor.Cl
open Go.RowKit
abbrev dmB : Obj := .cells #[.bool false, .float .f32 0, .float .f32 0] 120
abbrev dcB (c : Cf) (oa : Option Addr) (cap : Nat) (time next : Int) (vl vo : Value) (q : Nat) : Obj := .cells #[.int .i64 c.ad, .int .i64 c.inst, .int .i64 c.first, .int .i64 c.win, .int .i64 c.pb, .int .i64 c.pc, .int .i64 c.pt, .int .i64 c.sys.stamp, .string ⟨c.sys.machine.toArray⟩, .int .i64 c.sys.user, .int .i64 c.sys.group, .slice oa c.sys.groups.length cap, .int .i64 time, .int .i64 next, vl, vo, ptr q] 123
theorem bld120 (w : World) : (Instr.build 120 #[]).run Tryz.prog w = .ok (.agg #[.bool false, .float .f32 0, .float .f32 0]) w := by kernel_rfl
theorem bld123 (c : Cf) (oa : Option Addr) (cap q : Nat) (w : World) : (Instr.build 123 #[(0, .agg (cfA c oa cap)), (2, .int .i64 c.first), (5, ptr q)]).run Tryz.prog w = .ok (.agg #[.int .i64 c.ad, .int .i64 c.inst, .int .i64 c.first, .int .i64 c.win, .int .i64 c.pb, .int .i64 c.pc, .int .i64 c.pt, .int .i64 c.sys.stamp, .string ⟨c.sys.machine.toArray⟩, .int .i64 c.sys.user, .int .i64 c.sys.group, .slice oa c.sys.groups.length cap, .int .i64 0, .int .i64 c.first, .slice none 0 0, .slice none 0 0, ptr q]) w := by kernel_rfl
/-- numbers put behind nothing -/
theorem gnil_any (gs : List Int) (oa : Option Addr) (cap : Nat) (w : World) (hg : GsAt w w.heap.size oa gs) (hl : gs.length ≤ 1000000) :
    ∃ oa' c w', (∀ ty, (Builtin.append_ #[24, 24] ty #[.slice none 0 0, .slice oa gs.length cap]).run Tryz.prog w = .ok (.slice oa' gs.length c) w') ∧ gs.length ≤ c ∧ GsN w' w.heap.size oa' gs ∧ Below w.heap.size w w' ∧ (∀ a, oa' = some a → a.spot = none ∧ w.heap.size ≤ a.block) := by
  obtain ⟨i, hi, hz, hs, hby⟩ := info3
  rcases Nat.eq_zero_or_pos gs.length with h0 | h0
  · refine ⟨none, 0, w, fun ty => ?_, by omega, fun h => by omega, Below.refl _ _, fun a h => by cases h⟩
    rw [h0]
    cases oa <;> simp [Builtin.append_, run_underlying Tryz.underlying24, sizeOf, typeInfo, hi, Builtin.lenOf, Builtin.firstCells, loadCells, loadCellsFrom]
  · obtain ⟨q, off, rfl, hq, hc⟩ := hg h0
    have hgl : (gvs gs).length = gs.length := by unfold gvs; simp
    have hge := grownCap_ge w gs.length 0 3
    have hcells : ∀ j v, (gvs gs)[j]? = some v → w.cell? ((⟨q, off, none⟩ : Addr).add j) = some v := fun j v hv => by
      have hj : j < gs.length := by have := (List.getElem?_eq_some_iff.1 hv).1; omega
      rw [Addr.add_lit, hc j hj]
      unfold gvs at hv
      rw [List.getElem?_map, List.getElem?_eq_getElem hj] at hv
      simp at hv
      rw [← hv]
      simp [List.getD, List.getElem?_eq_getElem hj]
    have key := fun ty => run_append_nil (P := Tryz.prog) w 24 ty 3 i _ Tryz.underlying24 hi hz ⟨q, off, none⟩ gs.length cap (gvs gs) (by rw [hgl, hs, Nat.mul_one]) hcells h0 (by omega) (by rw [hby]; omega)
    refine ⟨_, _, _, key, hge, fun _ => ⟨w.heap.size, 0, rfl, Nat.le_refl _, by simp, fun j hj => ?_⟩, ⟨rfl, rfl, rfl, by simp, fun k hk => Below.heap_alloc w.drew _ k hk⟩, fun a ha => by cases ha; exact ⟨rfl, Nat.le_refl _⟩⟩
    rw [Nat.zero_add]
    have hnew := heap_alloc_new w.drew (.cells ((gvs gs).toArray ++ Builtin.zeroCells (Value.int IntKind.i64 0).cells (grownCap w gs.length 0 3 - gs.length)) 3)
    unfold World.cell?
    rw [show (w.drew.alloc (.cells ((gvs gs).toArray ++ Builtin.zeroCells (Value.int IntKind.i64 0).cells (grownCap w gs.length 0 3 - gs.length)) 3)).heap[w.heap.size]? = _ from hnew]
    show ((gvs gs).toArray ++ _)[j]? = _
    rw [Array.getElem?_append_left (by simpa [gvs] using hj)]
    unfold gvs
    simp [List.getD, List.getElem?_eq_getElem hj]
/-- the document's client that has not called -/
structure NewD (w w' : World) (c : Cf) (p : Nat) : Prop where
  cl : ∃ q oa cap, w'.heap[p]? = some (dcB c oa cap 0 c.first (.slice none 0 0) (.slice none 0 0) q) ∧ w'.heap[q]? = some dmB ∧ c.sys.groups.length ≤ cap ∧ GsN w' w.heap.size oa c.sys.groups ∧ w.heap.size ≤ q ∧ p ≠ q ∧ (∀ a, oa = some a → a.spot = none ∧ w.heap.size ≤ a.block)
  new : w.heap.size ≤ p
  be : Below w.heap.size w w'
theorem inB_is (n l h : Int) : inB n l h = (!decide (n < l) && !decide (h < n)) := by
  unfold inB
  by_cases h1 : n < l <;> by_cases h2 : h < n <;> simp [h1, h2] <;> omega
set_option maxRecDepth 8000 in
set_option maxHeartbeats 4000000 in
theorem dnew_any (c : Cf) (oa : Option Addr) (cap : Nat) (w : World) (hg : GsAt w w.heap.size oa c.sys.groups) :
    Calls Tryz.prog 26 #[.agg (cfA c oa cap)] w fun e w' => (okC c = false ∧ e = .returned (.tuple #[.pointer none, .int .i64 170]) ∧ Below w.heap.size w w') ∨ (okC c = true ∧ ∃ p, e = .returned (.tuple #[ptr p, .int .i64 0]) ∧ NewD w w' c p) := by
  obtain ⟨w0, hw0⟩ : ∃ w0, w.alloc (cfB c oa cap) = w0 := ⟨_, rfl⟩
  obtain ⟨S0, hS0⟩ : ∃ S0, w.heap.size = S0 := ⟨_, rfl⟩
  have B0 : Below w.heap.size w w0 := by rw [← hw0]; exact (Below.refl _ _).alloc (Nat.le_refl _) _
  have k0 : w0.heap[S0]? = some (cfB c oa cap) := by rw [← hw0, ← hS0]; exact (MapKept.heap_alloc w _).1
  have hlt : S0 < w0.heap.size := (Array.getElem?_eq_some_iff.1 k0).1
  have HK : Hid (∀ w', Below w0.heap.size w0 w' → w'.heap[S0]? = some (cfB c oa cap) ∧ Below w.heap.size w w' ∧ GsAt w' w'.heap.size oa c.sys.groups) := fun w' hb => by
    have hb' : Below w.heap.size w w' := B0.trans (hb.mono B0.size)
    refine ⟨(hb.block S0 hlt).trans k0, hb', fun h0 => ?_⟩
    obtain ⟨q, off, e1, e2, e3⟩ := (hg.below hb') h0
    exact ⟨q, off, e1, Nat.lt_of_lt_of_le e2 hb'.size, e3⟩
  obtain ⟨br, hbr⟩ : ∃ br, Pc.rightP c.pb c.pc c.pt = br := ⟨_, rfl⟩
  obtain ⟨bm, hbm⟩ : ∃ bm, decide c.sys.may = bm := ⟨_, rfl⟩
  have HR : Hid (Calls Tryz.prog 59 #[.agg #[.int .i64 c.pb, .int .i64 c.pc, .int .i64 c.pt]] w0 fun e w' => e = .returned (.bool br) ∧ Below w0.heap.size w0 w') := by rw [← hbr]; exact Pc.dright_any w0 _ _ _
  have HM : Hid (∀ w', Below w0.heap.size w0 w' → Calls Tryz.prog 60 #[.agg #[.int .i64 c.sys.stamp, .string ⟨c.sys.machine.toArray⟩, .int .i64 c.sys.user, .int .i64 c.sys.group, .slice oa c.sys.groups.length cap]] w' fun e w'' => e = .returned (.bool bm) ∧ Below w'.heap.size w' w'') := fun w' hb => by
    rw [← hbm]
    exact sysMay_any c.sys oa cap w' (HK.out w' hb).2.2
  obtain ⟨e1, he1⟩ : ∃ b, decide (c.ad < 1) = b := ⟨_, rfl⟩
  obtain ⟨e2, he2⟩ : ∃ b, decide (16777215 < c.ad) = b := ⟨_, rfl⟩
  obtain ⟨e3, he3⟩ : ∃ b, decide (c.inst < 1) = b := ⟨_, rfl⟩
  obtain ⟨e4, he4⟩ : ∃ b, decide (4611686018427387904 < c.inst) = b := ⟨_, rfl⟩
  obtain ⟨e5, he5⟩ : ∃ b, decide (c.first < 1) = b := ⟨_, rfl⟩
  obtain ⟨e6, he6⟩ : ∃ b, decide (4294967295 < c.first) = b := ⟨_, rfl⟩
  obtain ⟨e7, he7⟩ : ∃ b, decide (c.win < 1) = b := ⟨_, rfl⟩
  obtain ⟨e8, he8⟩ : ∃ b, decide (64 < c.win) = b := ⟨_, rfl⟩
  have hok : okC c = (bm && ((!e1 && !e2) && ((!e3 && !e4) && ((!e5 && !e6) && ((!e7 && !e8) && br))))) := by
    unfold okC
    rw [hbm, hbr, inB_is, inB_is, inB_is, inB_is, he1, he2, he3, he4, he5, he6, he7, he8]
  have HOK : Hid (bm = true → c.sys.groups.length ≤ 16) := fun h => by
    rw [← hbm, decide_eq_true_eq] at h
    exact h.2.2.2.2.1
  have a4 : w0.cell? ⟨S0, 4, none⟩ = some (.int .i64 c.pb) := cell_at k0 rfl
  have a5 : w0.cell? ⟨S0, 5, none⟩ = some (.int .i64 c.pc) := cell_at k0 rfl
  have a6 : w0.cell? ⟨S0, 6, none⟩ = some (.int .i64 c.pt) := cell_at k0 rfl
  rw [hok]
  have HS0 : Hid (w.heap.size = S0 ∧ S0 < w0.heap.size) := ⟨hS0, hlt⟩
  clear hg B0 k0 hlt hbr hbm hok
  go_enter Tryz.func26, Tryz.ntmps26
  go_wp2_with fail
  refine HR.out.mono ?_
  rintro _ w1 ⟨rfl, hb1⟩
  have b7 : w1.cell? ⟨S0, 7, none⟩ = some (.int .i64 c.sys.stamp) := cell_at (HK.out w1 hb1).1 rfl
  have b8 : w1.cell? ⟨S0, 8, none⟩ = some (.string ⟨c.sys.machine.toArray⟩) := cell_at (HK.out w1 hb1).1 rfl
  have b9 : w1.cell? ⟨S0, 9, none⟩ = some (.int .i64 c.sys.user) := cell_at (HK.out w1 hb1).1 rfl
  have b10 : w1.cell? ⟨S0, 10, none⟩ = some (.int .i64 c.sys.group) := cell_at (HK.out w1 hb1).1 rfl
  have b11 : w1.cell? ⟨S0, 11, none⟩ = some (.slice oa c.sys.groups.length cap) := cell_at (HK.out w1 hb1).1 rfl
  have HM1 := hid (HM.out w1 hb1)
  have HB1 := hid hb1
  clear HR a4 a5 a6 hb1 HM
  go_wp2_with fail
  refine HM1.out.mono ?_
  rintro _ w2 ⟨rfl, hb2⟩
  have hb02 : Below w0.heap.size w0 w2 := HB1.out.trans (hb2.mono HB1.out.size)
  have d0 : w2.cell? ⟨S0, 0, none⟩ = some (.int .i64 c.ad) := cell_at (HK.out w2 hb02).1 rfl
  have d1 : w2.cell? ⟨S0, 1, none⟩ = some (.int .i64 c.inst) := cell_at (HK.out w2 hb02).1 rfl
  have d2 : w2.cell? ⟨S0, 2, none⟩ = some (.int .i64 c.first) := cell_at (HK.out w2 hb02).1 rfl
  have d3 : w2.cell? ⟨S0, 3, none⟩ = some (.int .i64 c.win) := cell_at (HK.out w2 hb02).1 rfl
  have d4 : w2.cell? ⟨S0, 4, none⟩ = some (.int .i64 c.pb) := cell_at (HK.out w2 hb02).1 rfl
  have d5 : w2.cell? ⟨S0, 5, none⟩ = some (.int .i64 c.pc) := cell_at (HK.out w2 hb02).1 rfl
  have d6 : w2.cell? ⟨S0, 6, none⟩ = some (.int .i64 c.pt) := cell_at (HK.out w2 hb02).1 rfl
  have d7 : w2.cell? ⟨S0, 7, none⟩ = some (.int .i64 c.sys.stamp) := cell_at (HK.out w2 hb02).1 rfl
  have d8 : w2.cell? ⟨S0, 8, none⟩ = some (.string ⟨c.sys.machine.toArray⟩) := cell_at (HK.out w2 hb02).1 rfl
  have d9 : w2.cell? ⟨S0, 9, none⟩ = some (.int .i64 c.sys.user) := cell_at (HK.out w2 hb02).1 rfl
  have d10 : w2.cell? ⟨S0, 10, none⟩ = some (.int .i64 c.sys.group) := cell_at (HK.out w2 hb02).1 rfl
  have d11 : w2.cell? ⟨S0, 11, none⟩ = some (.slice oa c.sys.groups.length cap) := cell_at (HK.out w2 hb02).1 rfl
  have HB2 := hid hb02
  have HE2 : Hid (Below w.heap.size w w2) := (HK.out w2 hb02).2.1
  clear b7 b8 b9 b10 b11 HM1 hb2 hb02 HB1
  cases br
  · go_wp2
    go_ret2
    first | exact .inl ⟨by simp, rfl, HE2.out⟩ | exact ⟨rfl, HE2.out⟩ | exact ⟨rfl, by rw [← HS0.out.1]; exact HE2.out⟩
  · cases bm
    · go_wp2
      go_ret2
      first | exact .inl ⟨by simp, rfl, HE2.out⟩ | exact ⟨rfl, HE2.out⟩ | exact ⟨rfl, by rw [← HS0.out.1]; exact HE2.out⟩
    · cases e1
      rotate_left
      · go_wp2
        go_ret2
        first | exact .inl ⟨by simp, rfl, HE2.out⟩ | exact ⟨rfl, HE2.out⟩ | exact ⟨rfl, by rw [← HS0.out.1]; exact HE2.out⟩
      · cases e2
        rotate_left
        · go_wp2
          go_ret2
          first | exact .inl ⟨by simp, rfl, HE2.out⟩ | exact ⟨rfl, HE2.out⟩ | exact ⟨rfl, by rw [← HS0.out.1]; exact HE2.out⟩
        · cases e3
          rotate_left
          · go_wp2
            go_ret2
            first | exact .inl ⟨by simp, rfl, HE2.out⟩ | exact ⟨rfl, HE2.out⟩ | exact ⟨rfl, by rw [← HS0.out.1]; exact HE2.out⟩
          · cases e4
            rotate_left
            · go_wp2
              go_ret2
              first | exact .inl ⟨by simp, rfl, HE2.out⟩ | exact ⟨rfl, HE2.out⟩ | exact ⟨rfl, by rw [← HS0.out.1]; exact HE2.out⟩
            · cases e5
              rotate_left
              · go_wp2
                go_ret2
                first | exact .inl ⟨by simp, rfl, HE2.out⟩ | exact ⟨rfl, HE2.out⟩ | exact ⟨rfl, by rw [← HS0.out.1]; exact HE2.out⟩
              · cases e6
                rotate_left
                · go_wp2
                  go_ret2
                  first | exact .inl ⟨by simp, rfl, HE2.out⟩ | exact ⟨rfl, HE2.out⟩ | exact ⟨rfl, by rw [← HS0.out.1]; exact HE2.out⟩
                · cases e7
                  rotate_left
                  · go_wp2
                    go_ret2
                    first | exact .inl ⟨by simp, rfl, HE2.out⟩ | exact ⟨rfl, HE2.out⟩ | exact ⟨rfl, by rw [← HS0.out.1]; exact HE2.out⟩
                  · cases e8
                    rotate_left
                    · go_wp2
                      go_ret2
                      first | exact .inl ⟨by simp, rfl, HE2.out⟩ | exact ⟨rfl, HE2.out⟩ | exact ⟨rfl, by rw [← HS0.out.1]; exact HE2.out⟩
                    · obtain ⟨oa4, cap4, w3, hr3, hc3, hg3, hb3, hs3⟩ := gnil_any c.sys.groups oa cap w2 (HK.out w2 HB2.out).2.2 (by have := HOK.out rfl; omega)
                      have hz3 := hb3.size
                      have k3 : w3.heap[S0]? = some (cfB c oa cap) := (hb3.block S0 (by have := HS0.out; have := HB2.out.size; omega)).trans (HK.out w2 HB2.out).1
                      have x11 : w3.cell? ⟨S0, 11, none⟩ = some (.slice oa c.sys.groups.length cap) := cell_at k3 rfl
                      have f11 := frozen_at k3 11
                      obtain ⟨w4, hw4⟩ : ∃ w4, w3.setCell ⟨S0, 11, none⟩ (.slice oa4 c.sys.groups.length cap4) = w4 := ⟨_, rfl⟩
                      have k4 : w4.heap[S0]? = some (cfB c oa4 cap4) := by rw [← hw4]; exact set_at k3 11 _
                      have hz4 : w4.heap.size = w3.heap.size := by rw [← hw4]; simp [World.setCell]
                      have g0 : w4.cell? ⟨S0, 0, none⟩ = some (.int .i64 c.ad) := cell_at k4 rfl
                      have g1 : w4.cell? ⟨S0, 1, none⟩ = some (.int .i64 c.inst) := cell_at k4 rfl
                      have g2 : w4.cell? ⟨S0, 2, none⟩ = some (.int .i64 c.first) := cell_at k4 rfl
                      have g3 : w4.cell? ⟨S0, 3, none⟩ = some (.int .i64 c.win) := cell_at k4 rfl
                      have g4 : w4.cell? ⟨S0, 4, none⟩ = some (.int .i64 c.pb) := cell_at k4 rfl
                      have g5 : w4.cell? ⟨S0, 5, none⟩ = some (.int .i64 c.pc) := cell_at k4 rfl
                      have g6 : w4.cell? ⟨S0, 6, none⟩ = some (.int .i64 c.pt) := cell_at k4 rfl
                      have g7 : w4.cell? ⟨S0, 7, none⟩ = some (.int .i64 c.sys.stamp) := cell_at k4 rfl
                      have g8 : w4.cell? ⟨S0, 8, none⟩ = some (.string ⟨c.sys.machine.toArray⟩) := cell_at k4 rfl
                      have g9 : w4.cell? ⟨S0, 9, none⟩ = some (.int .i64 c.sys.user) := cell_at k4 rfl
                      have g10 : w4.cell? ⟨S0, 10, none⟩ = some (.int .i64 c.sys.group) := cell_at k4 rfl
                      have g11 : w4.cell? ⟨S0, 11, none⟩ = some (.slice oa4 c.sys.groups.length cap4) := cell_at k4 rfl
                      obtain ⟨Q, hQ⟩ : ∃ Q, w4.heap.size = Q := ⟨_, rfl⟩
                      obtain ⟨w5, hw5⟩ : ∃ w5, w4.alloc dmB = w5 := ⟨_, rfl⟩
                      obtain ⟨P, hP⟩ : ∃ P, w5.heap.size = P := ⟨_, rfl⟩
                      obtain ⟨w6, hw6⟩ : ∃ w6, w5.alloc (dcB c oa4 cap4 0 c.first (.slice none 0 0) (.slice none 0 0) Q) = w6 := ⟨_, rfl⟩
                      have k5 : w5.heap[S0]? = some (cfB c oa4 cap4) := by rw [← hw5]; exact (Below.heap_alloc _ _ _ (Array.getElem?_eq_some_iff.1 k4).1).trans k4
                      have HE : Hid (NewD w w6 c P) := by
                        have h0 := HS0.out
                        have h2 := HB2.out.size
                        have hPQ : P = Q + 1 := by rw [← hP, ← hw5, ← hQ]; simp
                        have b5 : Below w4.heap.size w4 w5 := by rw [← hw5]; exact (Below.refl _ _).alloc (Nat.le_refl _) _
                        have b6 : Below w4.heap.size w4 w6 := by rw [← hw6]; exact b5.alloc b5.size _
                        have bw4 : Below w.heap.size w w4 := by
                          rw [← hw4]
                          exact below_set (HE2.out.trans (hb3.mono HE2.out.size)) (by omega)
                        refine ⟨⟨Q, oa4, cap4, by rw [← hw6, ← hP]; exact (MapKept.heap_alloc w5 _).1, ?_, hc3, ?_, by omega, by omega, fun a ha => ⟨(hs3 a ha).1, by have := (hs3 a ha).2; have := HE2.out.size; omega⟩⟩, by omega, bw4.trans (b6.mono bw4.size)⟩
                        · rw [← hw6]
                          refine (Below.heap_alloc _ _ _ (by omega)).trans ?_
                          rw [← hw5, ← hQ]
                          exact (MapKept.heap_alloc w4 _).1
                        · refine ((hg3.kept (w' := w4) (by omega) (fun q hq _ _ => ?_)).kept b6.size (fun q _ hq _ => b6.block q hq)).lo HE2.out.size
                          rw [← hw4, Below.heap_setCell _ _ _ _ (show q ≠ S0 by omega)]
                      have HR3 := hid hr3
                      have hb1 := bld120
                      have hb2 := fun w => bld123 c oa4 cap4 Q w
                      clear hz3 k3 k4 k5 hz4 hr3 hc3 hg3 hb3 hs3 HK HE2 HOK
                      go_wp2_with (at_builtin; refine Hid.out ?_)
                      refine (show Hid _ from ?_)
                      refine wpList_app rfl _ _ 24 rfl _ _ _ _ rfl rfl (HR3.out _) ?_
                      go_wp2
                      go_ret2
                      first | exact .inr ⟨by simp, P, rfl, HE.out⟩ | exact ⟨P, rfl, HE.out⟩
end Go.Proofs.YteejeemljhmgcaaGreatDoor.Cl
