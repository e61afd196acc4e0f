/- CredPrints: its walk. -/
import Derived.Test.YtihcdahmfdijoaaDoorWg
import Derived.Test.YtihcdahmfdijoaaDoorCy
import Derived.Test.YtihcdahmfdijoaaDoorCv
import Derived.Test.YtihcdahmfdijoaaDoorNb
import Derived.Deep.RegionHeld3
import Derived.Deep.CutBlock
import Derived.Deep.DeepCutAuto
namespace Go.Proofs.YtihcdahmfdijoaaDoor
open Go.RowKit
/-- the two arguments in blocks of their own -/
structure By (w0 w : World) (S M : List Value) : Prop where
  s : Bk w w0.heap.size S 24
  m : Bk w (w0.heap.size + 1) M 26
  low : Below w0.heap.size w0 w
theorem By.below {w0 w w' : World} {S M : List Value} (h : By w0 w S M) (hB : Below w.heap.size w w') : By w0 w' S M :=
  ⟨h.s.below hB h.s.lt, h.m.below hB h.m.lt, h.low.trans (hB.mono h.low.size)⟩
theorem By.sole {w0 w w' : World} {S M : List Value} {g : Nat} (h : By w0 w S M) (hS : Sole g w w') (hg : w0.heap.size + 1 < g) : By w0 w' S M :=
  ⟨h.s.sole hS (by omega), h.m.sole hS (by omega), h.low.trans (hS.belowB (by omega) h.low.size)⟩
theorem By.start (w : World) (S M : List Value) : By w ((w.alloc (.cells S.toArray 24)).alloc (.cells M.toArray 26)) S M := by
  have z1 : (w.alloc (.cells S.toArray 24)).heap.size = w.heap.size + 1 := by simp
  refine ⟨(Bk.new w S _).below (below_new _ _) (by omega), ?_, (below_new _ _).alloc (by omega) _⟩
  have := Bk.new (w.alloc (.cells S.toArray 24)) M 26
  rwa [z1] at this
theorem Bk.here {w w' : World} {g : Nat} {xs : List Value} {t : TypeId} (h : w.alloc (.cells xs.toArray t) = w') (hg : w.heap.size = g) : Bk w' g xs t := by
  rw [← h, ← hg]
  exact Bk.new _ _ _
theorem below_here {w w' : World} {ob : Obj} (h : w.alloc ob = w') : Below w.heap.size w w' := by
  rw [← h]
  exact below_new _ _
theorem sole_here {w w' : World} {g k : Nat} {v : Value} (h : w.setCell ⟨g, k, none⟩ v = w') : Sole g w w' := by
  rw [← h]
  exact Sole.setCell _ _ _
theorem Bk.setHere {w w' : World} {g k : Nat} {v : Value} {xs : List Value} {t : TypeId} (hk : Bk w g xs t) (h : w.setCell ⟨g, k, none⟩ v = w') : Bk w' g (xs.set k v) t := by
  rw [← h]
  exact hk.set _ _
theorem neq_same (x : Int) (y : ByteArray) (w : World) : (binOp .neq 32 (.agg #[.int .i64 x, .string y]) (.agg #[.int .i64 x, .string y])).run Tryd.prog w = .ok (.bool false) w := by
  rw [neqA]
  simp
set_option maxRecDepth 8000 in
set_option maxHeartbeats 4000000 in
theorem credPrints_any (st us gr i q u st2 us2 gr2 : Int) (mc mc2 : List UInt8) (gs gs2 : List Int) (oa ob : Option Addr) (ca cb : Nat) (w : World) (hT : ErrT w) (hg : GsAt w w.heap.size oa gs) (hg2 : GsAt w w.heap.size ob gs2) :
    Calls Tryd.prog 3 #[.agg #[.int .i64 st, .string ⟨mc.toArray⟩, .int .i64 us, .int .i64 gr, .slice oa gs.length ca], .agg #[.int .i64 i, .int .i64 q, .int .i64 u, .int .i64 st2, .string ⟨mc2.toArray⟩, .int .i64 us2, .int .i64 gr2, .slice ob gs2.length cb]] w fun e w' => e = .returned (.bool true) ∧ Below w.heap.size w w' := by
  obtain ⟨w3, hw3⟩ : ∃ x, (w.alloc (.cells #[.int .i64 st, .string ⟨mc.toArray⟩, .int .i64 us, .int .i64 gr, .slice oa gs.length ca] 24)).alloc (.cells #[.int .i64 i, .int .i64 q, .int .i64 u, .int .i64 st2, .string ⟨mc2.toArray⟩, .int .i64 us2, .int .i64 gr2, .slice ob gs2.length cb] 26) = x := ⟨_, rfl⟩
  have HX3 : Hid (By w w3 [.int .i64 st, .string ⟨mc.toArray⟩, .int .i64 us, .int .i64 gr, .slice oa gs.length ca] [.int .i64 i, .int .i64 q, .int .i64 u, .int .i64 st2, .string ⟨mc2.toArray⟩, .int .i64 us2, .int .i64 gr2, .slice ob gs2.length cb]) := by show By _ _ _ _; rw [← hw3]; exact By.start w [.int .i64 st, .string ⟨mc.toArray⟩, .int .i64 us, .int .i64 gr, .slice oa gs.length ca] [.int .i64 i, .int .i64 q, .int .i64 u, .int .i64 st2, .string ⟨mc2.toArray⟩, .int .i64 us2, .int .i64 gr2, .slice ob gs2.length cb]
  obtain ⟨B, hBB⟩ : ∃ B, w.heap.size = B := ⟨_, rfl⟩
  have HBB := hid hBB
  have HS1 := hid (fun w => sysWeighs_any st us gr mc oa gs.length ca w)
  have HS2 := hid (fun w => sysWeighs_any st2 us2 gr2 mc2 ob gs2.length cb w)
  have K : Hid (∀ w', By w w' [.int .i64 st, .string ⟨mc.toArray⟩, .int .i64 us, .int .i64 gr, .slice oa gs.length ca] [.int .i64 i, .int .i64 q, .int .i64 u, .int .i64 st2, .string ⟨mc2.toArray⟩, .int .i64 us2, .int .i64 gr2, .slice ob gs2.length cb] → w'.cell? ⟨B, 0, none⟩ = some (.int .i64 st) ∧ w'.cell? ⟨B, 1, none⟩ = some (.string ⟨mc.toArray⟩) ∧ w'.cell? ⟨B, 2, none⟩ = some (.int .i64 us) ∧ w'.cell? ⟨B, 3, none⟩ = some (.int .i64 gr) ∧ w'.cell? ⟨B, 4, none⟩ = some (.slice oa gs.length ca) ∧ w'.cell? ⟨B + 1, 0, none⟩ = some (.int .i64 i) ∧ w'.cell? ⟨B + 1, 1, none⟩ = some (.int .i64 q) ∧ w'.cell? ⟨B + 1, 2, none⟩ = some (.int .i64 u) ∧ w'.cell? ⟨B + 1, 3, none⟩ = some (.int .i64 st2) ∧ w'.cell? ⟨B + 1, 4, none⟩ = some (.string ⟨mc2.toArray⟩) ∧ w'.cell? ⟨B + 1, 5, none⟩ = some (.int .i64 us2) ∧ w'.cell? ⟨B + 1, 6, none⟩ = some (.int .i64 gr2) ∧ w'.cell? ⟨B + 1, 7, none⟩ = some (.slice ob gs2.length cb)) := fun w' h => by
    rw [← HBB.out]
    exact ⟨h.s.cell 0 rfl, h.s.cell 1 rfl, h.s.cell 2 rfl, h.s.cell 3 rfl, h.s.cell 4 rfl, h.m.cell 0 rfl, h.m.cell 1 rfl, h.m.cell 2 rfl, h.m.cell 3 rfl, h.m.cell 4 rfl, h.m.cell 5 rfl, h.m.cell 6 rfl, h.m.cell 7 rfl⟩
  have HGS := hid hg
  have HGM := hid hg2
  have HT := hid hT
  clear hg hg2 hT
  go_enter Tryd.func3, Tryd.ntmps3
  go_upto_region 1 with fail
  have HXd : Hid (By w w3.drew [.int .i64 st, .string ⟨mc.toArray⟩, .int .i64 us, .int .i64 gr, .slice oa gs.length ca] [.int .i64 i, .int .i64 q, .int .i64 u, .int .i64 st2, .string ⟨mc2.toArray⟩, .int .i64 us2, .int .i64 gr2, .slice ob gs2.length cb]) := HX3.out.below ((Below.refl _ _).drew)
  have s1 : w3.drew.cell? ⟨B, 0, none⟩ = some (.int .i64 st) ∧ w3.drew.cell? ⟨B, 1, none⟩ = some (.string ⟨mc.toArray⟩) ∧ w3.drew.cell? ⟨B, 2, none⟩ = some (.int .i64 us) ∧ w3.drew.cell? ⟨B, 3, none⟩ = some (.int .i64 gr) ∧ w3.drew.cell? ⟨B, 4, none⟩ = some (.slice oa gs.length ca) ∧ w3.drew.cell? ⟨B + 1, 3, none⟩ = some (.int .i64 st2) ∧ w3.drew.cell? ⟨B + 1, 4, none⟩ = some (.string ⟨mc2.toArray⟩) ∧ w3.drew.cell? ⟨B + 1, 5, none⟩ = some (.int .i64 us2) ∧ w3.drew.cell? ⟨B + 1, 6, none⟩ = some (.int .i64 gr2) ∧ w3.drew.cell? ⟨B + 1, 7, none⟩ = some (.slice ob gs2.length cb) := by
    obtain ⟨a0, a1, a2, a3, a4, _, _, _, b3, b4, b5, b6, b7⟩ := K.out _ HXd.out
    exact ⟨a0, a1, a2, a3, a4, b3, b4, b5, b6, b7⟩
  obtain ⟨X1, hX1⟩ : ∃ x, addF mc.length gs.length = x := ⟨_, rfl⟩
  obtain ⟨X2, hX2⟩ : ∃ x, addF mc2.length gs2.length = x := ⟨_, rfl⟩
  rw [hX1] at HS1
  rw [hX2] at HS2
  have p1 : 0 ≤ X1 := hX1 ▸ addF_pos (by omega) (by omega)
  have p2 : 0 ≤ X2 := hX2 ▸ addF_pos (by omega) (by omega)
  have HA1 := hid (fun w => addsUp_any X1 X2 w p1 p2)
  obtain ⟨X4, hX4⟩ : ∃ x, addF X1 X2 = x := ⟨_, rfl⟩
  rw [hX4] at HA1
  have HW : Hid (X4 ≤ 2147483647 → gs.length ≤ 2147483647 ∧ gs2.length ≤ 2147483647) := fun h => by
    have e1 := addF_le (a := X1) (b := X2) (by rw [hX4]; exact h)
    have e3 := addF_le (a := mc.length) (b := gs.length) (by omega)
    have e4 := addF_le (a := mc2.length) (b := gs2.length) (by omega)
    omega
  clear hX1 hX2 hX4 p1 p2 hw3
  go_cut [27] from 21 (fun v wx => v = .bool (decide (2147483647 < X4)) ∧ Hid (By w wx [.int .i64 st, .string ⟨mc.toArray⟩, .int .i64 us, .int .i64 gr, .slice oa gs.length ca] [.int .i64 i, .int .i64 q, .int .i64 u, .int .i64 st2, .string ⟨mc2.toArray⟩, .int .i64 us2, .int .i64 gr2, .slice ob gs2.length cb]))
  case first =>
    rename_i Q1 K1 A3 K0 A2 J0 K9 A1 A0
    have HJ1 := hid A1
    have HJ0 := hid A0
    clear A3 A2 A1 A0
    go_region_held3 (fun w' => w'.cell? ⟨B, 0, none⟩ = some (.int .i64 st) ∧ w'.cell? ⟨B, 1, none⟩ = some (.string ⟨mc.toArray⟩) ∧ w'.cell? ⟨B, 2, none⟩ = some (.int .i64 us) ∧ w'.cell? ⟨B, 3, none⟩ = some (.int .i64 gr) ∧ w'.cell? ⟨B, 4, none⟩ = some (.slice oa gs.length ca) ∧ w'.cell? ⟨B + 1, 3, none⟩ = some (.int .i64 st2) ∧ w'.cell? ⟨B + 1, 4, none⟩ = some (.string ⟨mc2.toArray⟩) ∧ w'.cell? ⟨B + 1, 5, none⟩ = some (.int .i64 us2) ∧ w'.cell? ⟨B + 1, 6, none⟩ = some (.int .i64 gr2) ∧ w'.cell? ⟨B + 1, 7, none⟩ = some (.slice ob gs2.length cb)) (first | with_reducible exact s1 | with_reducible exact s5 | with_reducible exact s6) (first
      | (go_at_call 6
         with_reducible refine (HS1.out _).mono ?_
         rintro e w5 ⟨rfl, hB5⟩
         have HX5 : Hid (By w w5 [.int .i64 st, .string ⟨mc.toArray⟩, .int .i64 us, .int .i64 gr, .slice oa gs.length ca] [.int .i64 i, .int .i64 q, .int .i64 u, .int .i64 st2, .string ⟨mc2.toArray⟩, .int .i64 us2, .int .i64 gr2, .slice ob gs2.length cb]) := HXd.out.below hB5
         have s5 : w5.cell? ⟨B, 0, none⟩ = some (.int .i64 st) ∧ w5.cell? ⟨B, 1, none⟩ = some (.string ⟨mc.toArray⟩) ∧ w5.cell? ⟨B, 2, none⟩ = some (.int .i64 us) ∧ w5.cell? ⟨B, 3, none⟩ = some (.int .i64 gr) ∧ w5.cell? ⟨B, 4, none⟩ = some (.slice oa gs.length ca) ∧ w5.cell? ⟨B + 1, 3, none⟩ = some (.int .i64 st2) ∧ w5.cell? ⟨B + 1, 4, none⟩ = some (.string ⟨mc2.toArray⟩) ∧ w5.cell? ⟨B + 1, 5, none⟩ = some (.int .i64 us2) ∧ w5.cell? ⟨B + 1, 6, none⟩ = some (.int .i64 gr2) ∧ w5.cell? ⟨B + 1, 7, none⟩ = some (.slice ob gs2.length cb) := by
           obtain ⟨a0, a1, a2, a3, a4, _, _, _, b3, b4, b5, b6, b7⟩ := K.out _ HX5.out
           exact ⟨a0, a1, a2, a3, a4, b3, b4, b5, b6, b7⟩
         clear hB5)
      | (go_at_call 6
         with_reducible refine (HS2.out _).mono ?_
         rintro e w6 ⟨rfl, hB6⟩
         have HX6 : Hid (By w w6 [.int .i64 st, .string ⟨mc.toArray⟩, .int .i64 us, .int .i64 gr, .slice oa gs.length ca] [.int .i64 i, .int .i64 q, .int .i64 u, .int .i64 st2, .string ⟨mc2.toArray⟩, .int .i64 us2, .int .i64 gr2, .slice ob gs2.length cb]) := HX5.out.below hB6
         have s6 : w6.cell? ⟨B, 0, none⟩ = some (.int .i64 st) ∧ w6.cell? ⟨B, 1, none⟩ = some (.string ⟨mc.toArray⟩) ∧ w6.cell? ⟨B, 2, none⟩ = some (.int .i64 us) ∧ w6.cell? ⟨B, 3, none⟩ = some (.int .i64 gr) ∧ w6.cell? ⟨B, 4, none⟩ = some (.slice oa gs.length ca) ∧ w6.cell? ⟨B + 1, 3, none⟩ = some (.int .i64 st2) ∧ w6.cell? ⟨B + 1, 4, none⟩ = some (.string ⟨mc2.toArray⟩) ∧ w6.cell? ⟨B + 1, 5, none⟩ = some (.int .i64 us2) ∧ w6.cell? ⟨B + 1, 6, none⟩ = some (.int .i64 gr2) ∧ w6.cell? ⟨B + 1, 7, none⟩ = some (.slice ob gs2.length cb) := by
           obtain ⟨a0, a1, a2, a3, a4, _, _, _, b3, b4, b5, b6, b7⟩ := K.out _ HX6.out
           exact ⟨a0, a1, a2, a3, a4, b3, b4, b5, b6, b7⟩
         clear hB6)
      | (go_at_call 5
         with_reducible refine (HA1.out _).mono ?_
         rintro e w9 ⟨rfl, hw⟩
         rw [hw]
         clear hw))
    have A1 := HJ1.out
    have A0 := HJ0.out
    go_wp2_with fail
    go_meet
    exact ⟨rfl, HX6⟩
  case rest =>
    obtain ⟨hv, HX⟩ := hcut
    subst hv
    clear HX3 HXd s1 HS1 HS2 HA1
    by_cases hb : 2147483647 < X4
    · have hb2 : decide (2147483647 < X4) = true := decide_eq_true hb
      rw [hb2]
      go_wp2
      go_ret
      exact ⟨rfl, HX.out.low⟩
    · have hb2 : decide (2147483647 < X4) = false := decide_eq_false hb
      rw [hb2]
      have HLE := hid (HW.out (by omega))
      clear HW hb hb2
      have HAW := hid (awake_any wc (HT.out.below HX.out.low))
      go_wp2_with fail
      refine HAW.out.mono ?_
      rintro e w4 ⟨rfl, hB4⟩
      have HX4 := hid (HX.out.below hB4)
      clear hB4 HAW HX
      obtain ⟨x1, y1, z1, hv1⟩ := prV_some 1 (printS ⟨st, mc, us, gr, gs⟩)
      obtain ⟨x2, y2, z2, hv2⟩ := prV_some 1296126539 (printM ⟨i, q, u, ⟨st2, mc2, us2, gr2, gs2⟩⟩)
      have HV1 := hid hv1
      have HV2 := hid hv2
      clear hv1 hv2
      go_wp2_with fail
      go_loopw [6] (fun ix wr => ∃ j : Nat, ix = .int .i64 (j : Int) ∧ j ≤ 2 ∧ Hid (By w wr [.int .i64 st, .string ⟨mc.toArray⟩, .int .i64 us, .int .i64 gr, .slice oa gs.length ca] [.int .i64 i, .int .i64 q, .int .i64 u, .int .i64 st2, .string ⟨mc2.toArray⟩, .int .i64 us2, .int .i64 gr2, .slice ob gs2.length cb])) (fun ix _ => 2 - (intOf ix).toNat)
      case atStart => exact ⟨0, rfl, by omega, HX4⟩
      case round =>
        obtain ⟨j, rfl, hj, HX⟩ := hrel
        by_cases hlt : j < 2
        · clear HX4
          obtain ⟨g1, hg1⟩ : ∃ g, wr.heap.size = g := ⟨_, rfl⟩
          have N1 : Hid (w.heap.size + 1 < g1) := by rw [← hg1]; exact HX.out.m.lt
          have HL : Hid (Calls Tryd.prog 8 #[.slice oa gs.length ca] wr fun e w' => e = .returned (.slice (some ⟨g1, 0, none⟩) (gs.length + 4) (gs.length + 4)) ∧ Bk w' g1 (intsV gs ++ List.replicate 4 (.int .i64 (-77))) 3 ∧ Below wr.heap.size wr w') := by rw [← hg1]; exact lent_any oa ca gs wr ((HGS.out.below HX.out.low).mono HX.out.low.size) HLE.out.1
          obtain ⟨a0, a1, a2, a3, a4, b0, b1, b2, b3, b4, b5, b6, b7⟩ := K.out _ HX.out
          go_wp2_with fail
          refine HL.out.mono ?_
          rintro e w5 ⟨rfl, hk1, hB5⟩
          have HX5 := hid (HX.out.below hB5)
          have HG1 := hid hk1
          clear a0 a1 a2 a3 a4 b0 b1 b2 b3 b4 b5 b6 b7 HL hB5 hk1 hg1 HX
          obtain ⟨g2, hg2⟩ : ∃ g, w5.heap.size = g := ⟨_, rfl⟩
          have N2 : Hid (w.heap.size + 1 < g2 ∧ g1 < g2) := by rw [← hg2]; exact ⟨HX5.out.m.lt, HG1.out.lt⟩
          have HL : Hid (Calls Tryd.prog 8 #[.slice ob gs2.length cb] w5 fun e w' => e = .returned (.slice (some ⟨g2, 0, none⟩) (gs2.length + 4) (gs2.length + 4)) ∧ Bk w' g2 (intsV gs2 ++ List.replicate 4 (.int .i64 (-77))) 3 ∧ Below w5.heap.size w5 w') := by rw [← hg2]; exact lent_any ob cb gs2 w5 ((HGM.out.below HX5.out.low).mono HX5.out.low.size) HLE.out.2
          obtain ⟨a0, a1, a2, a3, a4, b0, b1, b2, b3, b4, b5, b6, b7⟩ := K.out _ HX5.out
          go_wp2_with fail
          refine HL.out.mono ?_
          rintro e w6 ⟨rfl, hk2, hB6⟩
          have HX6 := hid (HX5.out.below hB6)
          have HG1' := hid (HG1.out.below hB6 HG1.out.lt)
          have HG2 := hid hk2
          clear a0 a1 a2 a3 a4 b0 b1 b2 b3 b4 b5 b6 b7 HL hB6 hk2 hg2 HX5 HG1
          obtain ⟨g3, hg3⟩ : ∃ g, w6.heap.size = g := ⟨_, rfl⟩
          have N3 : Hid (w.heap.size + 1 < g3 ∧ g1 < g3 ∧ g2 < g3) := by rw [← hg3]; exact ⟨HX6.out.m.lt, HG1'.out.lt, HG2.out.lt⟩
          obtain ⟨w7, hw7⟩ : ∃ z, w6.alloc (.cells #[.int .i64 st, .string ⟨mc.toArray⟩, .int .i64 us, .int .i64 gr, .slice oa gs.length ca] 24) = z := ⟨_, rfl⟩
          have HX7 := hid (HX6.out.below (below_here hw7))
          have HG17 := hid (HG1'.out.below (below_here hw7) HG1'.out.lt)
          have HG27 := hid (HG2.out.below (below_here hw7) HG2.out.lt)
          have HC7 : Hid (Bk w7 g3 [.int .i64 st, .string ⟨mc.toArray⟩, .int .i64 us, .int .i64 gr, .slice oa gs.length ca] 24) := Bk.here hw7 hg3
          obtain ⟨w8, hw8⟩ : ∃ z, w7.setCell ⟨g3, 4, none⟩ (.slice (some ⟨g1, 0, none⟩) gs.length (gs.length + 4)) = z := ⟨_, rfl⟩
          have HX8 := hid (HX7.out.sole (sole_here hw8) N3.out.1)
          have HG18 := hid (HG17.out.sole (sole_here hw8) (by have := N3.out; omega))
          have HG28 := hid (HG27.out.sole (sole_here hw8) (by have := N3.out; omega))
          have HC8 : Hid (Bk w8 g3 [.int .i64 st, .string ⟨mc.toArray⟩, .int .i64 us, .int .i64 gr, .slice (some ⟨g1, 0, none⟩) gs.length (gs.length + 4)] 24) := HC7.out.setHere hw8
          obtain ⟨g4, hg4⟩ : ∃ g, w8.heap.size = g := ⟨_, rfl⟩
          have N4 : Hid (w.heap.size + 1 < g4 ∧ g1 < g4 ∧ g2 < g4 ∧ g3 < g4) := by rw [← hg4]; exact ⟨HX8.out.m.lt, HG18.out.lt, HG28.out.lt, HC8.out.lt⟩
          obtain ⟨w9, hw9⟩ : ∃ z, w8.alloc (.cells #[.int .i64 i, .int .i64 q, .int .i64 u, .int .i64 st2, .string ⟨mc2.toArray⟩, .int .i64 us2, .int .i64 gr2, .slice ob gs2.length cb] 26) = z := ⟨_, rfl⟩
          have HG19 := hid (HG18.out.below (below_here hw9) HG18.out.lt)
          have HG29 := hid (HG28.out.below (below_here hw9) HG28.out.lt)
          have HC9 := hid (HC8.out.below (below_here hw9) HC8.out.lt)
          have HX9 := hid (HX8.out.below (below_here hw9))
          have HD9 : Hid (Bk w9 g4 [.int .i64 i, .int .i64 q, .int .i64 u, .int .i64 st2, .string ⟨mc2.toArray⟩, .int .i64 us2, .int .i64 gr2, .slice ob gs2.length cb] 26) := Bk.here hw9 hg4
          obtain ⟨w10, hw10⟩ : ∃ z, w9.setCell ⟨g4, 7, none⟩ (.slice (some ⟨g2, 0, none⟩) gs2.length (gs2.length + 4)) = z := ⟨_, rfl⟩
          have HX10 := hid (HX9.out.sole (sole_here hw10) N4.out.1)
          have HG110 := hid (HG19.out.sole (sole_here hw10) (by have := N4.out; omega))
          have HG210 := hid (HG29.out.sole (sole_here hw10) (by have := N4.out; omega))
          have HC10 := hid (HC9.out.sole (sole_here hw10) (by have := N4.out; omega))
          have HD10 : Hid (Bk w10 g4 [.int .i64 i, .int .i64 q, .int .i64 u, .int .i64 st2, .string ⟨mc2.toArray⟩, .int .i64 us2, .int .i64 gr2, .slice (some ⟨g2, 0, none⟩) gs2.length (gs2.length + 4)] 26) := HD9.out.setHere hw10
          have HP := hid (printSys_any ⟨st, mc, us, gr, gs⟩ (some ⟨g1, 0, none⟩) (gs.length + 4) w10 (HT.out.below HX10.out.low) (lent_gs HG110.out) (Nat.le_add_right _ _) (by have := HLE.out.1; show (gs.length : Int) ≤ _; omega))
          rw [HV1.out] at HP
          have s0 : (0 : Int) ≤ (gs.length : Int) := by omega
          have s1 : (gs.length : Int) ≤ ((gs.length + 4 : Nat) : Int) := by omega
          have s2 : (0 : Int) ≤ (gs2.length : Int) := by omega
          have s3 : (gs2.length : Int) ≤ ((gs2.length + 4 : Nat) : Int) := by omega
          obtain ⟨a0, a1, a2, a3, a4, _⟩ := K.out _ HX6.out
          obtain ⟨_, _, _, _, a4', _⟩ := K.out _ HX7.out
          have c4 := HC7.out.cell 4 rfl
          have f4 := HC7.out.frozen 4
          obtain ⟨_, _, _, _, _, b0, b1, b2, b3, b4, b5, b6, b7⟩ := K.out _ HX8.out
          obtain ⟨_, _, _, _, _, _, _, _, _, _, _, _, b7'⟩ := K.out _ HX9.out
          have d7 := HD9.out.cell 7 rfl
          have f7 := HD9.out.frozen 7
          have e0 := HC10.out.cell 0 rfl
          have e1 := HC10.out.cell 1 rfl
          have e2 := HC10.out.cell 2 rfl
          have e3 := HC10.out.cell 3 rfl
          have e4 := HC10.out.cell 4 rfl
          go_wp2_with fail
          refine HP.out.mono ?_
          rintro e w11 ⟨rfl, hB11⟩
          have HX11 := hid (HX10.out.below hB11)
          have HG111 := hid (HG110.out.below hB11 HG110.out.lt)
          have HG211 := hid (HG210.out.below hB11 HG210.out.lt)
          have HD11 := hid (HD10.out.below hB11 HD10.out.lt)
          clear a0 a1 a2 a3 a4 b0 b1 b2 b3 b4 b5 b6 b7 a4' c4 f4 b7' d7 f7 e0 e1 e2 e3 e4 s0 s1 s2 s3 HP hB11 hw7 hw8 hw9 hw10 hg3 hg4 HX6 HX7 HX8 HX9 HX10 HG1' HG2 HG17 HG27 HG18 HG28 HG19 HG29 HG110 HG210 HC7 HC8 HC9 HC10 HD9 HD10 N3 N4
          obtain ⟨p1, hp1⟩ : ∃ g, w11.heap.size = g := ⟨_, rfl⟩
          have P1 : Hid (g1 < p1 ∧ g2 < p1) := by rw [← hp1]; exact ⟨HG111.out.lt, HG211.out.lt⟩
          obtain ⟨w12, hw12⟩ : ∃ z, w11.alloc (.cells #[.int .i64 x1, .string y1] 32) = z := ⟨_, rfl⟩
          have HX12 := hid (HX11.out.below (below_here hw12))
          have HG112 := hid (HG111.out.below (below_here hw12) HG111.out.lt)
          have HG212 := hid (HG211.out.below (below_here hw12) HG211.out.lt)
          have HD12 := hid (HD11.out.below (below_here hw12) HD11.out.lt)
          have HA112 : Hid (Bk w12 p1 [.int .i64 x1, .string y1] 32) := Bk.here hw12 hp1
          have HP := hid (rprintSys_any ⟨st, mc, us, gr, gs⟩ oa ca w12 ((HGS.out.below HX12.out.low).mono HX12.out.low.size))
          rw [HV1.out] at HP
          obtain ⟨a0, a1, a2, a3, a4, _⟩ := K.out _ HX12.out
          go_wp2_with fail
          refine HP.out.mono ?_
          rintro e w13 ⟨rfl, hB13⟩
          have HX13 := hid (HX12.out.below hB13)
          have HG113 := hid (HG112.out.below hB13 HG112.out.lt)
          have HG213 := hid (HG212.out.below hB13 HG212.out.lt)
          have HD13 := hid (HD12.out.below hB13 HD12.out.lt)
          have HA113 := hid (HA112.out.below hB13 HA112.out.lt)
          clear HP hw12 hp1 HX11 HX12 HG111 HG211 HD11
          clear a0 a1 a2 a3 a4 hB13 HG112 HG212 HD12 HA112
          obtain ⟨p2, hp2⟩ : ∃ g, w13.heap.size = g := ⟨_, rfl⟩
          have P2 : Hid (g1 < p2 ∧ g2 < p2) := by rw [← hp2]; exact ⟨HG113.out.lt, HG213.out.lt⟩
          obtain ⟨w14, hw14⟩ : ∃ z, w13.alloc (.cells #[.int .i64 x1, .string y1] 32) = z := ⟨_, rfl⟩
          have HX14 := hid (HX13.out.below (below_here hw14))
          have HG114 := hid (HG113.out.below (below_here hw14) HG113.out.lt)
          have HG214 := hid (HG213.out.below (below_here hw14) HG213.out.lt)
          have HD14 := hid (HD13.out.below (below_here hw14) HD13.out.lt)
          have HA114 := hid (HA113.out.below (below_here hw14) HA113.out.lt)
          have HA214 : Hid (Bk w14 p2 [.int .i64 x1, .string y1] 32) := Bk.here hw14 hp2
          have HP := hid (printMark_any ⟨i, q, u, ⟨st2, mc2, us2, gr2, gs2⟩⟩ (some ⟨g2, 0, none⟩) (gs2.length + 4) w14 (HT.out.below HX14.out.low) (lent_gs HG214.out) (Nat.le_add_right _ _) (by have := HLE.out.2; show (gs2.length : Int) ≤ _; omega))
          rw [HV2.out] at HP
          have e0 := HD14.out.cell 0 rfl
          have e1 := HD14.out.cell 1 rfl
          have e2 := HD14.out.cell 2 rfl
          have e3 := HD14.out.cell 3 rfl
          have e4 := HD14.out.cell 4 rfl
          have e5 := HD14.out.cell 5 rfl
          have e6 := HD14.out.cell 6 rfl
          have e7 := HD14.out.cell 7 rfl
          go_wp2_with fail
          refine HP.out.mono ?_
          rintro e w15 ⟨rfl, hB15⟩
          have HX15 := hid (HX14.out.below hB15)
          have HG115 := hid (HG114.out.below hB15 HG114.out.lt)
          have HG215 := hid (HG214.out.below hB15 HG214.out.lt)
          have HD15 := hid (HD14.out.below hB15 HD14.out.lt)
          have HA115 := hid (HA114.out.below hB15 HA114.out.lt)
          have HA215 := hid (HA214.out.below hB15 HA214.out.lt)
          clear HP hw14 hp2 HX13 HX14 HG113 HG213 HD13 HA113
          clear e0 e1 e2 e3 e4 e5 e6 e7 hB15 HD15 HG114 HG214 HD14 HA114 HA214
          obtain ⟨p3, hp3⟩ : ∃ g, w15.heap.size = g := ⟨_, rfl⟩
          have P3 : Hid (g1 < p3 ∧ g2 < p3) := by rw [← hp3]; exact ⟨HG115.out.lt, HG215.out.lt⟩
          obtain ⟨w16, hw16⟩ : ∃ z, w15.alloc (.cells #[.int .i64 x2, .string y2] 32) = z := ⟨_, rfl⟩
          have HX16 := hid (HX15.out.below (below_here hw16))
          have HG116 := hid (HG115.out.below (below_here hw16) HG115.out.lt)
          have HG216 := hid (HG215.out.below (below_here hw16) HG215.out.lt)
          have HA116 := hid (HA115.out.below (below_here hw16) HA115.out.lt)
          have HA216 := hid (HA215.out.below (below_here hw16) HA215.out.lt)
          have HA316 : Hid (Bk w16 p3 [.int .i64 x2, .string y2] 32) := Bk.here hw16 hp3
          have HP := hid (rprintMark_any ⟨i, q, u, ⟨st2, mc2, us2, gr2, gs2⟩⟩ ob cb w16 ((HGM.out.below HX16.out.low).mono HX16.out.low.size))
          rw [HV2.out] at HP
          obtain ⟨_, _, _, _, _, b0, b1, b2, b3, b4, b5, b6, b7⟩ := K.out _ HX16.out
          go_wp2_with fail
          refine HP.out.mono ?_
          rintro e w17 ⟨rfl, hB17⟩
          have HX17 := hid (HX16.out.below hB17)
          have HG117 := hid (HG116.out.below hB17 HG116.out.lt)
          have HG217 := hid (HG216.out.below hB17 HG216.out.lt)
          have HA117 := hid (HA116.out.below hB17 HA116.out.lt)
          have HA217 := hid (HA216.out.below hB17 HA216.out.lt)
          have HA317 := hid (HA316.out.below hB17 HA316.out.lt)
          clear HP hw16 hp3 HX15 HX16 HG115 HG215 HA115 HA215
          clear b0 b1 b2 b3 b4 b5 b6 b7 hB17 HG116 HG216 HA116 HA216 HA316
          obtain ⟨p4, hp4⟩ : ∃ g, w17.heap.size = g := ⟨_, rfl⟩
          have P4 : Hid (g1 < p4 ∧ g2 < p4) := by rw [← hp4]; exact ⟨HG117.out.lt, HG217.out.lt⟩
          obtain ⟨w18, hw18⟩ : ∃ z, w17.alloc (.cells #[.int .i64 x2, .string y2] 32) = z := ⟨_, rfl⟩
          have HX18 := hid (HX17.out.below (below_here hw18))
          have HG118 := hid (HG117.out.below (below_here hw18) HG117.out.lt)
          have HG218 := hid (HG217.out.below (below_here hw18) HG217.out.lt)
          have HA118 := hid (HA117.out.below (below_here hw18) HA117.out.lt)
          have HA218 := hid (HA217.out.below (below_here hw18) HA217.out.lt)
          have HA318 := hid (HA317.out.below (below_here hw18) HA317.out.lt)
          have HA418 : Hid (Bk w18 p4 [.int .i64 x2, .string y2] 32) := Bk.here hw18 hp4
          have HP := hid (whole_any g1 oa ca gs w18 HG118.out ((HGS.out.below HX18.out.low).mono HX18.out.low.size) HLE.out.1)
          obtain ⟨_, _, _, _, a4, _⟩ := K.out _ HX18.out
          go_wp2_with fail
          refine HP.out.mono ?_
          rintro e w19 ⟨rfl, hB19⟩
          clear HP hw18 hp4 HX17 HG117 HG217 HA117 HA217 HA317
          have HX19 := hid (HX18.out.sole hB19 N1.out)
          have HG219 := hid (HG218.out.sole hB19 (by have := N2.out; omega))
          have HA119 := hid (HA118.out.sole hB19 (by have := P1.out; omega))
          have HA219 := hid (HA218.out.sole hB19 (by have := P2.out; omega))
          have HA319 := hid (HA318.out.sole hB19 (by have := P3.out; omega))
          have HA419 := hid (HA418.out.sole hB19 (by have := P4.out; omega))
          clear a4 hB19 HX18 HG118 HG218 HA118 HA218 HA318 HA418
          have HP := hid (whole_any g2 ob cb gs2 w19 HG219.out ((HGM.out.below HX19.out.low).mono HX19.out.low.size) HLE.out.2)
          obtain ⟨_, _, _, _, _, _, _, _, _, _, _, _, b7⟩ := K.out _ HX19.out
          go_wp2_with fail
          refine HP.out.mono ?_
          rintro e w20 ⟨rfl, hB20⟩
          have HX20 := hid (HX19.out.sole hB20 N2.out.1)
          have k1 := HA119.out.sole hB20 (by have := P1.out; omega)
          have u1 := k1.cell 0 rfl
          have v1 := k1.cell 1 rfl
          have k2 := HA219.out.sole hB20 (by have := P2.out; omega)
          have u2 := k2.cell 0 rfl
          have v2 := k2.cell 1 rfl
          have k3 := HA319.out.sole hB20 (by have := P3.out; omega)
          have u3 := k3.cell 0 rfl
          have v3 := k3.cell 1 rfl
          have k4 := HA419.out.sole hB20 (by have := P4.out; omega)
          have u4 := k4.cell 0 rfl
          have v4 := k4.cell 1 rfl
          clear k1 k2 k3 k4 b7 hB20 HP HX19 HG219 HA119 HA219 HA319 HA419 N1 N2 P1 P2 P3 P4 K HGS HGM HT HV1 HV2 HLE
          have nq1 := neq_same x1 y1
          have nq2 := neq_same x2 y2
          have gd := guardAn
          have ez1 : (z1 != z1) = false := by simp
          have ez2 : (z2 != z2) = false := by simp
          go_wp2
          go_roundw
          case rel => exact ⟨j + 1, by go_num, by omega, HX20⟩
          case measure => simp [intOf]; omega
        · obtain rfl : j = 2 := by omega
          go_wp2
          go_ret
          exact ⟨rfl, HX.out.low⟩
end Go.Proofs.YtihcdahmfdijoaaDoor
