/- CredBack: how much it weighs. -/
import Derived.Test.YtihcdahmfdijoaaDoorCy
import Derived.Test.YtihcdahmfdijoaaDoorCv
import Derived.Test.YtihcdahmfdijoaaDoorNb
import Derived.Deep.RegionHeld3
import Derived.Deep.CutBlock
import Derived.Deep.DeepCutAuto
namespace Go.Proofs.YtihcdahmfdijoaaDoor
open Go.RowKit
/-- the three arguments in blocks of their own -/
structure Bx (w0 w : World) (S M C : List Value) : Prop where
  s : Bk w w0.heap.size S 24
  m : Bk w (w0.heap.size + 1) M 26
  c : Bk w (w0.heap.size + 1 + 1) C 40
  low : Below w0.heap.size w0 w
theorem Bx.below {w0 w w' : World} {S M C : List Value} (h : Bx w0 w S M C) (hB : Below w.heap.size w w') : Bx w0 w' S M C :=
  ⟨h.s.below hB h.s.lt, h.m.below hB h.m.lt, h.c.below hB h.c.lt, h.low.trans (hB.mono h.low.size)⟩
theorem Bx.start (w : World) (S M C : List Value) : Bx w (((w.alloc (.cells S.toArray 24)).alloc (.cells M.toArray 26)).alloc (.cells C.toArray 40)) S M C := by
  have z1 : (w.alloc (.cells S.toArray 24)).heap.size = w.heap.size + 1 := by simp
  have z2 : ((w.alloc (.cells S.toArray 24)).alloc (.cells M.toArray 26)).heap.size = w.heap.size + 1 + 1 := by simp
  refine ⟨?_, ?_, ?_, ((below_new _ _).alloc (by omega) _).alloc (by omega) _⟩
  · exact ((Bk.new w S _).below (below_new _ _) (by omega)).below (below_new _ _) (by omega)
  · have := Bk.new (w.alloc (.cells S.toArray 24)) M 26
    rw [z1] at this
    exact this.below (below_new _ _) (by omega)
  · have := Bk.new ((w.alloc (.cells S.toArray 24)).alloc (.cells M.toArray 26)) C 40
    rwa [z2] at this
set_option maxRecDepth 8000 in
set_option maxHeartbeats 4000000 in
theorem credBack_any (st us gr i q u st2 us2 gr2 xid rpc prog vers proc cf vf : Int) (mc mc2 cr vb : List UInt8) (gs gs2 : List Int) (oa ob : Option Addr) (ca cb : Nat) (ar : ByteArray) (w : World) (hT : ErrT w) (hg : GsAt w w.heap.size oa gs) (hca : gs.length ≤ ca) (hle : (gs.length : Int) ≤ 9223372036854775807) (hg2 : GsAt w w.heap.size ob gs2) (hcb : gs2.length ≤ cb) (hle2 : (gs2.length : Int) ≤ 9223372036854775807) :
    Calls Tryd.prog 4 #[.agg #[.int .i64 st, .string ⟨mc.toArray⟩, .int .i64 us, .int .i64 gr, .slice oa gs.length ca], .agg #[.int .i64 i, .int .i64 q, .int .i64 u, .int .i64 st2, .string ⟨mc2.toArray⟩, .int .i64 us2, .int .i64 gr2, .slice ob gs2.length cb], .agg #[.int .i64 xid, .int .i64 rpc, .int .i64 prog, .int .i64 vers, .int .i64 proc, .int .i64 cf, .string ⟨cr.toArray⟩, .int .i64 vf, .string ⟨vb.toArray⟩, .string ar]] w fun e w' => e = .returned (.bool true) ∧ Below w.heap.size w w' := by
  obtain ⟨w3, hw3⟩ : ∃ x, ((w.alloc (.cells #[.int .i64 st, .string ⟨mc.toArray⟩, .int .i64 us, .int .i64 gr, .slice oa gs.length ca] 24)).alloc (.cells #[.int .i64 i, .int .i64 q, .int .i64 u, .int .i64 st2, .string ⟨mc2.toArray⟩, .int .i64 us2, .int .i64 gr2, .slice ob gs2.length cb] 26)).alloc (.cells #[.int .i64 xid, .int .i64 rpc, .int .i64 prog, .int .i64 vers, .int .i64 proc, .int .i64 cf, .string ⟨cr.toArray⟩, .int .i64 vf, .string ⟨vb.toArray⟩, .string ar] 40) = x := ⟨_, rfl⟩
  have HX3 : Hid (Bx w w3 [.int .i64 st, .string ⟨mc.toArray⟩, .int .i64 us, .int .i64 gr, .slice oa gs.length ca] [.int .i64 i, .int .i64 q, .int .i64 u, .int .i64 st2, .string ⟨mc2.toArray⟩, .int .i64 us2, .int .i64 gr2, .slice ob gs2.length cb] [.int .i64 xid, .int .i64 rpc, .int .i64 prog, .int .i64 vers, .int .i64 proc, .int .i64 cf, .string ⟨cr.toArray⟩, .int .i64 vf, .string ⟨vb.toArray⟩, .string ar]) := by show Bx _ _ _ _ _; rw [← hw3]; exact Bx.start w [.int .i64 st, .string ⟨mc.toArray⟩, .int .i64 us, .int .i64 gr, .slice oa gs.length ca] [.int .i64 i, .int .i64 q, .int .i64 u, .int .i64 st2, .string ⟨mc2.toArray⟩, .int .i64 us2, .int .i64 gr2, .slice ob gs2.length cb] [.int .i64 xid, .int .i64 rpc, .int .i64 prog, .int .i64 vers, .int .i64 proc, .int .i64 cf, .string ⟨cr.toArray⟩, .int .i64 vf, .string ⟨vb.toArray⟩, .string ar]
  obtain ⟨B, hBB⟩ : ∃ B, w.heap.size = B := ⟨_, rfl⟩
  have HBB := hid hBB
  have HS1 := hid (fun w => sysWeighs_any st us gr mc oa gs.length ca w)
  have HS2 := hid (fun w => sysWeighs_any st2 us2 gr2 mc2 ob gs2.length cb w)
  have HC1 := hid (fun w => callWeighs_any xid rpc prog vers proc cf vf ⟨cr.toArray⟩ ⟨vb.toArray⟩ ar w)
  have HAD := hid addsUp_any
  have K : Hid (∀ w', Bx w w' [.int .i64 st, .string ⟨mc.toArray⟩, .int .i64 us, .int .i64 gr, .slice oa gs.length ca] [.int .i64 i, .int .i64 q, .int .i64 u, .int .i64 st2, .string ⟨mc2.toArray⟩, .int .i64 us2, .int .i64 gr2, .slice ob gs2.length cb] [.int .i64 xid, .int .i64 rpc, .int .i64 prog, .int .i64 vers, .int .i64 proc, .int .i64 cf, .string ⟨cr.toArray⟩, .int .i64 vf, .string ⟨vb.toArray⟩, .string ar] → w'.cell? ⟨B, 0, none⟩ = some (.int .i64 st) ∧ w'.cell? ⟨B, 1, none⟩ = some (.string ⟨mc.toArray⟩) ∧ w'.cell? ⟨B, 2, none⟩ = some (.int .i64 us) ∧ w'.cell? ⟨B, 3, none⟩ = some (.int .i64 gr) ∧ w'.cell? ⟨B, 4, none⟩ = some (.slice oa gs.length ca) ∧ w'.cell? ⟨B + 1, 3, none⟩ = some (.int .i64 st2) ∧ w'.cell? ⟨B + 1, 4, none⟩ = some (.string ⟨mc2.toArray⟩) ∧ w'.cell? ⟨B + 1, 5, none⟩ = some (.int .i64 us2) ∧ w'.cell? ⟨B + 1, 6, none⟩ = some (.int .i64 gr2) ∧ w'.cell? ⟨B + 1, 7, none⟩ = some (.slice ob gs2.length cb) ∧ w'.cell? ⟨B + 1 + 1, 0, none⟩ = some (.int .i64 xid) ∧ w'.cell? ⟨B + 1 + 1, 1, none⟩ = some (.int .i64 rpc) ∧ w'.cell? ⟨B + 1 + 1, 2, none⟩ = some (.int .i64 prog) ∧ w'.cell? ⟨B + 1 + 1, 3, none⟩ = some (.int .i64 vers) ∧ w'.cell? ⟨B + 1 + 1, 4, none⟩ = some (.int .i64 proc) ∧ w'.cell? ⟨B + 1 + 1, 5, none⟩ = some (.int .i64 cf) ∧ w'.cell? ⟨B + 1 + 1, 6, none⟩ = some (.string ⟨cr.toArray⟩) ∧ w'.cell? ⟨B + 1 + 1, 7, none⟩ = some (.int .i64 vf) ∧ w'.cell? ⟨B + 1 + 1, 8, none⟩ = some (.string ⟨vb.toArray⟩) ∧ w'.cell? ⟨B + 1 + 1, 9, none⟩ = some (.string ar)) := fun w' h => by
    rw [← HBB.out]
    exact ⟨h.s.cell 0 rfl, h.s.cell 1 rfl, h.s.cell 2 rfl, h.s.cell 3 rfl, h.s.cell 4 rfl, h.m.cell 3 rfl, h.m.cell 4 rfl, h.m.cell 5 rfl, h.m.cell 6 rfl, h.m.cell 7 rfl, h.c.cell 0 rfl, h.c.cell 1 rfl, h.c.cell 2 rfl, h.c.cell 3 rfl, h.c.cell 4 rfl, h.c.cell 5 rfl, h.c.cell 6 rfl, h.c.cell 7 rfl, h.c.cell 8 rfl, h.c.cell 9 rfl⟩
  have HGS := hid (And.intro hg (And.intro hca hle))
  have HGM := hid (And.intro hg2 (And.intro hcb hle2))
  have HT := hid hT
  clear hg hca hle hg2 hcb hle2 hT
  go_enter Tryd.func4, Tryd.ntmps4
  go_upto_region 1 with fail
  have HXd : Hid (Bx w w3.drew [.int .i64 st, .string ⟨mc.toArray⟩, .int .i64 us, .int .i64 gr, .slice oa gs.length ca] [.int .i64 i, .int .i64 q, .int .i64 u, .int .i64 st2, .string ⟨mc2.toArray⟩, .int .i64 us2, .int .i64 gr2, .slice ob gs2.length cb] [.int .i64 xid, .int .i64 rpc, .int .i64 prog, .int .i64 vers, .int .i64 proc, .int .i64 cf, .string ⟨cr.toArray⟩, .int .i64 vf, .string ⟨vb.toArray⟩, .string ar]) := HX3.out.below ((Below.refl _ _).drew)
  have s1 := K.out _ HXd.out
  obtain ⟨X1, hX1⟩ : ∃ x, addF mc.length gs.length = x := ⟨_, rfl⟩
  obtain ⟨X2, hX2⟩ : ∃ x, addF mc2.length gs2.length = x := ⟨_, rfl⟩
  obtain ⟨X3, hX3⟩ : ∃ x, addF (addF (⟨cr.toArray⟩ : ByteArray).size (⟨vb.toArray⟩ : ByteArray).size) ar.size = x := ⟨_, rfl⟩
  rw [hX1] at HS1
  rw [hX2] at HS2
  rw [hX3] at HC1
  have p1 : 0 ≤ X1 := hX1 ▸ addF_pos (by omega) (by omega)
  have p2 : 0 ≤ X2 := hX2 ▸ addF_pos (by omega) (by omega)
  have p3 : 0 ≤ X3 := hX3 ▸ addF_pos (addF_pos (by omega) (by omega)) (by omega)
  have HA1 := hid (fun w => addsUp_any X1 X2 w p1 p2)
  obtain ⟨X4, hX4⟩ : ∃ x, addF X1 X2 = x := ⟨_, rfl⟩
  have p4 : 0 ≤ X4 := hX4 ▸ addF_pos p1 p2
  rw [hX4] at HA1
  have HA2 := hid (fun w => addsUp_any X4 X3 w p4 p3)
  obtain ⟨X5, hX5⟩ : ∃ x, addF X4 X3 = x := ⟨_, rfl⟩
  rw [hX5] at HA2
  have HW : Hid (X5 ≤ 2147483647 → cr.length ≤ 2147483647) := fun h => by
    have e1 := addF_le (a := X4) (b := X3) (by rw [hX5]; exact h)
    have e2 : X3 ≤ 2147483647 := by omega
    have e3 := addF_le (a := addF (⟨cr.toArray⟩ : ByteArray).size (⟨vb.toArray⟩ : ByteArray).size) (b := ar.size) (by rw [hX3]; exact e2)
    have e4 := addF_le (a := (⟨cr.toArray⟩ : ByteArray).size) (b := (⟨vb.toArray⟩ : ByteArray).size) (by omega)
    have := ba_size cr
    omega
  clear hX1 hX2 hX3 hX4 hX5 p1 p2 p3 p4 hw3
  go_cut [43] from 34 (fun v wx => v = .bool (decide (2147483647 < X5)) ∧ Hid (Bx w wx [.int .i64 st, .string ⟨mc.toArray⟩, .int .i64 us, .int .i64 gr, .slice oa gs.length ca] [.int .i64 i, .int .i64 q, .int .i64 u, .int .i64 st2, .string ⟨mc2.toArray⟩, .int .i64 us2, .int .i64 gr2, .slice ob gs2.length cb] [.int .i64 xid, .int .i64 rpc, .int .i64 prog, .int .i64 vers, .int .i64 proc, .int .i64 cf, .string ⟨cr.toArray⟩, .int .i64 vf, .string ⟨vb.toArray⟩, .string ar]))
  case first =>
    as_aux_lemma =>
      rename_i Q1 K1 A3 K0 A2 J0 K9 A1 A0
      have HJ1 := hid A1
      have HJ0 := hid A0
      clear A3 A2 A1 A0
      go_region_held3 (fun w' => w'.cell? ⟨B, 0, none⟩ = some (.int .i64 st) ∧ w'.cell? ⟨B, 1, none⟩ = some (.string ⟨mc.toArray⟩) ∧ w'.cell? ⟨B, 2, none⟩ = some (.int .i64 us) ∧ w'.cell? ⟨B, 3, none⟩ = some (.int .i64 gr) ∧ w'.cell? ⟨B, 4, none⟩ = some (.slice oa gs.length ca) ∧ w'.cell? ⟨B + 1, 3, none⟩ = some (.int .i64 st2) ∧ w'.cell? ⟨B + 1, 4, none⟩ = some (.string ⟨mc2.toArray⟩) ∧ w'.cell? ⟨B + 1, 5, none⟩ = some (.int .i64 us2) ∧ w'.cell? ⟨B + 1, 6, none⟩ = some (.int .i64 gr2) ∧ w'.cell? ⟨B + 1, 7, none⟩ = some (.slice ob gs2.length cb) ∧ w'.cell? ⟨B + 1 + 1, 0, none⟩ = some (.int .i64 xid) ∧ w'.cell? ⟨B + 1 + 1, 1, none⟩ = some (.int .i64 rpc) ∧ w'.cell? ⟨B + 1 + 1, 2, none⟩ = some (.int .i64 prog) ∧ w'.cell? ⟨B + 1 + 1, 3, none⟩ = some (.int .i64 vers) ∧ w'.cell? ⟨B + 1 + 1, 4, none⟩ = some (.int .i64 proc) ∧ w'.cell? ⟨B + 1 + 1, 5, none⟩ = some (.int .i64 cf) ∧ w'.cell? ⟨B + 1 + 1, 6, none⟩ = some (.string ⟨cr.toArray⟩) ∧ w'.cell? ⟨B + 1 + 1, 7, none⟩ = some (.int .i64 vf) ∧ w'.cell? ⟨B + 1 + 1, 8, none⟩ = some (.string ⟨vb.toArray⟩) ∧ w'.cell? ⟨B + 1 + 1, 9, none⟩ = some (.string ar)) (first | with_reducible exact s1 | with_reducible exact s5 | with_reducible exact s6 | with_reducible exact s7) (first
        | (go_at_call 6
           with_reducible refine (HS1.out _).mono ?_
           rintro e w5 ⟨rfl, hB5⟩
           have HX5 : Hid (Bx w w5 [.int .i64 st, .string ⟨mc.toArray⟩, .int .i64 us, .int .i64 gr, .slice oa gs.length ca] [.int .i64 i, .int .i64 q, .int .i64 u, .int .i64 st2, .string ⟨mc2.toArray⟩, .int .i64 us2, .int .i64 gr2, .slice ob gs2.length cb] [.int .i64 xid, .int .i64 rpc, .int .i64 prog, .int .i64 vers, .int .i64 proc, .int .i64 cf, .string ⟨cr.toArray⟩, .int .i64 vf, .string ⟨vb.toArray⟩, .string ar]) := HXd.out.below hB5
           have s5 := K.out _ HX5.out
           clear hB5)
        | (go_at_call 6
           with_reducible refine (HS2.out _).mono ?_
           rintro e w6 ⟨rfl, hB6⟩
           have HX6 : Hid (Bx w w6 [.int .i64 st, .string ⟨mc.toArray⟩, .int .i64 us, .int .i64 gr, .slice oa gs.length ca] [.int .i64 i, .int .i64 q, .int .i64 u, .int .i64 st2, .string ⟨mc2.toArray⟩, .int .i64 us2, .int .i64 gr2, .slice ob gs2.length cb] [.int .i64 xid, .int .i64 rpc, .int .i64 prog, .int .i64 vers, .int .i64 proc, .int .i64 cf, .string ⟨cr.toArray⟩, .int .i64 vf, .string ⟨vb.toArray⟩, .string ar]) := HX5.out.below hB6
           have s6 := K.out _ HX6.out
           clear hB6)
        | (go_at_call 5
           with_reducible refine (HA1.out _).mono ?_
           rintro e w9 ⟨rfl, hw⟩
           rw [hw]
           clear hw)
        | (go_at_call 14
           with_reducible refine (HC1.out _).mono ?_
           rintro e w7 ⟨rfl, hB7⟩
           have HX7 : Hid (Bx w w7 [.int .i64 st, .string ⟨mc.toArray⟩, .int .i64 us, .int .i64 gr, .slice oa gs.length ca] [.int .i64 i, .int .i64 q, .int .i64 u, .int .i64 st2, .string ⟨mc2.toArray⟩, .int .i64 us2, .int .i64 gr2, .slice ob gs2.length cb] [.int .i64 xid, .int .i64 rpc, .int .i64 prog, .int .i64 vers, .int .i64 proc, .int .i64 cf, .string ⟨cr.toArray⟩, .int .i64 vf, .string ⟨vb.toArray⟩, .string ar]) := HX6.out.below hB7
           have s7 := K.out _ HX7.out
           clear hB7)
        | (go_at_call 5
           with_reducible refine (HA2.out _).mono ?_
           rintro e w9 ⟨rfl, hw⟩
           rw [hw]
           clear hw))
      have A1 := HJ1.out
      have A0 := HJ0.out
      go_wp2_with fail
      go_meet
      exact ⟨rfl, HX7⟩
  case rest =>
    as_aux_lemma =>
      obtain ⟨hv, HX⟩ := hcut
      subst hv
      clear HX3 HXd s1 HS1 HS2 HC1 HAD HA1 HA2
      by_cases hb : 2147483647 < X5
      · have hb2 : decide (2147483647 < X5) = true := decide_eq_true hb
        rw [hb2]
        go_wp2
        go_ret
        exact ⟨rfl, HX.out.low⟩
      · have hb2 : decide (2147483647 < X5) = false := decide_eq_false hb
        rw [hb2]
        have HLC : Hid (cr.length ≤ 281474976710656) := by
          have := HW.out (by omega)
          show cr.length ≤ 281474976710656
          omega
        clear HW hb hb2
        have HAW := hid (awake_any wc (HT.out.below HX.out.low))
        go_wp2_with fail
        refine HAW.out.mono ?_
        rintro e w4 ⟨rfl, hB4⟩
        as_aux_lemma =>
          have HX4 := hid (HX.out.below hB4)
          clear hB4 HAW HX
          have HP := hid (printSys_any ⟨st, mc, us, gr, gs⟩ oa ca w4 (HT.out.below HX4.out.low) ((HGS.out.1.below HX4.out.low).mono HX4.out.low.size) HGS.out.2.1 HGS.out.2.2)
          obtain ⟨x, sb, y, hv⟩ := prV_some 1 (printS ⟨st, mc, us, gr, gs⟩)
          rw [hv] at HP
          have HV := hid hv
          clear hv
          obtain ⟨a0, a1, a2, a3, a4, m3, m4, m5, m6, m7, c0, c1, c2, c3, c4, c5, c6, c7, c8, c9⟩ := K.out _ HX4.out
          go_wp2_with fail
          refine HP.out.mono ?_
          rintro e w5 ⟨rfl, hB5⟩
          as_aux_lemma =>
            have HX5 := hid (HX4.out.below hB5)
            obtain ⟨w6, hw6⟩ : ∃ z, w5.alloc (.cells #[.int .i64 x, .string sb] 32) = z := ⟨_, rfl⟩
            have hB6 : Below w5.heap.size w5 w6 := by rw [← hw6]; exact below_new _ _
            have HX6 := hid (HX5.out.below hB6)
            have HA6 : Hid (Bk w6 w5.heap.size [.int .i64 x, .string sb] 32) := by rw [← hw6]; exact Bk.new _ _ _
            clear a0 a1 a2 a3 a4 m3 m4 m5 m6 m7 c0 c1 c2 c3 c4 c5 c6 c7 c8 c9 hB5 hB6 HP HX5 HX4
            go_upto_if 51 with fail
            go_cut [10, 11, 12, 13, 14] from 34 (fun _ _ _ _ _ wx => Hid (Bx w wx [.int .i64 st, .string ⟨mc.toArray⟩, .int .i64 us, .int .i64 gr, .slice oa gs.length ca] [.int .i64 i, .int .i64 q, .int .i64 u, .int .i64 st2, .string ⟨mc2.toArray⟩, .int .i64 us2, .int .i64 gr2, .slice ob gs2.length cb] [.int .i64 xid, .int .i64 rpc, .int .i64 prog, .int .i64 vers, .int .i64 proc, .int .i64 cf, .string ⟨cr.toArray⟩, .int .i64 vf, .string ⟨vb.toArray⟩, .string ar]))
            case first =>
              as_aux_lemma =>
                rename_i Q1 K1 A2 J0 K9 A1 A0
                clear A2
                by_cases hmay : SysP.may ⟨st, mc, us, gr, gs⟩
                · have hv := HV.out
                  unfold printS at hv
                  rw [if_pos hmay] at hv
                  have hl := body_len _ hmay
                  have hps : psP 1 (SysP.body ⟨st, mc, us, gr, gs⟩) = (⟨st, mc, us, gr, gs⟩, 0) := by unfold psP; rw [if_neg (by simp), (readS_iff _ _).2 ⟨hmay, rfl⟩]
                  generalize SysP.body ⟨st, mc, us, gr, gs⟩ = L at hv hl hps
                  unfold prV at hv
                  simp only [Value.tuple.injEq, Array.mk.injEq, List.cons.injEq, Value.agg.injEq, Value.int.injEq, Value.string.injEq, and_true, true_and] at hv
                  obtain ⟨⟨rfl, rfl⟩, rfl⟩ := hv
                  have HPS := hid (parseSys_any 1 L w6 (HT.out.below HX6.out.low) (by omega))
                  rw [hps] at HPS
                  have l1 : ¬ (340 : Int) < (L.length : Int) := by omega
                  have l2 : (L.length : Int) % 4 = 0 := by omega
                  have HLL : Hid (L.length ≤ 281474976710656) := by have := hl.1; show L.length ≤ 281474976710656; omega
                  clear HV hmay hps hl hw6
                  have b0 := HA6.out.cell 0 rfl
                  have b1 := HA6.out.cell 1 rfl
                  go_wp2_with fail
                  refine HPS.out.mono ?_
                  rintro e w7 ⟨oa2, cap2, rfl, ho7, hB7⟩
                  as_aux_lemma =>
                    simp only at ho7 ⊢
                    have HX7 := hid (HX6.out.below hB7)
                    have HA7 := hid (HA6.out.below hB7 HA6.out.lt)
                    obtain ⟨w8, hw8⟩ : ∃ z, w7.alloc (.cells #[.int .i64 st, .string ⟨mc.toArray⟩, .int .i64 us, .int .i64 gr, .slice oa2 gs.length cap2] 24) = z := ⟨_, rfl⟩
                    have hB8 : Below w7.heap.size w7 w8 := by rw [← hw8]; exact below_new _ _
                    have HX8 := hid (HX7.out.below hB8)
                    have HA8 := hid (HA7.out.below hB8 HA7.out.lt)
                    have HL8 : Hid (Bk w8 w7.heap.size [.int .i64 st, .string ⟨mc.toArray⟩, .int .i64 us, .int .i64 gr, .slice oa2 gs.length cap2] 24) := by rw [← hw8]; exact Bk.new _ _ _
                    have HSY := hid (syses_core st us gr mc gs oa oa2 ca cap2 w8 ((HGS.out.1.below HX8.out.low).mono HX8.out.low.size) ((ho7.gsAt.below hB8).mono hB8.size) HGS.out.2.2)
                    clear ho7 hB7 hB8 b0 b1 HPS HX7 HA7
                    obtain ⟨a0, a1, a2, a3, a4, _⟩ := K.out _ HX8.out
                    have d0 := HL8.out.cell 0 rfl
                    have d1 := HL8.out.cell 1 rfl
                    have d2 := HL8.out.cell 2 rfl
                    have d3 := HL8.out.cell 3 rfl
                    have d4 := HL8.out.cell 4 rfl
                    go_wp2_with fail
                    refine HSY.out.mono ?_
                    rintro e w9 ⟨rfl, hB9⟩
                    as_aux_lemma =>
                      have HX9 := hid (HX8.out.below hB9)
                      have HA9 := hid (HA8.out.below hB9 HA8.out.lt)
                      have HPM := hid (parseMark_any 1 L w9 (HT.out.below HX9.out.low) HLL.out)
                      rw [show pmP 1 L = (nulM, 112) from if_pos (by decide)] at HPM
                      clear hB9 hw8 a0 a1 a2 a3 a4 d0 d1 d2 d3 d4 HSY HX8 HA8 HL8
                      have b0 := HA9.out.cell 0 rfl
                      have b1 := HA9.out.cell 1 rfl
                      go_wp2_with fail
                      refine HPM.out.mono ?_
                      rintro e wa ⟨oa3, cap3, rfl, _, hBa⟩
                      as_aux_lemma =>
                        have HXa := hid (HX9.out.below hBa)
                        have HAa := hid (HA9.out.below hBa HA9.out.lt)
                        obtain ⟨wb, hwb⟩ : ∃ z, wa.alloc (.cells #[.int .i64 0, .int .i64 0, .int .i64 0, .int .i64 0, .string ⟨#[]⟩, .int .i64 0, .int .i64 0, .slice oa3 0 cap3] 26) = z := ⟨_, rfl⟩
                        have hBb : Below wa.heap.size wa wb := by rw [← hwb]; exact below_new _ _
                        have HXb := hid (HXa.out.below hBb)
                        have HAb := hid (HAa.out.below hBb HAa.out.lt)
                        clear hBa hBb b0 b1 HPM HX9 HA9 HXa HAa
                        have b0 := HAb.out.cell 0 rfl
                        have b1 := HAb.out.cell 1 rfl
                        simp only [nulM, nulS, List.length_nil]
                        go_wp2_with fail
                        go_meet
                        exact HXb
                · have hv := HV.out
                  unfold printS at hv
                  rw [if_neg hmay] at hv
                  unfold prV at hv
                  simp only [Value.tuple.injEq, Array.mk.injEq, List.cons.injEq, Value.agg.injEq, Value.int.injEq, Value.string.injEq, and_true, true_and] at hv
                  obtain ⟨⟨rfl, rfl⟩, rfl⟩ := hv
                  go_wp2_with fail
                  go_meet
                  exact HX6
            case rest =>
              as_aux_lemma =>
                have HXm := hcut
                obtain ⟨w7, hw7⟩ : ∃ x, x = wc := ⟨_, rfl⟩
                clear HX6 HA6 HV hw6
                have HPm := hid (printMark_any ⟨i, q, u, st2, mc2, us2, gr2, gs2⟩ ob cb wc (HT.out.below HXm.out.low) ((HGM.out.1.below HXm.out.low).mono HXm.out.low.size) HGM.out.2.1 HGM.out.2.2)
                obtain ⟨x2, sb2, y2, hv2⟩ := prV_some 1296126539 (printM ⟨i, q, u, st2, mc2, us2, gr2, gs2⟩)
                rw [hv2] at HPm
                have HV2 := hid hv2
                clear hv2 hw7 w7 hcut
                have hm := HXm.out.m
                rw [hBB] at hm
                have z0 := hm.cell 0 rfl
                have z1 := hm.cell 1 rfl
                have z2 := hm.cell 2 rfl
                have z3 := hm.cell 3 rfl
                have z4 := hm.cell 4 rfl
                have z5 := hm.cell 5 rfl
                have z6 := hm.cell 6 rfl
                have z7 := hm.cell 7 rfl
                clear hm
                go_wp2_with fail
                refine HPm.out.mono ?_
                rintro e w5m ⟨rfl, hB5⟩
                as_aux_lemma =>
                  have HX5m := hid (HXm.out.below hB5)
                  obtain ⟨w6m, hw6m⟩ : ∃ z, w5m.alloc (.cells #[.int .i64 x2, .string sb2] 32) = z := ⟨_, rfl⟩
                  have hB6 : Below w5m.heap.size w5m w6m := by rw [← hw6m]; exact below_new _ _
                  have HX6m := hid (HX5m.out.below hB6)
                  have HA6m : Hid (Bk w6m w5m.heap.size [.int .i64 x2, .string sb2] 32) := by rw [← hw6m]; exact Bk.new _ _ _
                  clear z0 z1 z2 z3 z4 z5 z6 z7 hB5 hB6 HPm HX5m HXm
                  go_upto_if 99 with fail
                  go_cut [16, 17, 18, 19, 20, 21] from 34 (fun _ _ _ _ _ _ wx => Hid (Bx w wx [.int .i64 st, .string ⟨mc.toArray⟩, .int .i64 us, .int .i64 gr, .slice oa gs.length ca] [.int .i64 i, .int .i64 q, .int .i64 u, .int .i64 st2, .string ⟨mc2.toArray⟩, .int .i64 us2, .int .i64 gr2, .slice ob gs2.length cb] [.int .i64 xid, .int .i64 rpc, .int .i64 prog, .int .i64 vers, .int .i64 proc, .int .i64 cf, .string ⟨cr.toArray⟩, .int .i64 vf, .string ⟨vb.toArray⟩, .string ar]))
                  case first =>
                    as_aux_lemma =>
                      rename_i Q1 K1 A2 J0 K9 A1 A0
                      clear A2
                      by_cases hmay : MarkP.may ⟨i, q, u, st2, mc2, us2, gr2, gs2⟩
                      · have hv := HV2.out
                        unfold printM at hv
                        rw [if_pos hmay] at hv
                        have hl := mbody_len _ hmay
                        have hpm : pmP 1296126539 (MarkP.body ⟨i, q, u, st2, mc2, us2, gr2, gs2⟩) = (⟨i, q, u, st2, mc2, us2, gr2, gs2⟩, 0) := by unfold pmP; rw [if_neg (by simp), (readM_iff _ _).2 ⟨hmay, rfl⟩]
                        have hps : psP 1 (SysP.body ⟨st2, mc2, us2, gr2, gs2⟩) = (⟨st2, mc2, us2, gr2, gs2⟩, 0) := by unfold psP; rw [if_neg (by simp), (readS_iff _ _).2 ⟨hmay.2.2.2, rfl⟩]
                        have hsl : (SysP.body ⟨st2, mc2, us2, gr2, gs2⟩).length ≤ 340 := (body_len _ hmay.2.2.2).1
                        have hex : (⟨(MarkP.body ⟨i, q, u, st2, mc2, us2, gr2, gs2⟩).toArray⟩ : ByteArray).extract 24 (MarkP.body ⟨i, q, u, st2, mc2, us2, gr2, gs2⟩).length = ⟨(SysP.body ⟨st2, mc2, us2, gr2, gs2⟩).toArray⟩ := by rw [Bs_from, hl.2.2]
                        have hge : 24 ≤ (MarkP.body ⟨i, q, u, st2, mc2, us2, gr2, gs2⟩).length := by unfold MarkP.body; simp only [List.length_append, nbL_len]; omega
                        generalize MarkP.body ⟨i, q, u, st2, mc2, us2, gr2, gs2⟩ = L at hv hl hpm hex hge
                        generalize SysP.body ⟨st2, mc2, us2, gr2, gs2⟩ = LS at hps hsl hex
                        unfold prV at hv
                        simp only [Value.tuple.injEq, Array.mk.injEq, List.cons.injEq, Value.agg.injEq, Value.int.injEq, Value.string.injEq, and_true, true_and] at hv
                        obtain ⟨⟨rfl, rfl⟩, rfl⟩ := hv
                        have HPS := hid (parseMark_any 1296126539 L w6m (HT.out.below HX6m.out.low) (by omega))
                        rw [hpm] at HPS
                        have HP2 := hid (fun w hT => parseSys_any 1 LS w hT (by omega))
                        rw [hps] at HP2
                        have l1 : ¬ (364 : Int) < (L.length : Int) := by omega
                        have l2 : (L.length : Int) % 4 = 0 := by omega
                        have l3 : (24 : Int) ≤ (L.length : Int) := by omega
                        clear HV2 hmay hpm hps hl hw6m hsl hge
                        have b0 := HA6m.out.cell 0 rfl
                        have b1 := HA6m.out.cell 1 rfl
                        go_wp2_with fail
                        refine HPS.out.mono ?_
                        rintro e w7 ⟨oa2, cap2, rfl, ho7, hB7⟩
                        as_aux_lemma =>
                          simp only at ho7 ⊢
                          have HX7 := hid (HX6m.out.below hB7)
                          have HA7 := hid (HA6m.out.below hB7 HA6m.out.lt)
                          obtain ⟨w8, hw8⟩ : ∃ z, w7.alloc (.cells #[.int .i64 i, .int .i64 q, .int .i64 u, .int .i64 st2, .string ⟨mc2.toArray⟩, .int .i64 us2, .int .i64 gr2, .slice oa2 gs2.length cap2] 26) = z := ⟨_, rfl⟩
                          have hB8 : Below w7.heap.size w7 w8 := by rw [← hw8]; exact below_new _ _
                          have HX8 := hid (HX7.out.below hB8)
                          have HA8 := hid (HA7.out.below hB8 HA7.out.lt)
                          have HL8 : Hid (Bk w8 w7.heap.size [.int .i64 i, .int .i64 q, .int .i64 u, .int .i64 st2, .string ⟨mc2.toArray⟩, .int .i64 us2, .int .i64 gr2, .slice oa2 gs2.length cap2] 26) := by rw [← hw8]; exact Bk.new _ _ _
                          have HSY := hid (marks_core i q u st2 us2 gr2 mc2 gs2 ob oa2 cb cap2 w8 ((HGM.out.1.below HX8.out.low).mono HX8.out.low.size) ((ho7.gsAt.below hB8).mono hB8.size) HGM.out.2.2)
                          clear ho7 hB7 hB8 b0 b1 HPS HX7 HA7
                          have hm := HX8.out.m
                          rw [hBB] at hm
                          have z0 := hm.cell 0 rfl
                          have z1 := hm.cell 1 rfl
                          have z2 := hm.cell 2 rfl
                          have z3 := hm.cell 3 rfl
                          have z4 := hm.cell 4 rfl
                          have z5 := hm.cell 5 rfl
                          have z6 := hm.cell 6 rfl
                          have z7 := hm.cell 7 rfl
                          have d0 := HL8.out.cell 0 rfl
                          have d1 := HL8.out.cell 1 rfl
                          have d2 := HL8.out.cell 2 rfl
                          have d3 := HL8.out.cell 3 rfl
                          have d4 := HL8.out.cell 4 rfl
                          have d5 := HL8.out.cell 5 rfl
                          have d6 := HL8.out.cell 6 rfl
                          have d7 := HL8.out.cell 7 rfl
                          clear hm
                          go_wp2_with fail
                          refine HSY.out.mono ?_
                          rintro e w9 ⟨rfl, hB9⟩
                          as_aux_lemma =>
                            have HX9 := hid (HX8.out.below hB9)
                            have HA9 := hid (HA8.out.below hB9 HA8.out.lt)
                            clear hB9 hw8 z0 z1 z2 z3 z4 z5 z6 z7 d0 d1 d2 d3 d4 d5 d6 d7 HSY HX8 HA8 HL8
                            have b0 := HA9.out.cell 0 rfl
                            have b1 := HA9.out.cell 1 rfl
                            go_wp2_with fail
                            refine (HP2.out _ (HT.out.below HX9.out.low)).mono ?_
                            rintro e wa ⟨oa3, cap3, rfl, hoa, hBa⟩
                            as_aux_lemma =>
                              simp only at hoa ⊢
                              have HXa := hid (HX9.out.below hBa)
                              have HAa := hid (HA9.out.below hBa HA9.out.lt)
                              obtain ⟨wb, hwb⟩ : ∃ z, wa.alloc (.cells #[.int .i64 st2, .string ⟨mc2.toArray⟩, .int .i64 us2, .int .i64 gr2, .slice oa3 gs2.length cap3] 24) = z := ⟨_, rfl⟩
                              have hBb : Below wa.heap.size wa wb := by rw [← hwb]; exact below_new _ _
                              have HXb := hid (HXa.out.below hBb)
                              have HAb := hid (HAa.out.below hBb HAa.out.lt)
                              have HLb : Hid (Bk wb wa.heap.size [.int .i64 st2, .string ⟨mc2.toArray⟩, .int .i64 us2, .int .i64 gr2, .slice oa3 gs2.length cap3] 24) := by rw [← hwb]; exact Bk.new _ _ _
                              have HSZ := hid (syses_core st2 us2 gr2 mc2 gs2 oa3 ob cap3 cb wb ((hoa.gsAt.below hBb).mono hBb.size) ((HGM.out.1.below HXb.out.low).mono HXb.out.low.size) HGM.out.2.2)
                              clear hoa hBa hBb b0 b1 HP2 HX9 HA9 HXa HAa
                              have hm := HXb.out.m
                              rw [hBB] at hm
                              have z0 := hm.cell 0 rfl
                              have z1 := hm.cell 1 rfl
                              have z2 := hm.cell 2 rfl
                              have z3 := hm.cell 3 rfl
                              have z4 := hm.cell 4 rfl
                              have z5 := hm.cell 5 rfl
                              have z6 := hm.cell 6 rfl
                              have z7 := hm.cell 7 rfl
                              have d0 := HLb.out.cell 0 rfl
                              have d1 := HLb.out.cell 1 rfl
                              have d2 := HLb.out.cell 2 rfl
                              have d3 := HLb.out.cell 3 rfl
                              have d4 := HLb.out.cell 4 rfl
                              clear hm
                              go_wp2_with fail
                              refine HSZ.out.mono ?_
                              rintro e wd ⟨rfl, hBd⟩
                              as_aux_lemma =>
                                have HXd := hid (HXb.out.below hBd)
                                have HAd := hid (HAb.out.below hBd HAb.out.lt)
                                clear hBd hwb z0 z1 z2 z3 z4 z5 z6 z7 d0 d1 d2 d3 d4 HSZ HXb HAb HLb
                                have b0 := HAd.out.cell 0 rfl
                                have b1 := HAd.out.cell 1 rfl
                                go_wp2_with fail
                                go_meet
                                exact HXd
                      · have hv := HV2.out
                        unfold printM at hv
                        rw [if_neg hmay] at hv
                        unfold prV at hv
                        simp only [Value.tuple.injEq, Array.mk.injEq, List.cons.injEq, Value.agg.injEq, Value.int.injEq, Value.string.injEq, and_true, true_and] at hv
                        obtain ⟨⟨rfl, rfl⟩, rfl⟩ := hv
                        go_wp2_with fail
                        go_meet
                        exact HX6m
                  case rest =>
                    as_aux_lemma =>
                      clear HX6m HA6m HV2 hw6m
                      have HXc := hcut
                      clear hcut
                      have HJ := hid (judge_any xid rpc prog vers proc cf vf cr vb ar wc (HT.out.below HXc.out.low) HLC.out)
                      have HIS := hid (jP_is xid cf cr vf vb)
                      have HTR := hid (@jP_true xid cf cr vf vb)
                      have HPO := hid (@pmP_ok cf cr)
                      have HSO := hid (@psP_ok cf cr)
                      have HPK := hid (fun w hT => parseMark_any cf cr w hT HLC.out)
                      have HSK := hid (fun w hT => parseSys_any cf cr w hT HLC.out)
                      generalize jP xid cf cr vf vb = J at HJ HIS HTR
                      generalize pmP cf cr = PMK at HIS HTR HPO HPK
                      generalize psP cf cr = PSK at HSO HSK
                      obtain ⟨⟨ji, jq, ju, js, jm, jus, jg, jgs⟩, b, jw⟩ := J
                      obtain ⟨⟨pi_, pq, pu, pst, pmc, pus, pgr, pgs⟩, pe⟩ := PMK
                      obtain ⟨⟨xst, xmc, xus, xgr, xgs⟩, xe⟩ := PSK
                      simp only at HIS HTR HPO HSO
                      obtain ⟨_, _, _, _, _, _, _, _, _, _, y0, y1, y2, y3, y4, y5, y6, y7, y8, y9⟩ := K.out _ HXc.out
                      go_wp2_with fail
                      refine HJ.out.mono ?_
                      rintro e w5 ⟨oaj, capj, rfl, ho5, hB5⟩
                      as_aux_lemma =>
                        simp only at ho5 ⊢
                        have HX5 := hid (HXc.out.below hB5)
                        obtain ⟨w6, hw6⟩ : ∃ z, w5.alloc (.cells #[.int .i64 ji, .int .i64 jq, .int .i64 ju, .int .i64 js, .string ⟨jm.toArray⟩, .int .i64 jus, .int .i64 jg, .slice oaj jgs.length capj] 26) = z := ⟨_, rfl⟩
                        have hB6 : Below w5.heap.size w5 w6 := by rw [← hw6]; exact below_new _ _
                        have HX6 := hid (HX5.out.below hB6)
                        have HN6 : Hid (Bk w6 w5.heap.size [.int .i64 ji, .int .i64 jq, .int .i64 ju, .int .i64 js, .string ⟨jm.toArray⟩, .int .i64 jus, .int .i64 jg, .slice oaj jgs.length capj] 26) := by rw [← hw6]; exact Bk.new _ _ _
                        have HP6 := hid (printMark_any ⟨ji, jq, ju, js, jm, jus, jg, jgs⟩ oaj capj w6 (HT.out.below HX6.out.low) ((ho5.gsAt.below hB6).mono hB6.size) ho5.caps.1 ho5.caps.2)
                        obtain ⟨x3, sb3, y3', hv3⟩ := prV_some 1296126539 (printM ⟨ji, jq, ju, js, jm, jus, jg, jgs⟩)
                        rw [hv3] at HP6
                        have HV3 := hid hv3
                        clear hv3 ho5 hB5 hB6 HJ HXc HX5 y0 y1 y2 y3 y4 y5 y6 y7 y8 y9
                        have d0 := HN6.out.cell 0 rfl
                        have d1 := HN6.out.cell 1 rfl
                        have d2 := HN6.out.cell 2 rfl
                        have d3 := HN6.out.cell 3 rfl
                        have d4 := HN6.out.cell 4 rfl
                        have d5 := HN6.out.cell 5 rfl
                        have d6 := HN6.out.cell 6 rfl
                        have d7 := HN6.out.cell 7 rfl
                        go_wp2_with fail
                        refine HP6.out.mono ?_
                        rintro e w7 ⟨rfl, hB7⟩
                        as_aux_lemma =>
                          have HX7 := hid (HX6.out.below hB7)
                          have HN7 := hid (HN6.out.below hB7 HN6.out.lt)
                          obtain ⟨w8, hw8⟩ : ∃ z, w7.alloc (.cells #[.int .i64 x3, .string sb3] 32) = z := ⟨_, rfl⟩
                          have hB8 : Below w7.heap.size w7 w8 := by rw [← hw8]; exact below_new _ _
                          have HX8 := hid (HX7.out.below hB8)
                          have HN8 := hid (HN7.out.below hB8 HN7.out.lt)
                          have HD8 : Hid (Bk w8 w7.heap.size [.int .i64 x3, .string sb3] 32) := by rw [← hw8]; exact Bk.new _ _ _
                          clear hB7 hB8 hw6 HX6 HN6 HX7 HN7 HP6 d0 d1 d2 d3 d4 d5 d6 d7
                          go_upto_region 21 with fail
                          have hc8 := HX8.out.c
                          rw [hBB] at hc8
                          go_cut [197] from 34 (fun v wx => v = .bool false ∧ Hid (Bx w wx [.int .i64 st, .string ⟨mc.toArray⟩, .int .i64 us, .int .i64 gr, .slice oa gs.length ca] [.int .i64 i, .int .i64 q, .int .i64 u, .int .i64 st2, .string ⟨mc2.toArray⟩, .int .i64 us2, .int .i64 gr2, .slice ob gs2.length cb] [.int .i64 xid, .int .i64 rpc, .int .i64 prog, .int .i64 vers, .int .i64 proc, .int .i64 cf, .string ⟨cr.toArray⟩, .int .i64 vf, .string ⟨vb.toArray⟩, .string ar]))
                          case first =>
                            as_aux_lemma =>
                              rename_i K1 A3 K0 A2 J0 K9 A1 A0
                              clear A3 A2
                              cases b
                              · go_wp2_with fail
                                go_meet
                                exact ⟨rfl, HX8⟩
                              · obtain ⟨t1, t2, t3, t4, t5, t6⟩ := HTR.out rfl
                                simp only [Prod.mk.injEq, MarkP.mk.injEq, SysP.mk.injEq, true_and] at t1
                                obtain ⟨⟨e1, e2, e3, e4, e5, e6, e7, e8⟩, e9⟩ := t1
                                obtain ⟨hcf, hmay, hcr⟩ := HPO.out t2
                                subst e1 e2 e3 e4 e5 e6 e7 e8 e9
                                have hv := HV3.out
                                unfold printM at hv
                                rw [if_pos hmay, ← hcr] at hv
                                unfold prV at hv
                                simp only [Value.tuple.injEq, Array.mk.injEq, List.cons.injEq, Value.agg.injEq, Value.int.injEq, Value.string.injEq, and_true, true_and] at hv
                                obtain ⟨⟨r1, r2⟩, r3⟩ := hv
                                subst r1 r2 r3
                                clear HTR HPO HIS HV3 hmay hcr t2
                                subst hcf t3 t5 t6
                                have nq := fun w => neqA w 1296126539 1296126539 ⟨cr.toArray⟩ ⟨cr.toArray⟩
                                have nq2 := fun w => neqA w 0 0 ⟨#[]⟩ ⟨#[]⟩
                                have gd := guardAn
                                have nl : ¬ jq < ju := by omega
                                have f0 := HD8.out.cell 0 rfl
                                have f1 := HD8.out.cell 1 rfl
                                have g1 := HN8.out.cell 1 rfl
                                have g2 := HN8.out.cell 2 rfl
                                have h0 := hc8.cell 0 rfl
                                have h5 := hc8.cell 5 rfl
                                have h6 := hc8.cell 6 rfl
                                have h7 := hc8.cell 7 rfl
                                have h8 := hc8.cell 8 rfl
                                simp only [beq_self_eq_true, Bool.and_self, Bool.not_true] at nq nq2
                                go_wp2_with fail
                                go_meet
                                exact ⟨rfl, HX8⟩
                          case rest =>
                            as_aux_lemma =>
                              obtain ⟨hv, HX9⟩ := hcut
                              subst hv
                              clear HX8 HN8 HD8 hw8 hc8 HTR HPO HV3
                              have hc9 := HX9.out.c
                              rw [hBB] at hc9
                              have h5 := hc9.cell 5 rfl
                              have h6 := hc9.cell 6 rfl
                              go_wp2_with fail
                              refine (HPK.out _ (HT.out.below HX9.out.low)).mono ?_
                              rintro e wp ⟨oap, capp, rfl, _, hBp⟩
                              as_aux_lemma =>
                                simp only
                                have HXp := hid (HX9.out.below hBp)
                                obtain ⟨wq, hwq⟩ : ∃ z, wp.alloc (.cells #[.int .i64 pi_, .int .i64 pq, .int .i64 pu, .int .i64 pst, .string ⟨pmc.toArray⟩, .int .i64 pus, .int .i64 pgr, .slice oap pgs.length capp] 26) = z := ⟨_, rfl⟩
                                have hBq : Below wp.heap.size wp wq := by rw [← hwq]; exact below_new _ _
                                have HXq := hid (HXp.out.below hBq)
                                have HNq : Hid (Bk wq wp.heap.size [.int .i64 pi_, .int .i64 pq, .int .i64 pu, .int .i64 pst, .string ⟨pmc.toArray⟩, .int .i64 pus, .int .i64 pgr, .slice oap pgs.length capp] 26) := by rw [← hwq]; exact Bk.new _ _ _
                                clear hBp hBq HPK HX9 HXp h5 h6 hc9
                                have hcq := HXq.out.c
                                rw [hBB] at hcq
                                have h0 := hcq.cell 0 rfl
                                have h7 := hcq.cell 7 rfl
                                have h8 := hcq.cell 8 rfl
                                have g1 := HNq.out.cell 1 rfl
                                have g2 := HNq.out.cell 2 rfl
                                have eq := fun w => eqlA w vf 0 ⟨vb.toArray⟩ ⟨#[]⟩
                                obtain ⟨z, hz⟩ : ∃ z, (vf == 0 && (⟨vb.toArray⟩ : ByteArray).toList == (⟨#[]⟩ : ByteArray).toList) = z := ⟨_, rfl⟩
                                rw [hz] at eq
                                have HZ : Hid ((vf == 0 && vb == []) = z) := by show _ = _; rw [← hz, ba_toList, show (⟨#[]⟩ : ByteArray).toList = [] from ba_toList []]
                                have gd := guardAn
                                clear hz hcq
                                go_upto_region 24 with fail
                                go_cut [29] from 34 (fun v wx => v = .bool b ∧ Hid (Bx w wx [.int .i64 st, .string ⟨mc.toArray⟩, .int .i64 us, .int .i64 gr, .slice oa gs.length ca] [.int .i64 i, .int .i64 q, .int .i64 u, .int .i64 st2, .string ⟨mc2.toArray⟩, .int .i64 us2, .int .i64 gr2, .slice ob gs2.length cb] [.int .i64 xid, .int .i64 rpc, .int .i64 prog, .int .i64 vers, .int .i64 proc, .int .i64 cf, .string ⟨cr.toArray⟩, .int .i64 vf, .string ⟨vb.toArray⟩, .string ar]))
                                case first =>
                                  as_aux_lemma =>
                                    rename_i K1 A3 K0 A2 J0 K9 A1 A0
                                    clear A3 A2
                                    rw [HZ.out] at HIS
                                    cases c1 : (pe == 0)
                                    · go_wp2_with fail
                                      go_meet
                                      exact ⟨by rw [HIS.out, c1]; rfl, HXq⟩
                                    · cases c2 : (pq == xid)
                                      · go_wp2_with fail
                                        go_meet
                                        exact ⟨by rw [HIS.out, c1, c2]; rfl, HXq⟩
                                      · cases c3 : decide (pu ≤ pq)
                                        · go_wp2_with fail
                                          go_meet
                                          exact ⟨by rw [HIS.out, c1, c2, c3]; rfl, HXq⟩
                                        · have c3' : pu ≤ pq := of_decide_eq_true c3
                                          go_wp2_with fail
                                          go_meet
                                          exact ⟨by rw [HIS.out, c1, c2, c3]; rfl, HXq⟩
                                case rest =>
                                  as_aux_lemma =>
                                    obtain ⟨hv, HXr⟩ := hcut
                                    subst hv
                                    clear HXq HNq hwq HZ HIS h0 h7 h8 g1 g2 eq
                                    have hcr := HXr.out.c
                                    rw [hBB] at hcr
                                    have h5 := hcr.cell 5 rfl
                                    have h6 := hcr.cell 6 rfl
                                    go_wp2_with fail
                                    refine (HSK.out _ (HT.out.below HXr.out.low)).mono ?_
                                    rintro e wt ⟨oax, capx, rfl, hot, hBt⟩
                                    as_aux_lemma =>
                                      simp only at hot ⊢
                                      have HXt := hid (HXr.out.below hBt)
                                      obtain ⟨wu, hwu⟩ : ∃ z, wt.alloc (.cells #[.int .i64 xst, .string ⟨xmc.toArray⟩, .int .i64 xus, .int .i64 xgr, .slice oax xgs.length capx] 24) = z := ⟨_, rfl⟩
                                      have hBu : Below wt.heap.size wt wu := by rw [← hwu]; exact below_new _ _
                                      have HXu := hid (HXt.out.below hBu)
                                      have HNu : Hid (Bk wu wt.heap.size [.int .i64 xst, .string ⟨xmc.toArray⟩, .int .i64 xus, .int .i64 xgr, .slice oax xgs.length capx] 24) := by rw [← hwu]; exact Bk.new _ _ _
                                      have HPu := hid (printSys_any ⟨xst, xmc, xus, xgr, xgs⟩ oax capx wu (HT.out.below HXu.out.low) ((hot.gsAt.below hBu).mono hBu.size) hot.caps.1 hot.caps.2)
                                      obtain ⟨x4, sb4, y4, hv4⟩ := prV_some 1 (printS ⟨xst, xmc, xus, xgr, xgs⟩)
                                      rw [hv4] at HPu
                                      have HV4 := hid hv4
                                      clear hv4 hot hBt hBu HSK HXr HXt h5 h6 hcr
                                      have d0 := HNu.out.cell 0 rfl
                                      have d1 := HNu.out.cell 1 rfl
                                      have d2 := HNu.out.cell 2 rfl
                                      have d3 := HNu.out.cell 3 rfl
                                      have d4 := HNu.out.cell 4 rfl
                                      go_wp2_with fail
                                      refine HPu.out.mono ?_
                                      rintro e wv ⟨rfl, hBv⟩
                                      as_aux_lemma =>
                                        have HXv := hid (HXu.out.below hBv)
                                        obtain ⟨wx, hwx⟩ : ∃ z, wv.alloc (.cells #[.int .i64 x4, .string sb4] 32) = z := ⟨_, rfl⟩
                                        have hBx : Below wv.heap.size wv wx := by rw [← hwx]; exact below_new _ _
                                        have HXx := hid (HXv.out.below hBx)
                                        have HDx : Hid (Bk wx wv.heap.size [.int .i64 x4, .string sb4] 32) := by rw [← hwx]; exact Bk.new _ _ _
                                        clear hBv hBx hwu HXu HNu HPu HXv d0 d1 d2 d3 d4
                                        have hcx := HXx.out.c
                                        rw [hBB] at hcx
                                        have h5 := hcx.cell 5 rfl
                                        have h6 := hcx.cell 6 rfl
                                        have f0 := HDx.out.cell 0 rfl
                                        have f1 := HDx.out.cell 1 rfl
                                        clear hcx
                                        by_cases hxe : xe = 0
                                        · obtain ⟨k1, k2, k3⟩ := HSO.out hxe
                                          have hv := HV4.out
                                          unfold printS at hv
                                          rw [if_pos k2, ← k3] at hv
                                          unfold prV at hv
                                          simp only [Value.tuple.injEq, Array.mk.injEq, List.cons.injEq, Value.agg.injEq, Value.int.injEq, Value.string.injEq, and_true, true_and] at hv
                                          obtain ⟨⟨r1, r2⟩, r3⟩ := hv
                                          subst r1 r2 r3
                                          clear HSO HV4 k2 k3
                                          subst hxe k1
                                          have eq := fun w => eqlA w 1 1 ⟨cr.toArray⟩ ⟨cr.toArray⟩
                                          simp only [beq_self_eq_true, Bool.and_self] at eq
                                          go_wp2
                                          go_ret
                                          exact ⟨rfl, HXx.out.low⟩
                                        · have h1 : (xe != 0) = true := bne_iff_ne.2 hxe
                                          clear HSO HV4
                                          go_wp2
                                          go_ret
                                          exact ⟨rfl, HXx.out.low⟩
end Go.Proofs.YtihcdahmfdijoaaDoor
