/- CachePlays: its walk. -/
import Derived.Test.YtnpffhgmakbdnaaPlTb
import Derived.Deep.CutBlock
import Derived.Deep.CutRange
namespace Go.Proofs.Ytnpffhgmakbdnaa
open Go.RowKit
set_option maxHeartbeats 4000000 in
set_option maxRecDepth 8000 in
theorem plays_any (c1 e1 b1 r1 c2 e2 b2 r2 : Int) (oS : Option Addr) (sb off len cap : Nat) (O : Nat → OpR) (w : World) (hoa : 0 < len → oS = some ⟨sb, off, none⟩) (hops : OpsAt w sb off len O) (hlen : len * 48 ≤ 140737488355328) :
    Calls Try.prog 3 #[cfX c1 e1 b1 r1, cfX c2 e2 b2 r2, .slice oS len cap] w fun e w' => e = .returned (.bool true) ∧ Below w.heap.size w w' := by
  have HL := hid hlen
  have HO := hid hops
  have HA := hid hoa
  clear hops hoa hlen
  obtain ⟨w0, hw0⟩ : ∃ w0, w.alloc (.cells #[.int .i64 c1, .int .i64 e1, .int .i64 b1, .int .i64 r1] 23) = w0 := ⟨_, rfl⟩
  obtain ⟨p3, hp3⟩ : ∃ p3, w.heap.size = p3 := ⟨_, rfl⟩
  obtain ⟨w1, hw1⟩ : ∃ w1, w0.alloc (.cells #[.int .i64 c2, .int .i64 e2, .int .i64 b2, .int .i64 r2] 23) = w1 := ⟨_, rfl⟩
  obtain ⟨p4, hp4⟩ : ∃ p4, w0.heap.size = p4 := ⟨_, rfl⟩
  obtain ⟨K1, H1⟩ : ∃ K1, Hid (BS w w1 K1 ∧ TB K1 w1 5 p3 (.cells #[.int .i64 c1, .int .i64 e1, .int .i64 b1, .int .i64 r1] 23) ∧ TB K1 w1 5 p4 (.cells #[.int .i64 c2, .int .i64 e2, .int .i64 b2, .int .i64 r2] 23)) := by
    have m0 := Mv.alloc w (fun _ => 0) (fun _ => 5) (.cells #[.int .i64 c1, .int .i64 e1, .int .i64 b1, .int .i64 r1] 23)
    have t0 := TB.new w (fun _ => 0) (fun _ => 5) (.cells #[.int .i64 c1, .int .i64 e1, .int .i64 b1, .int .i64 r1] 23) (t := 5) rfl
    rw [hw0] at m0 t0
    rw [hp3] at t0
    have m1 := Mv.alloc w0 (ext w (fun _ => 0) (fun _ => 5)) (fun _ => 5) (.cells #[.int .i64 c2, .int .i64 e2, .int .i64 b2, .int .i64 r2] 23)
    have t1 := TB.new w0 (ext w (fun _ => 0) (fun _ => 5)) (fun _ => 5) (.cells #[.int .i64 c2, .int .i64 e2, .int .i64 b2, .int .i64 r2] 23) (t := 5) rfl
    rw [hw1] at m1 t1
    rw [hp4] at t1
    exact ⟨_, ((BS.first w).mv m0 id).mv m1 id, t0.mv m1 id, t1⟩
  have HN1 := hid (fun w K => new_u w K 1 c1 e1 b1 r1)
  have HD1 := hid (fun w K B => dnew_u w K B 10 c1 e1 b1 r1)
  have HN2 := hid (fun w K => new_u w K 2 c2 e2 b2 r2)
  have HD2 := hid (fun w K B => dnew_u w K B 20 c2 e2 b2 r2)
  obtain ⟨x1, hx1⟩ : ∃ x1, erV (mayB c1 e1 b1 r1) = x1 := ⟨_, rfl⟩
  obtain ⟨x2, hx2⟩ : ∃ x2, erV (mayB c2 e2 b2 r2) = x2 := ⟨_, rfl⟩
  rw [hx1] at HN1 HD1
  rw [hx2] at HN2 HD2
  clear hx1 hx2
  go_enter Try.func3, Try.ntmps3
  go_wp2_with fail
  refine (known_all w1).mono ?_
  rintro _ w2 ⟨rfl, e2'⟩
  obtain ⟨K2, H2⟩ : ∃ K2, Hid (BS w w2 K2 ∧ TB K2 w2 5 p3 (.cells #[.int .i64 c1, .int .i64 e1, .int .i64 b1, .int .i64 r1] 23) ∧ TB K2 w2 5 p4 (.cells #[.int .i64 c2, .int .i64 e2, .int .i64 b2, .int .i64 r2] 23)) := by
    have m := Mv.of_below e2' K1 (fun _ => 9)
    exact ⟨_, H1.out.1.mv m id, H1.out.2.1.mv m id, H1.out.2.2.mv m id⟩
  clear e2' H1
  have y0 : w2.cell? ⟨p3, 0, none⟩ = some (.int .i64 c1) := by unfold World.cell?; rw [H2.out.2.1.at_]; rfl
  have y1 : w2.cell? ⟨p3, 1, none⟩ = some (.int .i64 e1) := by unfold World.cell?; rw [H2.out.2.1.at_]; rfl
  have y2 : w2.cell? ⟨p3, 2, none⟩ = some (.int .i64 b1) := by unfold World.cell?; rw [H2.out.2.1.at_]; rfl
  have y3 : w2.cell? ⟨p3, 3, none⟩ = some (.int .i64 r1) := by unfold World.cell?; rw [H2.out.2.1.at_]; rfl
  go_wp2_with fail
  refine (HN1.out w2 K2).mono ?_
  rintro _ w3 ⟨oa, K3, rfl, m3, d3⟩
  have H3 := hid (And.intro (H2.out.1.mv m3 id) (And.intro (H2.out.2.1.mv m3 id) (And.intro (H2.out.2.2.mv m3 id) d3)))
  clear m3 d3 y0 y1 y2 y3 H2
  have y0 : w3.cell? ⟨p3, 0, none⟩ = some (.int .i64 c1) := by unfold World.cell?; rw [H3.out.2.1.at_]; rfl
  have y1 : w3.cell? ⟨p3, 1, none⟩ = some (.int .i64 e1) := by unfold World.cell?; rw [H3.out.2.1.at_]; rfl
  have y2 : w3.cell? ⟨p3, 2, none⟩ = some (.int .i64 b1) := by unfold World.cell?; rw [H3.out.2.1.at_]; rfl
  have y3 : w3.cell? ⟨p3, 3, none⟩ = some (.int .i64 r1) := by unfold World.cell?; rw [H3.out.2.1.at_]; rfl
  go_wp2_with fail
  refine (HD1.out w3 K3 w.heap.size).mono ?_
  rintro _ w4 ⟨ox, K4, rfl, m4, d4⟩
  have H4 := hid (And.intro (H3.out.1.mv m4 id) (And.intro (H3.out.2.2.1.mv m4 id) (SD.made (by decide) H3.out.2.2.2 m4 d4)))
  clear m4 d4 y0 y1 y2 y3 H3
  have y0 : w4.cell? ⟨p4, 0, none⟩ = some (.int .i64 c2) := by unfold World.cell?; rw [H4.out.2.1.at_]; rfl
  have y1 : w4.cell? ⟨p4, 1, none⟩ = some (.int .i64 e2) := by unfold World.cell?; rw [H4.out.2.1.at_]; rfl
  have y2 : w4.cell? ⟨p4, 2, none⟩ = some (.int .i64 b2) := by unfold World.cell?; rw [H4.out.2.1.at_]; rfl
  have y3 : w4.cell? ⟨p4, 3, none⟩ = some (.int .i64 r2) := by unfold World.cell?; rw [H4.out.2.1.at_]; rfl
  go_wp2_with fail
  refine (HN2.out w4 K4).mono ?_
  rintro _ w5 ⟨ob, K5, rfl, m5, d5⟩
  have H5 := hid (And.intro (H4.out.1.mv m5 id) (And.intro (H4.out.2.1.mv m5 id) (And.intro (H4.out.2.2.mv m5 id id id id) d5)))
  clear m5 d5 y0 y1 y2 y3 H4
  have y0 : w5.cell? ⟨p4, 0, none⟩ = some (.int .i64 c2) := by unfold World.cell?; rw [H5.out.2.1.at_]; rfl
  have y1 : w5.cell? ⟨p4, 1, none⟩ = some (.int .i64 e2) := by unfold World.cell?; rw [H5.out.2.1.at_]; rfl
  have y2 : w5.cell? ⟨p4, 2, none⟩ = some (.int .i64 b2) := by unfold World.cell?; rw [H5.out.2.1.at_]; rfl
  have y3 : w5.cell? ⟨p4, 3, none⟩ = some (.int .i64 r2) := by unfold World.cell?; rw [H5.out.2.1.at_]; rfl
  go_wp2_with fail
  refine (HD2.out w5 K5 w.heap.size).mono ?_
  rintro _ w6 ⟨oy, K6, rfl, m6, d6⟩
  obtain ⟨w7, hw7⟩ : ∃ w7, w6.alloc (.cells #[.pointer oa, .pointer ox, .pointer ob, .pointer oy] 34) = w7 := ⟨_, rfl⟩
  obtain ⟨Lb, hLb⟩ : ∃ Lb, w6.heap.size = Lb := ⟨_, rfl⟩
  obtain ⟨K7, H7⟩ : ∃ K7, Hid (ST w w7 K7 oa ox ob oy Lb) := by
    have m := Mv.alloc w6 K6 (fun _ => 3) (.cells #[.pointer oa, .pointer ox, .pointer ob, .pointer oy] 34)
    have t := TB.new w6 K6 (fun _ => 3) (.cells #[.pointer oa, .pointer ox, .pointer ob, .pointer oy] 34) (t := 3) rfl
    rw [hw7] at m t
    rw [hLb] at t
    exact ⟨_, (H5.out.1.mv m6 id).mv m id, (H5.out.2.2.1.mv m6 id id id id).mv m id id id id, (SD.made (by decide) H5.out.2.2.2 m6 d6).mv m id id id id, t⟩
  clear m6 d6 y0 y1 y2 y3 H5 HN1 HN2 HD1 HD2
  have n1 := H7.out.s1.nil
  have n2 := H7.out.s2.nil
  have q1 : (x1 == x1) = true := by simp
  have q2 : (x2 == x2) = true := by simp
  have b34 := bld34
  have b35 := bls35
  obtain ⟨z1, hz1⟩ : ∃ z1, ox.isNone = z1 := ⟨_, rfl⟩
  obtain ⟨z2, hz2⟩ : ∃ z2, oy.isNone = z2 := ⟨_, rfl⟩
  rw [hz1] at n1
  rw [hz2] at n2
  have q3 : (!z1 == z1) = false := by cases z1 <;> rfl
  have q4 : (!z2 == z2) = false := by cases z2 <;> rfl
  go_upto_block 0 with fail
  clear q1 q2 q3 q4 n1 n2 hz1 hz2 b34 b35 hw0 hp3 hw1 hp4 hw7 hLb
  go_cut [17] from 80 to 107 (fun _ wx => ∃ K, Hid (ST w wx K oa ox ob oy Lb))
  case first =>
    as_aux_lemma =>
    go_wp2_with fail
    go_loopw [17] (fun u17 wr => ∃ (i : Nat) (K : Nat → Nat), u17 = .int .i64 i ∧ i ≤ len ∧ ST w wr K oa ox ob oy Lb) (fun u17 _ => len - (intOf u17).toNat)
    case atStart => exact ⟨0, K7, rfl, Nat.zero_le _, H7.out⟩
    case round =>
      obtain ⟨i, K, rfl, hi, hs⟩ := hrel
      obtain ⟨wo, hwo⟩ : ∃ wo, wo = wr := ⟨_, rfl⟩
      subst hwo
      have HS := hid hs
      have HI := hid hi
      clear hs H7 hi
      by_cases hlt : i < len
      · have hi' : (i : Int) < (len : Int) := by omega
        have hoa2 := HA.out (by omega)
        subst hoa2
        have hwi : wrap64 ((i : Int) + 1) = (i : Int) + 1 := by have h1 := HL.out; unfold wrap64; omega
        obtain ⟨o, ho⟩ : ∃ o, O i = o := ⟨_, rfl⟩
        have hok := HO.out.ok i hlt
        rw [ho] at hok
        have HOK := hid hok
        have HQ : Hid (∀ w' K', ST w w' K' oa ox ob oy Lb → ∀ k, k < 9 → w'.cell? ⟨sb, off + i * 9 + k, none⟩ = (opC o)[k]?) := fun w' K' h' => by
          have := (HO.out.below h'.bs.be).c i hlt
          rwa [ho] at this
        clear hok ho
        obtain ⟨other, raw, what, who, seq0, water0, a0, i0, rep⟩ := o
        have x0 := HS.out.c0
        have x1' := HS.out.c1
        obtain ⟨w5, hw5⟩ : ∃ w5, wo.alloc (.cells #[.pointer none, .pointer none] 34) = w5 := ⟨_, rfl⟩
        obtain ⟨A, hA⟩ : ∃ A, wo.heap.size = A := ⟨_, rfl⟩
        obtain ⟨w6, hw6⟩ : ∃ w6, w5.setCell ⟨A, 0, none⟩ (.pointer oa) = w6 := ⟨_, rfl⟩
        obtain ⟨w7, hw7⟩ : ∃ w7, w6.setCell ⟨A, 1, none⟩ (.pointer ox) = w7 := ⟨_, rfl⟩
        obtain ⟨K5, H5⟩ : ∃ K5, Hid (TB K5 w5 4 A (.cells #[.pointer none, .pointer none] 34) ∧ TB K5 w6 4 A (.cells #[.pointer oa, .pointer none] 34) ∧ TB K5 w7 4 A (.cells #[.pointer oa, .pointer ox] 34) ∧ ST w w7 K5 oa ox ob oy Lb) := by
          have m := Mv.alloc wo K (fun _ => 4) (.cells #[.pointer none, .pointer none] 34)
          have t := TB.new wo K (fun _ => 4) (.cells #[.pointer none, .pointer none] 34) (t := 4) rfl
          rw [hw5] at m t
          rw [hA] at t
          have t6 := t.set (n := 0) (.pointer oa)
          have m6 := Mv.of_set w5 (ext wo K (fun _ => 4)) ⟨A, 0, none⟩ (.pointer oa) t.k
          rw [hw6] at t6 m6
          have t7 := t6.set (n := 1) (.pointer ox)
          have m7 := Mv.of_set w6 (ext wo K (fun _ => 4)) ⟨A, 1, none⟩ (.pointer ox) t.k
          rw [hw7] at t7 m7
          exact ⟨_, t, t6, t7, ((HS.out.mv m (fun _ _ h => h)).mv m6 (fun y hy h => by omega)).mv m7 (fun y hy h => by omega)⟩
        have f5 : ∀ n, w5.frozen? ⟨A, n, none⟩ = false := fun n => by unfold World.frozen?; rw [H5.out.1.at_]; rfl
        have f6 : ∀ n, w6.frozen? ⟨A, n, none⟩ = false := fun n => by unfold World.frozen?; rw [H5.out.2.1.at_]; rfl
        have c50 : w5.cell? ⟨A, 0, none⟩ = some (.pointer none) := by unfold World.cell?; rw [H5.out.1.at_]; rfl
        have c51 : w5.cell? ⟨A, 1, none⟩ = some (.pointer none) := by unfold World.cell?; rw [H5.out.1.at_]; rfl
        have c61 : w6.cell? ⟨A, 1, none⟩ = some (.pointer none) := by unfold World.cell?; rw [H5.out.2.1.at_]; rfl
        have u0 : w7.cell? ⟨sb, off + i * 9, none⟩ = some (.bool other) := HQ.out _ _ H5.out.2.2.2 0 (by omega)
        cases other
        · have HX := hid (And.intro H5.out.2.2.1 H5.out.2.2.2)
          have u1 : w7.cell? ⟨sb, off + i * 9 + 1, none⟩ = some (.bool raw) := HQ.out _ _ HX.out.2 1 (by omega)
          have u2 : w7.cell? ⟨sb, off + i * 9 + 2, none⟩ = some (.int .i64 what) := HQ.out _ _ HX.out.2 2 (by omega)
          have u3 : w7.cell? ⟨sb, off + i * 9 + 3, none⟩ = some (.int .i64 who) := HQ.out _ _ HX.out.2 3 (by omega)
          have u4 : w7.cell? ⟨sb, off + i * 9 + 4, none⟩ = some (.int .i64 seq0) := HQ.out _ _ HX.out.2 4 (by omega)
          have u5 : w7.cell? ⟨sb, off + i * 9 + 5, none⟩ = some (.int .i64 water0) := HQ.out _ _ HX.out.2 5 (by omega)
          have u6 : w7.cell? ⟨sb, off + i * 9 + 6, none⟩ = some (.int .i64 a0) := HQ.out _ _ HX.out.2 6 (by omega)
          have u7 : w7.cell? ⟨sb, off + i * 9 + 7, none⟩ = some (.int .i64 i0) := HQ.out _ _ HX.out.2 7 (by omega)
          have u8 : w7.cell? ⟨sb, off + i * 9 + 8, none⟩ = some (.string rep) := HQ.out _ _ HX.out.2 8 (by omega)
          have uo : w7.cell? ⟨sb, off + i * 9, none⟩ = some (.bool false) := HQ.out _ _ HX.out.2 0 (by omega)
          have v0 : w7.cell? ⟨A, 0, none⟩ = some (.pointer oa) := by unfold World.cell?; rw [HX.out.1.at_]; rfl
          have v1 : w7.cell? ⟨A, 1, none⟩ = some (.pointer ox) := by unfold World.cell?; rw [HX.out.1.at_]; rfl
          rcases HX.out.2.s1 with ⟨e0, e⟩ | ⟨p, x, g, mm, C, w1', w2', L, I, e1', e2', _, _⟩
          · rw [e] at v1
            clear e e0
            go_wp2
            go_roundw
            case rel => exact ⟨i + 1, K5, by rw [hwi]; rfl, hlt, HX.out.2⟩
            case measure => exact meas hwi hi'
          · obtain ⟨p', q1, q2⟩ := (HX.out.2.mv (Mv.drew (fun _ => False) _ _) (fun _ _ h => h)).step1 e2' _ HOK.out
            rw [e1'] at q1
            cases q1
            have HC := hid q2
            rw [e1'] at v0
            rw [e2'] at v1
            clear q2 e1' e2'
            go_wp2_with fail
            rename_i KK aa
            have A0 : Hid (∀ a w, _ → KK a w) := aa
            clear aa
            go_region_with (first
              | (go_at_call 9
                 refine HC.out.mono ?_
                 rintro e w8 ⟨rfl, K8, hs8⟩
                 have HS8 := hid hs8
                 clear hs8))
            all_goals (
              have aa := A0.out
              clear A0
              go_wp2
              go_roundw
              case rel => exact ⟨i + 1, K8, by rw [hwi]; rfl, hlt, HS8.out⟩
              case measure => exact meas hwi hi')
        · obtain ⟨w8, hw8⟩ : ∃ w8, w7.setCell ⟨A, 0, none⟩ (.pointer ob) = w8 := ⟨_, rfl⟩
          obtain ⟨w9, hw9⟩ : ∃ w9, w8.setCell ⟨A, 1, none⟩ (.pointer oy) = w9 := ⟨_, rfl⟩
          have H8 : Hid (TB K5 w8 4 A (.cells #[.pointer ob, .pointer ox] 34) ∧ TB K5 w9 4 A (.cells #[.pointer ob, .pointer oy] 34) ∧ ST w w9 K5 oa ox ob oy Lb) := by
            have t8 := H5.out.2.2.1.set (n := 0) (.pointer ob)
            have m8 := Mv.of_set w7 K5 ⟨A, 0, none⟩ (.pointer ob) H5.out.2.2.1.k
            rw [hw8] at t8 m8
            have t9 := t8.set (n := 1) (.pointer oy)
            have m9 := Mv.of_set w8 K5 ⟨A, 1, none⟩ (.pointer oy) t8.k
            rw [hw9] at t9 m9
            exact ⟨t8, t9, (H5.out.2.2.2.mv m8 (fun y hy h => by omega)).mv m9 (fun y hy h => by omega)⟩
          have x2' := H5.out.2.2.2.c2
          have x3' := H5.out.2.2.2.c3
          have f7 : ∀ n, w7.frozen? ⟨A, n, none⟩ = false := fun n => by unfold World.frozen?; rw [H5.out.2.2.1.at_]; rfl
          have f8 : ∀ n, w8.frozen? ⟨A, n, none⟩ = false := fun n => by unfold World.frozen?; rw [H8.out.1.at_]; rfl
          have c70 : w7.cell? ⟨A, 0, none⟩ = some (.pointer oa) := by unfold World.cell?; rw [H5.out.2.2.1.at_]; rfl
          have c81 : w8.cell? ⟨A, 1, none⟩ = some (.pointer ox) := by unfold World.cell?; rw [H8.out.1.at_]; rfl
          have HX := hid H8.out.2
          have u1 : w9.cell? ⟨sb, off + i * 9 + 1, none⟩ = some (.bool raw) := HQ.out _ _ HX.out.2 1 (by omega)
          have u2 : w9.cell? ⟨sb, off + i * 9 + 2, none⟩ = some (.int .i64 what) := HQ.out _ _ HX.out.2 2 (by omega)
          have u3 : w9.cell? ⟨sb, off + i * 9 + 3, none⟩ = some (.int .i64 who) := HQ.out _ _ HX.out.2 3 (by omega)
          have u4 : w9.cell? ⟨sb, off + i * 9 + 4, none⟩ = some (.int .i64 seq0) := HQ.out _ _ HX.out.2 4 (by omega)
          have u5 : w9.cell? ⟨sb, off + i * 9 + 5, none⟩ = some (.int .i64 water0) := HQ.out _ _ HX.out.2 5 (by omega)
          have u6 : w9.cell? ⟨sb, off + i * 9 + 6, none⟩ = some (.int .i64 a0) := HQ.out _ _ HX.out.2 6 (by omega)
          have u7 : w9.cell? ⟨sb, off + i * 9 + 7, none⟩ = some (.int .i64 i0) := HQ.out _ _ HX.out.2 7 (by omega)
          have u8 : w9.cell? ⟨sb, off + i * 9 + 8, none⟩ = some (.string rep) := HQ.out _ _ HX.out.2 8 (by omega)
          have uo : w9.cell? ⟨sb, off + i * 9, none⟩ = some (.bool true) := HQ.out _ _ HX.out.2 0 (by omega)
          have v0 : w9.cell? ⟨A, 0, none⟩ = some (.pointer ob) := by unfold World.cell?; rw [HX.out.1.at_]; rfl
          have v1 : w9.cell? ⟨A, 1, none⟩ = some (.pointer oy) := by unfold World.cell?; rw [HX.out.1.at_]; rfl
          rcases HX.out.2.s2 with ⟨e0, e⟩ | ⟨p, x, g, mm, C, w1', w2', L, I, e1', e2', _, _⟩
          · rw [e] at v1
            clear e e0
            go_wp2
            go_roundw
            case rel => exact ⟨i + 1, K5, by rw [hwi]; rfl, hlt, HX.out.2⟩
            case measure => exact meas hwi hi'
          · obtain ⟨p', q1, q2⟩ := (HX.out.2.mv (Mv.drew (fun _ => False) _ _) (fun _ _ h => h)).step2 e2' _ HOK.out
            rw [e1'] at q1
            cases q1
            have HC := hid q2
            rw [e1'] at v0
            rw [e2'] at v1
            clear q2 e1' e2'
            go_wp2_with fail
            rename_i KK aa
            have A0 : Hid (∀ a w, _ → KK a w) := aa
            clear aa
            go_region_with (first
              | (go_at_call 9
                 refine HC.out.mono ?_
                 rintro e w8 ⟨rfl, K8, hs8⟩
                 have HS8 := hid hs8
                 clear hs8))
            all_goals (
              have aa := A0.out
              clear A0
              go_wp2
              go_roundw
              case rel => exact ⟨i + 1, K8, by rw [hwi]; rfl, hlt, HS8.out⟩
              case measure => exact meas hwi hi')
      · obtain rfl : i = len := by have := HI.out; omega
        go_wp2_with fail
        go_meet
        exact ⟨_, HS⟩
  case rest =>
    obtain ⟨KC, HC⟩ := hcut
    clear H7
    have b39a := bld39a
    have b39b := bld39b
    have b39c := bld39c
    go_wp2_with fail
    go_loopw [20] (fun u20 wr => ∃ (i : Nat) (K : Nat → Nat), u20 = .int .i64 i ∧ i ≤ 2 ∧ ST w wr K oa ox ob oy Lb) (fun u20 _ => 2 - (intOf u20).toNat)
    case atStart => exact ⟨0, KC, rfl, by omega, HC.out⟩
    case round =>
      obtain ⟨i, K, rfl, hi, hs⟩ := hrel
      obtain ⟨wo, hwo⟩ : ∃ wo, wo = wr := ⟨_, rfl⟩
      subst hwo
      have HS := hid hs
      have HI := hid hi
      clear hs hi HC
      by_cases hlt : i < 2
      · have hi' : (i : Int) < 2 := by omega
        have hi'' : (i : Int) < ((2 : Nat) : Int) := by omega
        have hwi : wrap64 ((i : Int) + 1) = (i : Int) + 1 := by unfold wrap64; omega
        obtain ⟨pa, px, hcell, hpx⟩ := HS.out.at i hlt
        have HCE := hid hcell
        clear hcell
        have x0 := (HCE.out _ _ HS.out).1
        have y0 := (HCE.out _ _ HS.out).2
        rcases hpx with hpx | ⟨p, x, hpa, hpx, hst⟩
        · rw [hpx] at y0
          clear hpx
          go_wp2
          go_roundw
          case rel => exact ⟨i + 1, K, rfl, hlt, HS.out⟩
          case measure => exact meas rfl hi''
        · have HST := hid hst
          clear hst
          rw [hpa] at x0 HCE
          rw [hpx] at y0 HCE
          clear hpa hpx
          have HOK : Hid (∀ a b c : Int, In64 b → In64 c → OpOk (zop a b c)) := fun a b c hb hc => ⟨hb, hc, ⟨(by decide : (-9223372036854775808 : Int) ≤ 0), (by decide : (0 : Int) ≤ 9223372036854775807)⟩, ⟨(by decide : (-9223372036854775808 : Int) ≤ 0), (by decide : (0 : Int) ≤ 9223372036854775807)⟩, ⟨(by decide : (-9223372036854775808 : Int) ≤ 0), (by decide : (0 : Int) ≤ 9223372036854775807)⟩⟩
          have HC9 := hid (HST.out _ (HOK.out 99 0 0 ⟨by decide, by decide⟩ ⟨by decide, by decide⟩) _ _ HS.out)
          go_wp2_with fail
          refine HC9.out.mono ?_
          rintro _ w8 ⟨rfl, K8, hs8⟩
          have HS8 := hid hs8
          clear hs8 HC9 x0 y0
          go_wp2_with fail
          go_loopw [22] (fun u22 wr2 => ∃ (n : Nat) (K : Nat → Nat), u22 = .int .i64 n ∧ n ≤ 8 ∧ ST w wr2 K oa ox ob oy Lb) (fun u22 _ => 8 - (intOf u22).toNat)
          case atStart => exact ⟨0, K8, rfl, by omega, HS8.out⟩
          case round =>
            obtain ⟨n, Kn, rfl, hn, hs⟩ := hrel
            obtain ⟨wo2, hwo2⟩ : ∃ wo2, wo2 = wr := ⟨_, rfl⟩
            subst hwo2
            have HSN := hid hs
            have HN := hid hn
            clear hs hn HS8
            by_cases hnl : n < 8
            · have hn' : (n : Int) < 8 := by omega
              have hn'' : (n : Int) < ((8 : Nat) : Int) := by omega
              go_wp2_with fail
              go_loopw [23] (fun u23 wr3 => ∃ (m : Nat) (K : Nat → Nat), u23 = .int .i64 m ∧ m ≤ 100 ∧ ST w wr3 K oa ox ob oy Lb) (fun u23 _ => 100 - (intOf u23).toNat)
              case atStart => exact ⟨0, Kn, rfl, by omega, HSN.out⟩
              case round =>
                obtain ⟨m, Km, rfl, hm, hs⟩ := hrel
                obtain ⟨wo3, hwo3⟩ : ∃ wo3, wo3 = wr := ⟨_, rfl⟩
                subst hwo3
                have HSM := hid hs
                have HM := hid hm
                clear hs hm HSN
                by_cases hml : m < 100
                · have hm' : (m : Int) < 100 := by omega
                  have hm'' : (m : Int) < ((100 : Nat) : Int) := by omega
                  have x0 := (HCE.out _ _ HSM.out).1
                  have y0 := (HCE.out _ _ HSM.out).2
                  have HC6 := hid (HST.out _ (HOK.out 6 n m ⟨by omega, by omega⟩ ⟨by omega, by omega⟩) _ _ HSM.out)
                  go_wp2_with fail
                  refine HC6.out.mono ?_
                  rintro _ w9 ⟨rfl, K9, hs9⟩
                  have HS9 := hid hs9
                  clear hs9 HC6 x0 y0
                  have x0 := (HCE.out _ _ HS9.out).1
                  have y0 := (HCE.out _ _ HS9.out).2
                  have HC7 := hid (HST.out _ (HOK.out 7 n 0 ⟨by omega, by omega⟩ ⟨by omega, by omega⟩) _ _ HS9.out)
                  go_wp2_with fail
                  refine HC7.out.mono ?_
                  rintro _ w10 ⟨rfl, K10, hs10⟩
                  have HS10 := hid hs10
                  clear hs10 HC7 x0 y0
                  go_wp2
                  go_roundw
                  case rel => exact ⟨m + 1, K10, rfl, hml, HS10.out⟩
                  case measure => exact meas rfl hm''
                · have hm' : ¬ (m : Int) < 100 := by omega
                  go_wp2
                  go_roundw
                  case rel => exact ⟨n + 1, Km, rfl, hnl, HSM.out⟩
                  case measure => exact meas rfl hn''
            · have hn' : ¬ (n : Int) < 8 := by omega
              go_wp2
              go_roundw
              case rel => exact ⟨i + 1, Kn, rfl, hlt, HSN.out⟩
              case measure => exact meas rfl hi''
      · have HE := hid HS.out.bs.be
        have hi' : ¬ (i : Int) < 2 := by omega
        clear HS
        go_wp2
        go_ret
        exact ⟨rfl, HE.out⟩
end Go.Proofs.Ytnpffhgmakbdnaa
