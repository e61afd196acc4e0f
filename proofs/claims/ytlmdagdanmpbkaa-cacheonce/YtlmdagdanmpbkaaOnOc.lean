/- CacheOnce: its walk. -/
import Derived.Test.YtlmdagdanmpbkaaOnOe
import Derived.Deep.CutBlock
import Derived.Deep.CutRange
namespace Go.Proofs.Ytlmdagdanmpbkaa
open Go.RowKit
theorem decoy {D P : Prop} (_ : D) (h : Hid P) : P := h
set_option maxHeartbeats 4000000 in
set_option maxRecDepth 8000 in
theorem once_any (r0 r1 r2 r3 : Int) (h0 : In64 r0) (h1 : In64 r1) (h2 : In64 r2) (h3 : In64 r3) (oa : Option Addr) (sb off len cap : Nat) (O : Nat → OpR) (w : World) (hoa : 0 < len → oa = some ⟨sb, off, none⟩) (hops : OpsAt w sb off len O) (hlen : len * 48 ≤ 140737488355328) :
    Calls Try.prog 4 #[.agg #[.int .i64 r0, .int .i64 r1, .int .i64 r2, .int .i64 r3], .slice oa len cap] w fun e w' => e = .returned (.bool true) ∧ Below w.heap.size w w' := by
  have HL := hid hlen
  have HO := hid hops
  have HA := hid hoa
  obtain ⟨g, hg⟩ : ∃ g, cfgP r0 r1 r2 r3 = g := ⟨_, rfl⟩
  have HG : Hid (CfOk g) := by rw [← hg]; exact cfgP_ok _ _ _ _
  have HCF := hid (fun w => config_any r0 r1 r2 r3 w h0 h1 h2 h3)
  rw [hg] at HCF
  clear hops hoa hlen hg h0 h1 h2 h3
  obtain ⟨w0, hw0⟩ : ∃ w0, w.alloc (.cells #[.int .i64 r0, .int .i64 r1, .int .i64 r2, .int .i64 r3] 42) = w0 := ⟨_, rfl⟩
  obtain ⟨pa, hpa⟩ : ∃ pa, w.heap.size = pa := ⟨_, rfl⟩
  obtain ⟨K0, H0⟩ : ∃ K0, Hid (BS w w0 K0 ∧ TB K0 w0 4 pa (.cells #[.int .i64 r0, .int .i64 r1, .int .i64 r2, .int .i64 r3] 42)) := by
    have v1 := Mv.alloc w (fun _ => 0) (fun _ => 4) (.cells #[.int .i64 r0, .int .i64 r1, .int .i64 r2, .int .i64 r3] 42)
    have t1 := TB.new w (fun _ => 0) (fun _ => 4) (.cells #[.int .i64 r0, .int .i64 r1, .int .i64 r2, .int .i64 r3] 42) (t := 4) rfl
    rw [hw0] at v1 t1
    rw [hpa] at t1
    exact ⟨_, (BS.first w).mv v1 id, t1⟩
  go_enter Try.func4, Try.ntmps4
  go_wp2_with fail
  refine (known_all w0).mono ?_
  rintro _ w1 ⟨rfl, e1⟩
  have v1 := Mv.of_below e1 K0 (fun _ => 9)
  obtain ⟨K1, hK1⟩ : ∃ K1, ext w0 K0 (fun _ => 9) = K1 := ⟨_, rfl⟩
  rw [hK1] at v1
  have H1 := hid (And.intro (H0.out.1.mv v1 id) (H0.out.2.mv v1 id))
  have x0 : w1.cell? ⟨pa, 0, none⟩ = some (.int .i64 r0) := by unfold World.cell?; rw [H1.out.2.at_]; rfl
  have x1 : w1.cell? ⟨pa, 1, none⟩ = some (.int .i64 r1) := by unfold World.cell?; rw [H1.out.2.at_]; rfl
  have x2 : w1.cell? ⟨pa, 2, none⟩ = some (.int .i64 r2) := by unfold World.cell?; rw [H1.out.2.at_]; rfl
  have x3 : w1.cell? ⟨pa, 3, none⟩ = some (.int .i64 r3) := by unfold World.cell?; rw [H1.out.2.at_]; rfl
  clear e1 v1 H0 hK1
  go_wp2_with fail
  refine (HCF.out w1).mono ?_
  rintro _ w2 ⟨rfl, e2⟩
  obtain ⟨w3, hw3⟩ : ∃ w3, w2.alloc (.cells #[.int .i64 g.cl, .int .i64 g.en, .int .i64 g.by_, .int .i64 g.rs] 23) = w3 := ⟨_, rfl⟩
  obtain ⟨Ag, hAg⟩ : ∃ Ag, w2.heap.size = Ag := ⟨_, rfl⟩
  obtain ⟨K3, H3⟩ : ∃ K3, Hid (BS w w3 K3 ∧ TB K3 w3 2 Ag (.cells #[.int .i64 g.cl, .int .i64 g.en, .int .i64 g.by_, .int .i64 g.rs] 23)) := by
    have v2 := Mv.of_below e2 K1 (fun _ => 9)
    have v3 := Mv.alloc w2 (ext w1 K1 (fun _ => 9)) (fun _ => 2) (.cells #[.int .i64 g.cl, .int .i64 g.en, .int .i64 g.by_, .int .i64 g.rs] 23)
    have t3 := TB.new w2 (ext w1 K1 (fun _ => 9)) (fun _ => 2) (.cells #[.int .i64 g.cl, .int .i64 g.en, .int .i64 g.by_, .int .i64 g.rs] 23) (t := 2) rfl
    rw [hw3] at v3 t3
    rw [hAg] at t3
    exact ⟨_, (H1.out.1.mv v2 id).mv v3 id, t3⟩
  have y0 : w3.cell? ⟨Ag, 0, none⟩ = some (.int .i64 g.cl) := by unfold World.cell?; rw [H3.out.2.at_]; rfl
  have y1 : w3.cell? ⟨Ag, 1, none⟩ = some (.int .i64 g.en) := by unfold World.cell?; rw [H3.out.2.at_]; rfl
  have y2 : w3.cell? ⟨Ag, 2, none⟩ = some (.int .i64 g.by_) := by unfold World.cell?; rw [H3.out.2.at_]; rfl
  have y3 : w3.cell? ⟨Ag, 3, none⟩ = some (.int .i64 g.rs) := by unfold World.cell?; rw [H3.out.2.at_]; rfl
  clear e2 H1 x0 x1 x2 x3
  go_wp2_with fail
  refine (new_good w3 g HG.out).mono ?_
  rintro _ w4 ⟨p, mm, rfl, ha, e4, lp, lm⟩
  obtain ⟨K4, ta, mv⟩ := TC.made ha e4 lp lm K3 1
  have H4 : Hid (SO w g p mm Ag K4 w4 (.slice none 0 0) 0 [] []) := ⟨H3.out.1.mv mv id, ta, H3.out.2.mv mv id, RT.nil _ _ _ _, ⟨by simp, fun x hx => by simp at hx, fun c hc => by simp at hc⟩, by simp⟩
  clear ha e4 lp lm ta mv H3 y0 y1 y2 y3 hw0 hw3 hAg hpa
  go_wp2_with fail
  go_loopw [9, 10, 11] (fun u9 u10 u11 wr => ∃ (i : Nat) (K : Nat → Nat) (n : Int) (C : List Cl) (l : List Sn), u11 = .int .i64 i ∧ u10 = .int .i64 n ∧ i ≤ len ∧ l.length ≤ i ∧ SO w g p mm Ag K wr u9 n C l) (fun _ _ u11 _ => len - (intOf u11).toNat)
  case atStart => exact ⟨0, K4, 0, [], [], rfl, rfl, Nat.zero_le _, by simp, H4.out⟩
  case round =>
    obtain ⟨i, K, n, C, l, rfl, rfl, hi, hli, hs⟩ := hrel
    obtain ⟨wo, hwo⟩ : ∃ wo, wo = wr := ⟨_, rfl⟩
    subst hwo
    have HS := hid hs
    obtain ⟨oa9, c9, e9, hc9, hg9⟩ := hs.rt.form
    have HLI := hid (And.intro hi hli)
    clear hs H4 hi hli
    subst e9
    by_cases hlt : i < len
    · have hi' : (i : Int) < (len : Int) := by omega
      have hoa2 := HA.out (by omega)
      subst hoa2
      have hwi : wrap64 ((i : Int) + 1) = (i : Int) + 1 := by have h1 := HL.out; unfold wrap64; omega
      obtain ⟨o, ho⟩ : ∃ o, O i = o := ⟨_, rfl⟩
      have hq := (HO.out.below HS.out.bs.be).c i hlt
      have hok := HO.out.ok i hlt
      rw [ho] at hq hok
      have HOK := hid hok
      obtain ⟨other, raw, what, who, seq0, water0, a0, i0, rep⟩ := o
      have q0 : wo.cell? ⟨sb, off + i * 9, none⟩ = some (.bool other) := hq 0 (by omega)
      have q1 : wo.cell? ⟨sb, off + i * 9 + 1, none⟩ = some (.bool raw) := hq 1 (by omega)
      have q2 : wo.cell? ⟨sb, off + i * 9 + 2, none⟩ = some (.int .i64 what) := hq 2 (by omega)
      have q3 : wo.cell? ⟨sb, off + i * 9 + 3, none⟩ = some (.int .i64 who) := hq 3 (by omega)
      have q4 : wo.cell? ⟨sb, off + i * 9 + 4, none⟩ = some (.int .i64 seq0) := hq 4 (by omega)
      have q5 : wo.cell? ⟨sb, off + i * 9 + 5, none⟩ = some (.int .i64 water0) := hq 5 (by omega)
      have q6 : wo.cell? ⟨sb, off + i * 9 + 6, none⟩ = some (.int .i64 a0) := hq 6 (by omega)
      have q7 : wo.cell? ⟨sb, off + i * 9 + 7, none⟩ = some (.int .i64 i0) := hq 7 (by omega)
      have q8 : wo.cell? ⟨sb, off + i * 9 + 8, none⟩ = some (.string rep) := hq 8 (by omega)
      obtain ⟨w5, hw5⟩ : ∃ w5, wo.alloc (.cells #[.bool other, .bool raw, .int .i64 what, .int .i64 who, .int .i64 seq0, .int .i64 water0, .int .i64 a0, .int .i64 i0, .string rep] 39) = w5 := ⟨_, rfl⟩
      obtain ⟨A12, hA12⟩ : ∃ A12, wo.heap.size = A12 := ⟨_, rfl⟩
      obtain ⟨K5, H5⟩ : ∃ K5, Hid (SO w g p mm Ag K5 w5 (.slice oa9 l.length c9) n C l ∧ TB K5 w5 5 A12 (.cells #[.bool other, .bool raw, .int .i64 what, .int .i64 who, .int .i64 seq0, .int .i64 water0, .int .i64 a0, .int .i64 i0, .string rep] 39)) := by
        have v5 := Mv.alloc wo K (fun _ => 5) (.cells #[.bool other, .bool raw, .int .i64 what, .int .i64 who, .int .i64 seq0, .int .i64 water0, .int .i64 a0, .int .i64 i0, .string rep] 39)
        have t5 := TB.new wo K (fun _ => 5) (.cells #[.bool other, .bool raw, .int .i64 what, .int .i64 who, .int .i64 seq0, .int .i64 water0, .int .i64 a0, .int .i64 i0, .string rep] 39) (t := 5) rfl
        rw [hw5] at v5 t5
        rw [hA12] at t5
        exact ⟨_, HS.out.mv v5 id id id id, t5⟩
      have z0 : w5.cell? ⟨A12, 0, none⟩ = some (.bool other) := by unfold World.cell?; rw [H5.out.2.at_]; rfl
      have z1 : w5.cell? ⟨A12, 1, none⟩ = some (.bool raw) := by unfold World.cell?; rw [H5.out.2.at_]; rfl
      have z2 : w5.cell? ⟨A12, 2, none⟩ = some (.int .i64 what) := by unfold World.cell?; rw [H5.out.2.at_]; rfl
      have z3 : w5.cell? ⟨A12, 3, none⟩ = some (.int .i64 who) := by unfold World.cell?; rw [H5.out.2.at_]; rfl
      have z4 : w5.cell? ⟨A12, 4, none⟩ = some (.int .i64 seq0) := by unfold World.cell?; rw [H5.out.2.at_]; rfl
      have z5 : w5.cell? ⟨A12, 5, none⟩ = some (.int .i64 water0) := by unfold World.cell?; rw [H5.out.2.at_]; rfl
      have z6 : w5.cell? ⟨A12, 6, none⟩ = some (.int .i64 a0) := by unfold World.cell?; rw [H5.out.2.at_]; rfl
      have z7 : w5.cell? ⟨A12, 7, none⟩ = some (.int .i64 i0) := by unfold World.cell?; rw [H5.out.2.at_]; rfl
      have z8 : w5.cell? ⟨A12, 8, none⟩ = some (.string rep) := by unfold World.cell?; rw [H5.out.2.at_]; rfl
      have HNM := hid (names_any ⟨other, raw, what, who, seq0, water0, a0, i0, rep⟩ HOK.out w5)
      obtain ⟨a, ha⟩ : ∃ a, nmA ⟨other, raw, what, who, seq0, water0, a0, i0, rep⟩ = a := ⟨_, rfl⟩
      obtain ⟨iv, hiv⟩ : ∃ iv, nmI ⟨other, raw, what, who, seq0, water0, a0, i0, rep⟩ = iv := ⟨_, rfl⟩
      obtain ⟨sq, hsq⟩ : ∃ sq, nmS ⟨other, raw, what, who, seq0, water0, a0, i0, rep⟩ = sq := ⟨_, rfl⟩
      obtain ⟨wt, hwt⟩ : ∃ wt, nmW ⟨other, raw, what, who, seq0, water0, a0, i0, rep⟩ = wt := ⟨_, rfl⟩
      have hin := names_in HOK.out
      rw [ha, hiv, hsq, hwt] at HNM hin
      have HIN := hid hin
      obtain ⟨n9, hn9⟩ : ∃ n9, l.length = n9 := ⟨_, rfl⟩
      rw [hn9] at H5 hg9 hc9 ⊢
      have HN9 := hid hn9
      have HG9 := hid hg9
      clear hq hok ho hin ha hiv hsq hwt hn9 hg9 HS hc9
      go_wp2_with fail
      refine HNM.out.mono ?_
      rintro _ w6 ⟨rfl, e6⟩
      clear q0 q1 q2 q3 q4 q5 q6 q7 q8 z0 z1 z3 z4 z5 z6 z7
      obtain ⟨w7, hw7⟩ : ∃ w7, w6.alloc (.cells #[.int .i64 a, .int .i64 iv] 37) = w7 := ⟨_, rfl⟩
      obtain ⟨A13, hA13⟩ : ∃ A13, w6.heap.size = A13 := ⟨_, rfl⟩
      obtain ⟨K7, H7⟩ : ∃ K7, Hid (SO w g p mm Ag K7 w7 (.slice oa9 n9 c9) n C l ∧ TB K7 w7 5 A12 (.cells #[.bool other, .bool raw, .int .i64 what, .int .i64 who, .int .i64 seq0, .int .i64 water0, .int .i64 a0, .int .i64 i0, .string rep] 39) ∧ TB K7 w7 6 A13 (.cells #[.int .i64 a, .int .i64 iv] 37)) := by
        have v6 := Mv.of_below e6 K5 (fun _ => 9)
        have v7 := Mv.alloc w6 (ext w5 K5 (fun _ => 9)) (fun _ => 6) (.cells #[.int .i64 a, .int .i64 iv] 37)
        have t7 := TB.new w6 (ext w5 K5 (fun _ => 9)) (fun _ => 6) (.cells #[.int .i64 a, .int .i64 iv] 37) (t := 6) rfl
        rw [hw7] at v7 t7
        rw [hA13] at t7
        exact ⟨_, (H5.out.1.mv v6 id id id id).mv v7 id id id id, (H5.out.2.mv v6 id).mv v7 id, t7⟩
      have u0 : w7.cell? ⟨A13, 0, none⟩ = some (.int .i64 a) := by unfold World.cell?; rw [H7.out.2.2.at_]; rfl
      have u1 : w7.cell? ⟨A13, 1, none⟩ = some (.int .i64 iv) := by unfold World.cell?; rw [H7.out.2.2.at_]; rfl
      clear e6 H5 z2 z8 hw5 hA12 HNM
      go_upto_block 2 with fail
      go_cut [16, 17] from 48 to 272 (fun s16 _ wx => ∃ (v : Int) (k : Nat), s16 = .int .i64 v ∧ Hid (FA l a iv sq n9 v) ∧ Hid (w7.drewN k = wx))
      case first =>
        as_aux_lemma =>
        go_wp2_with fail
        go_loopw [16, 17] (fun u16 u17 wr => ∃ (v : Int) (j k : Nat), u16 = .int .i64 v ∧ u17 = .int .i64 j ∧ w7.drewN k = wr ∧ j ≤ n9 ∧ FA l a iv sq j v) (fun _ u17 _ => n9 - (intOf u17).toNat)
        case atStart => exact ⟨-1, 0, 0, rfl, rfl, rfl, Nat.zero_le _, .inl ⟨rfl, fun k x hk => by omega⟩⟩
        case round =>
          obtain ⟨v, j, k, rfl, rfl, hwk, hj, hfa⟩ := hrel
          by_cases hjn : j < n9
          · have hj' : (j : Int) < (n9 : Int) := by omega
            have hjL : j < l.length := by rw [HN9.out]; exact hjn
            obtain ⟨x, hx⟩ : ∃ x, l[j]? = some x := ⟨_, List.getElem?_eq_getElem hjL⟩
            obtain ⟨g9, hg9⟩ := HG9.out (by omega)
            subst hg9
            have t0 : wr.cell? ⟨g9, j * 5, none⟩ = some (.int .i64 x.a) := by rw [← hwk]; exact H7.out.1.rt.cell HN9.out hx 0 (by omega)
            have t1 : wr.cell? ⟨g9, j * 5 + 1, none⟩ = some (.int .i64 x.i) := by rw [← hwk]; exact H7.out.1.rt.cell HN9.out hx 1 (by omega)
            have t2 : wr.cell? ⟨g9, j * 5 + 2, none⟩ = some (.int .i64 x.seq) := by rw [← hwk]; exact H7.out.1.rt.cell HN9.out hx 2 (by omega)
            have y0 : wr.cell? ⟨A13, 0, none⟩ = some (.int .i64 a) := by rw [← hwk]; exact u0
            have y1 : wr.cell? ⟨A13, 1, none⟩ = some (.int .i64 iv) := by rw [← hwk]; exact u1
            have hwr : wrap64 ((j : Int) + 1) = (j : Int) + 1 := by
              have h1 := HL.out; have h2 := HLI.out; have h3 := HN9.out
              unfold wrap64; omega
            have HWK : Hid (∀ m, w7.drewN (k + m) = wr.drewN m) := fun m => by rw [← hwk, World.drewN_drewN]
            have hg := fun w op x y xs ys => guard37n w op x y xs ys
            have hq := fun w => eql37 w x.a x.i a iv
            have hjc0 : (0 : Int) ≤ (j : Int) := by omega
            by_cases e1 : x.a = a ∧ x.i = iv
            · have d1 : (x.a == a && x.i == iv) = true := by simp [e1.1, e1.2]
              by_cases e2 : x.seq = sq
              · have d2 : (x.seq == sq) = true := by simp [e2]
                have HFA : Hid (FA l a iv sq (j + 1) j) := .inr ⟨j, x, rfl, by omega, hx, e1.1, e1.2, e2⟩
                rw [d1] at hq
                clear hfa hx hwk d1 e1 e2 u0 u1 hjL
                generalize x.a = xa at *
                generalize x.i = xi at *
                generalize x.seq = xs at *
                go_wp2_with fail
                go_quiet (fail)
                go_wp2
                go_roundw
                case rel => exact ⟨j, j + 1, k + nq, rfl, by rw [hwr]; rfl, HWK.out nq, hjn, HFA.out⟩
                case measure => exact meas hwr hj'
              · have d2 : (x.seq == sq) = false := by simp [e2]
                have HFA := hid (hfa.no hx (fun q => e2 q.2.2))
                rw [d1] at hq
                clear hfa hx hwk d1 e1 e2 u0 u1 hjL
                generalize x.a = xa at *
                generalize x.i = xi at *
                generalize x.seq = xs at *
                go_wp2_with fail
                go_quiet (fail)
                go_wp2
                go_roundw
                case rel => exact ⟨v, j + 1, k + nq, rfl, by rw [hwr]; rfl, HWK.out nq, hjn, HFA.out⟩
                case measure => exact meas hwr hj'
            · have d1 : (x.a == a && x.i == iv) = false := by
                rw [Bool.eq_false_iff]
                intro h
                exact e1 (by simpa using h)
              have HFA := hid (hfa.no hx (fun q => e1 ⟨q.1, q.2.1⟩))
              rw [d1] at hq
              clear hfa hx hwk d1 e1 u0 u1 hjL
              generalize x.a = xa at *
              generalize x.i = xi at *
              generalize x.seq = xs at *
              go_wp2_with fail
              go_quiet (fail)
              go_wp2
              go_roundw
              case rel => exact ⟨v, j + 1, k + nq, rfl, by rw [hwr]; rfl, HWK.out nq, hjn, HFA.out⟩
              case measure => exact meas hwr hj'
          · obtain rfl : j = n9 := by omega
            have HFA := hid (And.intro hfa hwk)
            clear hfa hwk
            go_wp2_with fail
            go_meet
            exact ⟨v, k, rfl, HFA.out⟩
      case rest =>
      obtain ⟨at_, kq, hv16, HFA, HWX⟩ := hcut
      subst hv16
      have HX : Hid (SO w g p mm Ag K7 wc (.slice oa9 n9 c9) n C l ∧ TB K7 wc 5 A12 (.cells #[.bool other, .bool raw, .int .i64 what, .int .i64 who, .int .i64 seq0, .int .i64 water0, .int .i64 a0, .int .i64 i0, .string rep] 39) ∧ TB K7 wc 6 A13 (.cells #[.int .i64 a, .int .i64 iv] 37)) := by
        have mvx : Mv (fun _ => False) w7 wc K7 K7 := by rw [← HWX.out]; exact ⟨rfl, rfl, rfl, Nat.le_refl _, fun _ _ => rfl, fun _ _ _ => rfl⟩
        exact ⟨H7.out.1.mv mvx id id id id, H7.out.2.1.mv mvx id, H7.out.2.2.mv mvx id⟩
      have z2 : wc.cell? ⟨A12, 2, none⟩ = some (.int .i64 what) := by unfold World.cell?; rw [HX.out.2.1.at_]; rfl
      have z8 : wc.cell? ⟨A12, 8, none⟩ = some (.string rep) := by unfold World.cell?; rw [HX.out.2.1.at_]; rfl
      have y0 : wc.cell? ⟨A13, 0, none⟩ = some (.int .i64 a) := by unfold World.cell?; rw [HX.out.2.2.at_]; rfl
      have y1 : wc.cell? ⟨A13, 1, none⟩ = some (.int .i64 iv) := by unfold World.cell?; rw [HX.out.2.2.at_]; rfl
      have hfin := HFA.out
      rw [← HN9.out] at hfin
      have HFI := hid hfin.all
      clear HWX H7 u0 u1 hw7 hA13 HFA hfin
      by_cases hk4 : what = 4
      · have d4 : (what == 4) = true := by simp [hk4]
        clear hk4
        as_aux_lemma =>
        have HDN := hid (done_any HX.out.1.tc.pc rep HIN.out.1 HIN.out.2.1)
        go_wp2_with fail
        refine HDN.out.mono ?_
        rintro _ w8 ⟨v, C', rfl, hR, hP, hC⟩
        obtain ⟨K8, m8, bs8, tc8, gb8, rt8⟩ := HX.out.1.cache hP hC
        obtain ⟨bk1, bk2, bk3⟩ := done_book hR HX.out.1.bk HX.out.1.tc.pc.st hP.st
        have t58 := HX.out.2.1.mv m8 (by omega)
        have t68 := HX.out.2.2.mv m8 (by omega)
        have hnc := HX.out.1.nc
        by_cases hv0 : v = 0
        · obtain ⟨b1, b2, ⟨y, hy, hyi⟩, b4⟩ := bk2 hv0
          rcases HFI.out with ⟨_, f2⟩ | ⟨L1, L2, x, hl, hat, hxi⟩
          · exact absurd hyi (f2 y hy)
          obtain ⟨hdn, hbk⟩ := b4 L1 L2 x hl hxi
          subst hat hv0
          have hlen9 : (L1 ++ x :: L2).length = n9 := by rw [← hl]; exact HN9.out
          have hat9 : L1.length < n9 := by rw [← hlen9]; simp
          obtain ⟨g9, hg9⟩ := HG9.out (by omega)
          subst hg9
          rw [hl] at rt8
          have hx9 : (L1 ++ x :: L2)[L1.length]? = some x := by simp
          have e3 : w8.cell? ⟨g9, L1.length * 5 + 3, none⟩ = some (.bool false) := by rw [← hdn]; exact rt8.cell hlen9 hx9 3 (by omega)
          have HWT := hid (water_any hP HIN.out.1)
          rw [show n9 = n9 from rfl] at rt8
          have HZ : Hid (∀ w9, Below w8.heap.size w8 w9 → (w9.cell? ⟨A12, 8, none⟩ = some (.string rep) ∧ w9.cell? ⟨g9, L1.length * 5 + 3, none⟩ = some (.bool false) ∧ w9.frozen? ⟨g9, L1.length * 5 + 3, none⟩ = false ∧ (w9.setCell ⟨g9, L1.length * 5 + 3, none⟩ (.bool true)).cell? ⟨A12, 8, none⟩ = some (.string rep) ∧ (∃ q, (w9.setCell ⟨g9, L1.length * 5 + 3, none⟩ (.bool true)).cell? ⟨g9, L1.length * 5 + 4, none⟩ = some (.string q)) ∧ (w9.setCell ⟨g9, L1.length * 5 + 3, none⟩ (.bool true)).frozen? ⟨g9, L1.length * 5 + 4, none⟩ = false) ∧
              ∃ K', SO w g p mm Ag K' ((w9.setCell ⟨g9, L1.length * 5 + 3, none⟩ (.bool true)).setCell ⟨g9, L1.length * 5 + 4, none⟩ (.string rep)) (.slice (some ⟨g9, 0, none⟩) n9 c9) n C' (L1 ++ { x with dn := true, rep := rep } :: L2)) := fun w9 hb9 => by
            have m9 := Mv.of_below hb9 K8 (fun _ => 9)
            have rt9 := rt8.mv m9 id
            obtain ⟨rs1, rs2⟩ := rt9.set hlen9 rep
            have ow := rt9.own
            rw [hlen9] at ow
            have st1 := ow.stored (L1.length * 5 + 3) (.bool true)
            have t59 := t58.mv m9 id
            have k9 : ext w8 K8 (fun _ => 9) g9 = 3 := rt9.k g9 rfl
            have ne9 : A12 ≠ g9 := fun e => by have := t59.k; rw [e, k9] at this; omega
            have m10 := Mv.of_set w9 (ext w8 K8 (fun _ => 9)) ⟨g9, L1.length * 5 + 3, none⟩ (.bool true) k9
            have t60 := t59.mv m10 (by omega)
            refine ⟨⟨?_, ?_, ow.frozenAt _, ?_, ⟨x.rep, ?_⟩, st1.1.frozenAt _⟩, _, (bs8.mv m9 id).mv rs2 (by omega), (tc8.mv m9 id).mv rs2 (by omega), (gb8.mv m9 id).mv rs2 (by omega), rs1, hbk, by omega⟩
            · unfold World.cell?; rw [t59.at_]; rfl
            · rw [← hdn]; exact rt9.cell hlen9 hx9 3 (by omega)
            · unfold World.cell?; rw [t60.at_]; rfl
            · rw [st1.1.cellAt _ (by omega), List.getElem?_set_ne (by omega), flat_get _ _ 4 (by omega) (by rw [hlen9]; exact hat9)]
              simp [snC]
          have z88 : w8.cell? ⟨A12, 8, none⟩ = some (.string rep) := by unfold World.cell?; rw [t58.at_]; rfl
          have y80 : w8.cell? ⟨A13, 0, none⟩ = some (.int .i64 a) := by unfold World.cell?; rw [t68.at_]; rfl
          have y81 : w8.cell? ⟨A13, 1, none⟩ = some (.int .i64 iv) := by unfold World.cell?; rw [t68.at_]; rfl
          have g83 : w8.cell? ⟨Ag, 3, none⟩ = some (.int .i64 g.rs) := by unfold World.cell?; rw [gb8.at_]; rfl
          have dl : decide ((g.rs : Int) < (rep.size : Int)) = false := by simp; omega
          have dln : decide (g.rs < rep.size) = false := by simp; omega
          have hLl : (L1 ++ { x with dn := true, rep := rep } :: L2).length = n9 := by rw [← hlen9]; simp
          have HLL := hid hLl
          obtain ⟨wtr, hwtr⟩ : ∃ wtr, watP C' a iv = wtr := ⟨_, rfl⟩
          rw [hwtr] at HWT b2
          have dw : decide (sq < wtr) = false := by simp; omega
          obtain ⟨ja, hja⟩ : ∃ ja, L1.length = ja := ⟨_, rfl⟩
          rw [hja] at e3 HZ hat9 ⊢
          have hat' : (ja : Int) < (n9 : Int) := by omega
          have hat0 : decide ((ja : Int) < 0) = false := by simp
          have hat0' : (0 : Int) ≤ (ja : Int) := by omega
          clear hR hP hC bk1 bk2 bk3 m8 bs8 tc8 gb8 rt8 t58 t68 hnc b1 b2 b4 hl hxi hdn hbk hlen9 hx9 hLl hwtr hja HX HDN HFI hy hyi
          go_wp2_with fail
          refine HWT.out.mono ?_
          rintro _ w9 ⟨rfl, hb9⟩
          obtain ⟨⟨c1, c2, c3, c4, ⟨q4, c5⟩, c6⟩, K9, hs9⟩ := HZ.out w9 hb9
          have HS9 := hid hs9
          clear hb9 hs9 HZ
          go_wp2
          go_roundw
          case rel => exact ⟨i + 1, K9, n, C', _, by rw [hwi]; rfl, rfl, hlt, by have h1 := HLL.out; have h2 := HLI.out; have h3 := HN9.out; omega, HS9.out⟩
          case measure => exact meas hwi hi'
        · obtain rfl := bk1 hv0
          have dv : (v == 0) = false := by simp [hv0]
          have HS8 : Hid (SO w g p mm Ag K8 w8 (.slice oa9 n9 c9) n C' l) := ⟨bs8, tc8, gb8, rt8, HX.out.1.bk, hnc⟩
          clear hR hP hC bk1 bk2 bk3 m8 bs8 tc8 gb8 rt8 t58 t68 hnc HX HDN HFI hv0
          go_wp2
          go_roundw
          case rel => exact ⟨i + 1, K8, n, C', l, by rw [hwi]; rfl, rfl, hlt, by have h2 := HLI.out; omega, HS8.out⟩
          case measure => exact meas hwi hi'
      · have d4 : (what == 4) = false := by simp [hk4]
        by_cases hk5 : what = 5
        · have d5 : (what == 5) = true := by simp [hk5]
          clear hk4 hk5
          as_aux_lemma =>
          have HDN := hid (done_any HX.out.1.tc.pc rep HIN.out.1 HIN.out.2.1)
          go_wp2_with fail
          refine HDN.out.mono ?_
          rintro _ w8 ⟨v, C', rfl, hR, hP, hC⟩
          obtain ⟨K8, m8, bs8, tc8, gb8, rt8⟩ := HX.out.1.cache hP hC
          obtain ⟨bk1, bk2, bk3⟩ := done_book hR HX.out.1.bk HX.out.1.tc.pc.st hP.st
          have t58 := HX.out.2.1.mv m8 (by omega)
          have t68 := HX.out.2.2.mv m8 (by omega)
          have hnc := HX.out.1.nc
          by_cases hv0 : v = 0
          · obtain ⟨b1, b2, ⟨y, hy, hyi⟩, b4⟩ := bk2 hv0
            rcases HFI.out with ⟨_, f2⟩ | ⟨L1, L2, x, hl, hat, hxi⟩
            · exact absurd hyi (f2 y hy)
            obtain ⟨hdn, hbk⟩ := b4 L1 L2 x hl hxi
            subst hat hv0
            have hlen9 : (L1 ++ x :: L2).length = n9 := by rw [← hl]; exact HN9.out
            have hat9 : L1.length < n9 := by rw [← hlen9]; simp
            obtain ⟨g9, hg9⟩ := HG9.out (by omega)
            subst hg9
            rw [hl] at rt8
            have hx9 : (L1 ++ x :: L2)[L1.length]? = some x := by simp
            have e3 : w8.cell? ⟨g9, L1.length * 5 + 3, none⟩ = some (.bool false) := by rw [← hdn]; exact rt8.cell hlen9 hx9 3 (by omega)
            have HWT := hid (water_any hP HIN.out.1)
            rw [show n9 = n9 from rfl] at rt8
            have HZ : Hid (∀ w9, Below w8.heap.size w8 w9 → (w9.cell? ⟨A12, 8, none⟩ = some (.string rep) ∧ w9.cell? ⟨g9, L1.length * 5 + 3, none⟩ = some (.bool false) ∧ w9.frozen? ⟨g9, L1.length * 5 + 3, none⟩ = false ∧ (w9.setCell ⟨g9, L1.length * 5 + 3, none⟩ (.bool true)).cell? ⟨A12, 8, none⟩ = some (.string rep) ∧ (∃ q, (w9.setCell ⟨g9, L1.length * 5 + 3, none⟩ (.bool true)).cell? ⟨g9, L1.length * 5 + 4, none⟩ = some (.string q)) ∧ (w9.setCell ⟨g9, L1.length * 5 + 3, none⟩ (.bool true)).frozen? ⟨g9, L1.length * 5 + 4, none⟩ = false) ∧
                ∃ K', SO w g p mm Ag K' ((w9.setCell ⟨g9, L1.length * 5 + 3, none⟩ (.bool true)).setCell ⟨g9, L1.length * 5 + 4, none⟩ (.string rep)) (.slice (some ⟨g9, 0, none⟩) n9 c9) n C' (L1 ++ { x with dn := true, rep := rep } :: L2)) := fun w9 hb9 => by
              have m9 := Mv.of_below hb9 K8 (fun _ => 9)
              have rt9 := rt8.mv m9 id
              obtain ⟨rs1, rs2⟩ := rt9.set hlen9 rep
              have ow := rt9.own
              rw [hlen9] at ow
              have st1 := ow.stored (L1.length * 5 + 3) (.bool true)
              have t59 := t58.mv m9 id
              have k9 : ext w8 K8 (fun _ => 9) g9 = 3 := rt9.k g9 rfl
              have ne9 : A12 ≠ g9 := fun e => by have := t59.k; rw [e, k9] at this; omega
              have m10 := Mv.of_set w9 (ext w8 K8 (fun _ => 9)) ⟨g9, L1.length * 5 + 3, none⟩ (.bool true) k9
              have t60 := t59.mv m10 (by omega)
              refine ⟨⟨?_, ?_, ow.frozenAt _, ?_, ⟨x.rep, ?_⟩, st1.1.frozenAt _⟩, _, (bs8.mv m9 id).mv rs2 (by omega), (tc8.mv m9 id).mv rs2 (by omega), (gb8.mv m9 id).mv rs2 (by omega), rs1, hbk, by omega⟩
              · unfold World.cell?; rw [t59.at_]; rfl
              · rw [← hdn]; exact rt9.cell hlen9 hx9 3 (by omega)
              · unfold World.cell?; rw [t60.at_]; rfl
              · rw [st1.1.cellAt _ (by omega), List.getElem?_set_ne (by omega), flat_get _ _ 4 (by omega) (by rw [hlen9]; exact hat9)]
                simp [snC]
            have z88 : w8.cell? ⟨A12, 8, none⟩ = some (.string rep) := by unfold World.cell?; rw [t58.at_]; rfl
            have y80 : w8.cell? ⟨A13, 0, none⟩ = some (.int .i64 a) := by unfold World.cell?; rw [t68.at_]; rfl
            have y81 : w8.cell? ⟨A13, 1, none⟩ = some (.int .i64 iv) := by unfold World.cell?; rw [t68.at_]; rfl
            have g83 : w8.cell? ⟨Ag, 3, none⟩ = some (.int .i64 g.rs) := by unfold World.cell?; rw [gb8.at_]; rfl
            have dl : decide ((g.rs : Int) < (rep.size : Int)) = false := by simp; omega
            have dln : decide (g.rs < rep.size) = false := by simp; omega
            have hLl : (L1 ++ { x with dn := true, rep := rep } :: L2).length = n9 := by rw [← hlen9]; simp
            have HLL := hid hLl
            obtain ⟨wtr, hwtr⟩ : ∃ wtr, watP C' a iv = wtr := ⟨_, rfl⟩
            rw [hwtr] at HWT b2
            have dw : decide (sq < wtr) = false := by simp; omega
            obtain ⟨ja, hja⟩ : ∃ ja, L1.length = ja := ⟨_, rfl⟩
            rw [hja] at e3 HZ hat9 ⊢
            have hat' : (ja : Int) < (n9 : Int) := by omega
            have hat0 : decide ((ja : Int) < 0) = false := by simp
            have hat0' : (0 : Int) ≤ (ja : Int) := by omega
            clear hR hP hC bk1 bk2 bk3 m8 bs8 tc8 gb8 rt8 t58 t68 hnc b1 b2 b4 hl hxi hdn hbk hlen9 hx9 hLl hwtr hja HX HDN HFI hy hyi
            go_wp2_with fail
            refine HWT.out.mono ?_
            rintro _ w9 ⟨rfl, hb9⟩
            obtain ⟨⟨c1, c2, c3, c4, ⟨q4, c5⟩, c6⟩, K9, hs9⟩ := HZ.out w9 hb9
            have HS9 := hid hs9
            clear hb9 hs9 HZ
            go_wp2
            go_roundw
            case rel => exact ⟨i + 1, K9, n, C', _, by rw [hwi]; rfl, rfl, hlt, by have h1 := HLL.out; have h2 := HLI.out; have h3 := HN9.out; omega, HS9.out⟩
            case measure => exact meas hwi hi'
          · obtain rfl := bk1 hv0
            have dv : (v == 0) = false := by simp [hv0]
            have HS8 : Hid (SO w g p mm Ag K8 w8 (.slice oa9 n9 c9) n C' l) := ⟨bs8, tc8, gb8, rt8, HX.out.1.bk, hnc⟩
            clear hR hP hC bk1 bk2 bk3 m8 bs8 tc8 gb8 rt8 t58 t68 hnc HX HDN HFI hv0
            go_wp2
            go_roundw
            case rel => exact ⟨i + 1, K8, n, C', l, by rw [hwi]; rfl, rfl, hlt, by have h2 := HLI.out; omega, HS8.out⟩
            case measure => exact meas hwi hi'
        · have d5 : (what == 5) = false := by simp [hk5]
          clear hk4 hk5
          have HW1 := hid (water_any HX.out.1.tc.pc HIN.out.1)
          go_wp2_with fail
          refine HW1.out.mono ?_
          rintro _ w8 ⟨rfl, hb8⟩
          have m8 := Mv.of_below hb8 K7 (fun _ => 9)
          obtain ⟨K8, hK8⟩ : ∃ K8, ext wc K7 (fun _ => 9) = K8 := ⟨_, rfl⟩
          rw [hK8] at m8
          have H8 := hid (And.intro (HX.out.1.mv m8 id id id id) (HX.out.2.2.mv m8 id))
          have y80 : w8.cell? ⟨A13, 0, none⟩ = some (.int .i64 a) := by unfold World.cell?; rw [H8.out.2.at_]; rfl
          have y81 : w8.cell? ⟨A13, 1, none⟩ = some (.int .i64 iv) := by unfold World.cell?; rw [H8.out.2.at_]; rfl
          have HAS := hid (ask_any H8.out.1.tc.pc a iv sq wt)
          clear hb8 m8 hK8 HX z2 z8 y0 y1 HW1
          go_wp2_with fail
          refine HAS.out.mono ?_
          rintro _ w9 ⟨v, s, C', rfl, hR, hP, hC⟩
          obtain ⟨K9, m9, bs9, tc9, gb9, rt9⟩ := H8.out.1.cache hP hC
          have hbo := ask_book hR H8.out.1.bk H8.out.1.tc.pc.st hP.st
          have t69 := H8.out.2.mv m9 (by omega)
          have H9 : Hid (BS w w9 K9 ∧ TC K9 w9 1 p g mm C' ∧ TB K9 w9 2 Ag (.cells #[.int .i64 g.cl, .int .i64 g.en, .int .i64 g.by_, .int .i64 g.rs] 23 (0, 0)) ∧ RT K9 w9 w.heap.size 3 (.slice oa9 n9 c9) l ∧ TB K9 w9 6 A13 (.cells #[.int .i64 a, .int .i64 iv] 37)) := ⟨bs9, tc9, gb9, rt9, t69⟩
          have HBO := hid hbo
          have HNC := hid H8.out.1.nc
          have y90 : w9.cell? ⟨A13, 0, none⟩ = some (.int .i64 a) := by unfold World.cell?; rw [t69.at_]; rfl
          have y91 : w9.cell? ⟨A13, 1, none⟩ = some (.int .i64 iv) := by unfold World.cell?; rw [t69.at_]; rfl
          have HW2 := hid (water_any hP HIN.out.1)
          clear hR hP hC m9 bs9 tc9 gb9 rt9 t69 hbo H8 HAS y80 y81
          go_wp2_with fail
          refine HW2.out.mono ?_
          rintro _ w10 ⟨rfl, hb10⟩
          have m10 := Mv.of_below hb10 K9 (fun _ => 9)
          obtain ⟨K10, hK10⟩ : ∃ K10, ext w9 K9 (fun _ => 9) = K10 := ⟨_, rfl⟩
          rw [hK10] at m10
          have H10 : Hid (BS w w10 K10 ∧ TC K10 w10 1 p g mm C' ∧ TB K10 w10 2 Ag (.cells #[.int .i64 g.cl, .int .i64 g.en, .int .i64 g.by_, .int .i64 g.rs] 23 (0, 0)) ∧ RT K10 w10 w.heap.size 3 (.slice oa9 n9 c9) l ∧ TB K10 w10 6 A13 (.cells #[.int .i64 a, .int .i64 iv] 37)) := ⟨H9.out.1.mv m10 id, H9.out.2.1.mv m10 id, H9.out.2.2.1.mv m10 id, H9.out.2.2.2.1.mv m10 id, H9.out.2.2.2.2.mv m10 id⟩
          clear hb10 m10 hK10 H9 HW2 y90 y91
          obtain ⟨Z, f, hf1, hf2⟩ : ∃ (Z : Type) (f : Z → World), (∀ z, Below w10.heap.size w10 (f z)) ∧ ∀ w', Below w10.heap.size w10 w' → ∃ z, w' = f z := ⟨{ w' // Below w10.heap.size w10 w' }, Subtype.val, fun z => z.2, fun w' h => ⟨⟨w', h⟩, rfl⟩⟩
          obtain ⟨cn, hcn⟩ : ∃ cn : Int, (C'.length : Int) = cn := ⟨_, rfl⟩
          obtain ⟨bn, hbn⟩ : ∃ bn : Int, ((sumC (fun c => byt g.rs c.ents) C' : Nat) : Int) = bn := ⟨_, rfl⟩
          obtain ⟨en, hen⟩ : ∃ en : Int, ((sumC (fun c => c.ents.length) C' : Nat) : Int) = en := ⟨_, rfl⟩
          have hpc := fun z => H10.out.2.1.pc.below (hf1 z)
          have gz0 : ∀ z, (f z).cell? ⟨Ag, 0, none⟩ = some (.int .i64 g.cl) := fun z => by unfold World.cell?; rw [((hf1 z).block Ag H10.out.2.2.1.lt).trans H10.out.2.2.1.at_]; rfl
          have gz1 : ∀ z, (f z).cell? ⟨Ag, 1, none⟩ = some (.int .i64 g.en) := fun z => by unfold World.cell?; rw [((hf1 z).block Ag H10.out.2.2.1.lt).trans H10.out.2.2.1.at_]; rfl
          have gz2 : ∀ z, (f z).cell? ⟨Ag, 2, none⟩ = some (.int .i64 g.by_) := fun z => by unfold World.cell?; rw [((hf1 z).block Ag H10.out.2.2.1.lt).trans H10.out.2.2.1.at_]; rfl
          have HCL : Hid (∀ z, Calls Try.prog 15 #[ptr p] (f z) fun e w'' => e = .returned (.int .i64 cn) ∧ ∃ z', w'' = f z') := fun z => by
            refine (clients_any (hpc z)).mono ?_
            rintro _ _ ⟨rfl, rfl⟩
            exact ⟨by rw [hcn], z, rfl⟩
          have HBY : Hid (∀ z, Calls Try.prog 16 #[ptr p] (f z) fun e w'' => e = .returned (.int .i64 bn) ∧ ∃ z', w'' = f z') := fun z => by
            refine (bytes_any (hpc z)).mono ?_
            rintro _ w'' ⟨rfl, hb⟩
            exact ⟨by rw [hbn], hf2 _ ((hf1 z).trans (hb.mono (hf1 z).size))⟩
          have HEN : Hid (∀ z, Calls Try.prog 17 #[ptr p] (f z) fun e w'' => e = .returned (.int .i64 en) ∧ ∃ z', w'' = f z') := fun z => by
            refine (entries_any (hpc z)).mono ?_
            rintro _ w'' ⟨rfl, hb⟩
            exact ⟨by rw [hen], hf2 _ ((hf1 z).trans (hb.mono (hf1 z).size))⟩
          have HZ0 : Hid (∃ z, w10.drew = f z) := hf2 _ (Below.refl _ _).drew
          have HFZ : Hid (∀ z, ∃ K', SO w g p mm Ag K' (f z) (.slice oa9 n9 c9) cn C' l → True) := fun z => ⟨K10, fun _ => trivial⟩
          have HST : Hid (∀ z, Mv (fun _ => False) w10 (f z) K10 (ext w10 K10 (fun _ => 9))) := fun z => Mv.of_below (hf1 z) K10 (fun _ => 9)
          have hstc := H10.out.2.1.pc.st
          have hcfg := H10.out.2.1.pc.ok
          have l1 := hstc.len
          have l2 := hstc.tot
          have l3 : sumC (fun c => byt g.rs c.ents) C' = tot g.rs C' := rfl
          have l4 := sumC_le (f := fun c => c.ents.length) (k := g.en) (C := C') fun c hc => (hstc.cl c hc).len
          have l5 := HNC.out
          have l6 := HBO.out.len
          have l7 := HBO.out.up
          have l8 := hcfg.c
          have l9 := hcfg.e
          have l10 : C'.length * g.en ≤ 64 * 64 := Nat.mul_le_mul (by omega) (by omega)
          have hmul : wrap64 (cn * (g.en : Int)) = ((C'.length * g.en : Nat) : Int) := by
            rw [← hcn, ← Int.natCast_mul]
            unfold wrap64
            omega
          obtain ⟨mq, hmq⟩ : ∃ mq : Int, ((C'.length * g.en : Nat) : Int) = mq := ⟨_, rfl⟩
          rw [hmq] at hmul
          have d1 : decide (watP C' a iv < watP C a iv) = false := by simp; omega
          have d2 : decide (cn < n) = false := by simp; omega
          have d3 : decide ((g.cl : Int) < cn) = false := by simp; omega
          have d4' : decide ((g.by_ : Int) < bn) = false := by simp; omega
          have d5' : decide (mq < en) = false := by simp; omega
          have HCN := hid hcn
          obtain ⟨was, hwas⟩ : ∃ was, watP C a iv = was := ⟨_, rfl⟩
          obtain ⟨now, hnow⟩ : ∃ now, watP C' a iv = now := ⟨_, rfl⟩
          rw [hwas, hnow] at d1
          have HNOW := hid hnow
          rw [hwas, hnow]
          clear hpc hf1 hf2 hstc hcfg l1 l2 l3 l4 l5 l6 l7 l8 l9 l10 hcn hbn hen hmq hwas hnow HFZ
          have HEND : Hid (∀ z (n' : Int) l', n' = cn → BK C' l' → l' = l → ∃ K', SO w g p mm Ag K' (f z) (.slice oa9 n9 c9) n' C' l' ∧ TB K' (f z) 6 A13 (.cells #[.int .i64 a, .int .i64 iv] 37)) := fun z n' l' e1 e2 e3 => by
            subst e1 e3
            have mz := HST.out z
            exact ⟨_, ⟨H10.out.1.mv mz id, H10.out.2.1.mv mz id, H10.out.2.2.1.mv mz id, H10.out.2.2.2.1.mv mz id, e2, by rw [HCN.out]; exact Int.le_refl _⟩, H10.out.2.2.2.2.mv mz id⟩
          have HRT : Hid (∀ z, ∃ K', BS w (f z) K' ∧ TC K' (f z) 1 p g mm C' ∧ TB K' (f z) 2 Ag (.cells #[.int .i64 g.cl, .int .i64 g.en, .int .i64 g.by_, .int .i64 g.rs] 23 (0, 0)) ∧ RT K' (f z) w.heap.size 3 (.slice oa9 n9 c9) l ∧ TB K' (f z) 6 A13 (.cells #[.int .i64 a, .int .i64 iv] 37)) := fun z => by
            have mz := HST.out z
            exact ⟨_, H10.out.1.mv mz id, H10.out.2.1.mv mz id, H10.out.2.2.1.mv mz id, H10.out.2.2.2.1.mv mz id, H10.out.2.2.2.2.mv mz id⟩
          clear HST H10
          by_cases hv3 : v = 3
          · subst hv3
            as_aux_lemma =>
            rcases HFI.out with ⟨_, f2⟩ | ⟨L1, L2, x, hl, hat, hxi⟩
            · obtain ⟨y, hy, hyi⟩ := (HBO.out.k3 (by omega)).1
              exact absurd hyi (f2 y hy)
            subst hat
            obtain ⟨_, kw, kx⟩ := HBO.out.k3 (by omega)
            obtain ⟨hdn, hrep⟩ := kx x (by rw [hl]; simp) hxi
            have hlen9 : (L1 ++ x :: L2).length = n9 := by rw [← hl]; exact HN9.out
            have hat9 : L1.length < n9 := by rw [← hlen9]; simp
            obtain ⟨g9, hg9⟩ := HG9.out (by omega)
            subst hg9
            have hx9 : l[L1.length]? = some x := by rw [hl]; simp
            have e3 : ∀ z, (f z).cell? ⟨g9, L1.length * 5 + 3, none⟩ = some (.bool x.dn) := fun z => by obtain ⟨K', _, _, _, rt, _⟩ := HRT.out z; exact rt.cell HN9.out hx9 3 (by omega)
            have e4 : ∀ z, (f z).cell? ⟨g9, L1.length * 5 + 4, none⟩ = some (.string x.rep) := fun z => by obtain ⟨K', _, _, _, rt, _⟩ := HRT.out z; exact rt.cell HN9.out hx9 4 (by omega)
            rw [hdn] at e3
            rw [hrep] at e4
            rw [HNOW.out] at kw
            have dsn : decide (sq < now) = false := by simp; omega
            obtain ⟨ja, hja⟩ : ∃ ja, L1.length = ja := ⟨_, rfl⟩
            rw [hja] at e3 e4 hat9 ⊢
            have hat' : (ja : Int) < (n9 : Int) := by omega
            have hat0 : decide ((ja : Int) < 0) = false := by simp
            have hat0' : (0 : Int) ≤ (ja : Int) := by omega
            have HBK := hid (HBO.out.k2 (by omega))
            clear HRT HFI hl hxi kx hdn hrep hlen9 hx9 kw HBO hja
            simp only [decide_true] at e3
            have hss : (s.toList == s.toList) = true := by simp
            have instZ : Nonempty Z := ⟨HZ0.out.choose⟩
            go_wp2_with fail
            refine wp_region_class f (by kernel_rfl) (by kernel_rfl) HZ0.out ?_
            repeat (go_big_quiet_step (first | (go_at_call 15; exact HCL.out _) | (go_at_call 16; exact HBY.out _) | (go_at_call 17; exact HEN.out _)))
            refine wpQuiet_nil ?_
            rintro _ ⟨z, rfl⟩
            go_wp2_with fail
            refine (HCL.out z).mono ?_
            rintro _ _ ⟨rfl, z2, rfl⟩
            have e3' := e3 z2
            have e4' := e4 z2
            clear e3 e4 gz0 gz1 gz2 d1 d2 d3 d4' d5' hmul
            go_wp2
            go_roundw
            case rel =>
              obtain ⟨KE, hse, _⟩ := HEND.out z2 cn l rfl HBK.out rfl
              exact ⟨i + 1, KE, cn, C', l, by first | (rw [hwi]; rfl) | rfl, rfl, hlt, by have h2 := HLI.out; omega, hse⟩
            case measure => first | exact meas hwi hi' | exact meas rfl hi'
          have hs0 := HBO.out.no hv3
          subst hs0
          by_cases hv1 : v = 1
          · subst hv1
            rcases HFI.out with ⟨hat, f2⟩ | ⟨L1, L2, x, hl, hat, hxi⟩
            rotate_left
            · exact absurd hxi ((HBO.out.k1 rfl).1 x (by rw [hl]; simp))
            subst hat
            obtain ⟨_, kw, kx, hbk⟩ := HBO.out.k1 rfl
            rw [HNOW.out] at kw kx
            have dsn : decide (sq < now) = false := by simp; omega
            have dnw : decide (now < wt) = false := by simp; omega
            have HBK := hid hbk
            clear HFI f2 HBO kw kx hbk HEND
            have instZ : Nonempty Z := ⟨HZ0.out.choose⟩
            go_wp2_with fail
            refine wp_region_class f (by kernel_rfl) (by kernel_rfl) HZ0.out ?_
            repeat (go_big_quiet_step (first | (go_at_call 15; exact HCL.out _) | (go_at_call 16; exact HBY.out _) | (go_at_call 17; exact HEN.out _)))
            refine wpQuiet_nil ?_
            rintro _ ⟨z, rfl⟩
            go_wp2_with fail
            refine (HCL.out z).mono ?_
            rintro _ _ ⟨rfl, z2, rfl⟩
            clear gz0 gz1 gz2 d1 d2 d3 d4' d5' hmul
            obtain ⟨KZ, bz, tz, gz, rz, t6z⟩ := HRT.out z2
            have y0 : (f z2).cell? ⟨A13, 0, none⟩ = some (.int .i64 a) := by unfold World.cell?; rw [t6z.at_]; rfl
            have y1 : (f z2).cell? ⟨A13, 1, none⟩ = some (.int .i64 iv) := by unfold World.cell?; rw [t6z.at_]; rfl
            obtain ⟨w11, hw11⟩ : ∃ w11, (f z2).alloc (.cells #[.int .i64 a, .int .i64 iv, .int .i64 sq, .bool false, .string ⟨#[]⟩] 48) = w11 := ⟨_, rfl⟩
            obtain ⟨N11, hN11⟩ : ∃ N11, (f z2).heap.size = N11 := ⟨_, rfl⟩
            have m11 := Mv.alloc (f z2) KZ (fun _ => 9) (.cells #[.int .i64 a, .int .i64 iv, .int .i64 sq, .bool false, .string ⟨#[]⟩] 48)
            rw [hw11] at m11
            have b11 : w11.heap[N11]? = some (.cells #[.int .i64 a, .int .i64 iv, .int .i64 sq, .bool false, .string ⟨#[]⟩] 48) := by rw [← hw11, ← hN11]; exact (MapKept.heap_alloc _ _).1
            obtain ⟨v12, w12, K12, r12, rt12, m12⟩ := (rz.mv m11 id).app (Nat.le_trans bz.be.size m11.size) b11 (by have h1 := HL.out; have h2 := HLI.out; omega)
            have HS12 : Hid (∃ K', SO w g p mm Ag K' w12 v12 cn C' (l ++ [⟨a, iv, sq, false, ⟨#[]⟩⟩])) := ⟨K12, (bz.mv m11 id).mv m12 (by omega), (tz.mv m11 id).mv m12 (by omega), (gz.mv m11 id).mv m12 (by omega), rt12, HBK.out, by rw [HCN.out]; exact Int.le_refl _⟩
            have R12 := hid r12
            clear bz tz gz rz t6z m11 b11 r12 rt12 m12 HRT
            have HWI := hid (And.intro hwi (And.intro hi' hlt))
            clear hwi hi' hlt d4 d5 HO HA HCF HG HOK HIN HN9 HG9 HL HBK HCL HBY HEN HZ0 HNC HNOW HCN
            have hbd := fun w => bld48 w a iv sq
            have hbs := fun w => bls44 w a iv sq false ⟨#[]⟩
            obtain ⟨HD, hHD⟩ : ∃ HD : Prop, HD := ⟨True, trivial⟩
            have HHD := hid hHD
            clear hHD
            go_upto_region 37 with fail
            go_wp2_with (at_builtin; refine decoy (D := HD) ?_ ?_)
            · exact HHD.out
            refine (show Hid _ from ?_)
            refine wpList_app rfl _ _ 44 rfl _ _ _ _ rfl rfl (R12.out _) ?_
            obtain ⟨hwi, hi', hlt⟩ := HWI.out
            clear R12 hbd hbs HHD y0 y1 hw11 hN11 dsn dnw
            go_wp2
            go_roundw
            case rel =>
              obtain ⟨KE, hse⟩ := HS12.out
              exact ⟨i + 1, KE, cn, C', _, by first | (rw [hwi]; rfl) | rfl, rfl, hlt, by have h2 := HLI.out; simp; omega, hse⟩
            case measure => first | exact meas hwi hi' | exact meas rfl hi'
          by_cases hv2 : v = 2
          · subst hv2
            as_aux_lemma =>
            rcases HFI.out with ⟨_, f2⟩ | ⟨L1, L2, x, hl, hat, hxi⟩
            · obtain ⟨y, hy, hyi⟩ := (HBO.out.k3 (by omega)).1
              exact absurd hyi (f2 y hy)
            subst hat
            obtain ⟨_, kw, kx⟩ := HBO.out.k3 (by omega)
            obtain ⟨hdn, hrep⟩ := kx x (by rw [hl]; simp) hxi
            have hlen9 : (L1 ++ x :: L2).length = n9 := by rw [← hl]; exact HN9.out
            have hat9 : L1.length < n9 := by rw [← hlen9]; simp
            obtain ⟨g9, hg9⟩ := HG9.out (by omega)
            subst hg9
            have hx9 : l[L1.length]? = some x := by rw [hl]; simp
            have e3 : ∀ z, (f z).cell? ⟨g9, L1.length * 5 + 3, none⟩ = some (.bool x.dn) := fun z => by obtain ⟨K', _, _, _, rt, _⟩ := HRT.out z; exact rt.cell HN9.out hx9 3 (by omega)
            have e4 : ∀ z, (f z).cell? ⟨g9, L1.length * 5 + 4, none⟩ = some (.string x.rep) := fun z => by obtain ⟨K', _, _, _, rt, _⟩ := HRT.out z; exact rt.cell HN9.out hx9 4 (by omega)
            rw [hdn] at e3
            rw [hrep] at e4
            rw [HNOW.out] at kw
            have dsn : decide (sq < now) = false := by simp; omega
            obtain ⟨ja, hja⟩ : ∃ ja, L1.length = ja := ⟨_, rfl⟩
            rw [hja] at e3 e4 hat9 ⊢
            have hat' : (ja : Int) < (n9 : Int) := by omega
            have hat0 : decide ((ja : Int) < 0) = false := by simp
            have hat0' : (0 : Int) ≤ (ja : Int) := by omega
            have HBK := hid (HBO.out.k2 (by omega))
            clear HRT HFI hl hxi kx hdn hrep hlen9 hx9 kw HBO hja
            have e3b : ∀ z, (f z).cell? ⟨g9, ja * 5 + 3, none⟩ = some (.bool false) := e3
            clear e3
            have instZ : Nonempty Z := ⟨HZ0.out.choose⟩
            go_wp2_with fail
            refine wp_region_class f (by kernel_rfl) (by kernel_rfl) HZ0.out ?_
            repeat (go_big_quiet_step (first | (go_at_call 15; exact HCL.out _) | (go_at_call 16; exact HBY.out _) | (go_at_call 17; exact HEN.out _)))
            refine wpQuiet_nil ?_
            rintro _ ⟨z, rfl⟩
            go_wp2_with fail
            refine (HCL.out z).mono ?_
            rintro _ _ ⟨rfl, z2, rfl⟩
            have e3' := e3b z2
            have e4' := e4 z2
            clear e3b e4 gz0 gz1 gz2 d1 d2 d3 d4' d5' hmul
            go_wp2
            go_roundw
            case rel =>
              obtain ⟨KE, hse, _⟩ := HEND.out z2 cn l rfl HBK.out rfl
              exact ⟨i + 1, KE, cn, C', l, by first | (rw [hwi]; rfl) | rfl, rfl, hlt, by have h2 := HLI.out; omega, hse⟩
            case measure => first | exact meas hwi hi' | exact meas rfl hi'
          by_cases hv4 : v = 4
          · subst hv4
            as_aux_lemma =>
            have HBK := hid (HBO.out.k2 (by omega))
            have hk4 := HBO.out.k4 rfl
            rw [HNOW.out] at hk4
            clear HRT HFI HBO
            have instZ : Nonempty Z := ⟨HZ0.out.choose⟩
            go_wp2_with fail
            refine wp_region_class f (by kernel_rfl) (by kernel_rfl) HZ0.out ?_
            repeat (go_big_quiet_step (first | (go_at_call 15; exact HCL.out _) | (go_at_call 16; exact HBY.out _) | (go_at_call 17; exact HEN.out _)))
            refine wpQuiet_nil ?_
            rintro _ ⟨z, rfl⟩
            go_wp2_with fail
            refine (HCL.out z).mono ?_
            rintro _ _ ⟨rfl, z2, rfl⟩
            clear gz0 gz1 gz2 d1 d2 d3 d4' d5' hmul
            by_cases c1 : 0 < now
            rotate_left
            · have b1 : decide (0 < now) = false := by simpa using c1
              clear hk4
              go_wp2
              go_roundw
              case rel =>
                obtain ⟨KE, hse, _⟩ := HEND.out z2 cn l rfl HBK.out rfl
                exact ⟨i + 1, KE, cn, C', l, by first | (rw [hwi]; rfl) | rfl, rfl, hlt, by have h2 := HLI.out; omega, hse⟩
              case measure => first | exact meas hwi hi' | exact meas rfl hi'
            have b1 : decide (0 < now) = true := by simpa using c1
            by_cases c2 : now ≤ sq
            rotate_left
            · have b2 : decide (now ≤ sq) = false := by simpa using c2
              clear hk4
              go_wp2
              go_roundw
              case rel =>
                obtain ⟨KE, hse, _⟩ := HEND.out z2 cn l rfl HBK.out rfl
                exact ⟨i + 1, KE, cn, C', l, by first | (rw [hwi]; rfl) | rfl, rfl, hlt, by have h2 := HLI.out; omega, hse⟩
              case measure => first | exact meas hwi hi' | exact meas rfl hi'
            have b2 : decide (now ≤ sq) = true := by simpa using c2
            by_cases c3 : 1 ≤ sq
            rotate_left
            · have b3 : decide (1 ≤ sq) = false := by simpa using c3
              clear hk4
              go_wp2
              go_roundw
              case rel =>
                obtain ⟨KE, hse, _⟩ := HEND.out z2 cn l rfl HBK.out rfl
                exact ⟨i + 1, KE, cn, C', l, by first | (rw [hwi]; rfl) | rfl, rfl, hlt, by have h2 := HLI.out; omega, hse⟩
              case measure => first | exact meas hwi hi' | exact meas rfl hi'
            have b3 : decide (1 ≤ sq) = true := by simpa using c3
            by_cases c4 : sq < 4294967296
            rotate_left
            · have b4 : decide (sq < 4294967296) = false := by simpa using c4
              clear hk4
              go_wp2
              go_roundw
              case rel =>
                obtain ⟨KE, hse, _⟩ := HEND.out z2 cn l rfl HBK.out rfl
                exact ⟨i + 1, KE, cn, C', l, by first | (rw [hwi]; rfl) | rfl, rfl, hlt, by have h2 := HLI.out; omega, hse⟩
              case measure => first | exact meas hwi hi' | exact meas rfl hi'
            have b4 : decide (sq < 4294967296) = true := by simpa using c4
            by_cases c5 : 1 ≤ wt
            rotate_left
            · have b5 : decide (1 ≤ wt) = false := by simpa using c5
              clear hk4
              go_wp2
              go_roundw
              case rel =>
                obtain ⟨KE, hse, _⟩ := HEND.out z2 cn l rfl HBK.out rfl
                exact ⟨i + 1, KE, cn, C', l, by first | (rw [hwi]; rfl) | rfl, rfl, hlt, by have h2 := HLI.out; omega, hse⟩
              case measure => first | exact meas hwi hi' | exact meas rfl hi'
            have b5 : decide (1 ≤ wt) = true := by simpa using c5
            have b6 : decide (wt < 4294967296) = false := by
              rw [decide_eq_false_iff_not]
              exact fun c6 => hk4 ⟨c1, c2, c3, c4, c5, c6⟩
            clear hk4 c1 c2 c3 c4 c5
            go_wp2
            go_roundw
            case rel =>
              obtain ⟨KE, hse, _⟩ := HEND.out z2 cn l rfl HBK.out rfl
              exact ⟨i + 1, KE, cn, C', l, by first | (rw [hwi]; rfl) | rfl, rfl, hlt, by have h2 := HLI.out; omega, hse⟩
            case measure => first | exact meas hwi hi' | exact meas rfl hi'
          obtain rfl : v = 5 := by rcases HBO.out.all with h | h | h | h | h <;> omega
          as_aux_lemma =>
          rcases HFI.out with ⟨hat, f2⟩ | ⟨L1, L2, x, hl, hat, hxi⟩
          rotate_left
          · exact absurd hxi (HBO.out.k5 rfl x (by rw [hl]; simp))
          subst hat
          have HBK := hid (HBO.out.k2 (by omega))
          clear HRT HFI f2 HBO
          have instZ : Nonempty Z := ⟨HZ0.out.choose⟩
          go_wp2_with fail
          refine wp_region_class f (by kernel_rfl) (by kernel_rfl) HZ0.out ?_
          repeat (go_big_quiet_step (first | (go_at_call 15; exact HCL.out _) | (go_at_call 16; exact HBY.out _) | (go_at_call 17; exact HEN.out _)))
          refine wpQuiet_nil ?_
          rintro _ ⟨z, rfl⟩
          go_wp2_with fail
          refine (HCL.out z).mono ?_
          rintro _ _ ⟨rfl, z2, rfl⟩
          clear gz0 gz1 gz2 d1 d2 d3 d4' d5' hmul
          go_wp2
          go_roundw
          case rel =>
            obtain ⟨KE, hse, _⟩ := HEND.out z2 cn l rfl HBK.out rfl
            exact ⟨i + 1, KE, cn, C', l, by first | (rw [hwi]; rfl) | rfl, rfl, hlt, by have h2 := HLI.out; omega, hse⟩
          case measure => first | exact meas hwi hi' | exact meas rfl hi'
    · obtain rfl : i = len := by have := HLI.out.1; omega
      have HE := hid HS.out.bs.be
      clear HS
      go_wp2
      go_ret
      exact ⟨rfl, HE.out⟩
end Go.Proofs.Ytlmdagdanmpbkaa
