/- ShelfPlays: the law itself. -/
import Derived.Test.YtkkamilmjaochaaPCd
namespace Go.Proofs.Ytkkamilmjaochaa
open Go.RowKit
set_option maxRecDepth 8000 in
set_option maxHeartbeats 8000000 in
theorem plays_any (one two : Int) (h1 : I64 one) (h2 : I64 two) (oa : Option Addr) (sb off len cap : Nat) (O : Nat → OpP) (w : World) (hoa : 0 < len → oa = some ⟨sb, off, none⟩) (hO : OpsAt w sb off len O) (hlen : (len : Int) ≤ 9223372036854775807) :
    Calls Try.prog 3 #[.int .i64 one, .int .i64 two, .slice oa len cap] w fun e w' => e = .returned (.bool true) ∧ Below w.heap.size w w' := by
  have HW := hid (weighs_any oa sb off len cap O w hoa hO hlen)
  have HO := hid hO
  have HOA := hid hoa
  have HI : Hid (I64 one ∧ I64 two) := ⟨h1, h2⟩
  clear hO hoa h1 h2 hlen
  go_enter Try.func3, Try.ntmps3
  go_wp2_with fail
  refine HW.out.mono ?_
  rintro _ w' ⟨s, rfl, hs, hw'⟩
  rw [hw']
  clear hw' HW
  cases hd : decide (2147483647 < s)
  · have HLN := hid (hs (by simp at hd; omega))
    clear hs
    go_wp2_with fail
    refine (awake_any w).mono ?_
    rintro _ wa ⟨rfl, hba⟩
    have hL0 : LS w (ext w (fun _ => 0) (fun _ => 3)) wa (.slice none 0 0) [] := ⟨(BS.first w).mv (Mv.of_below hba _ _) id, RW.nil _ _ _ _ _ _ _, fun q y h => by simp at h, by simp⟩
    obtain ⟨S1, hS1⟩ : ∃ S1, wa.heap.size = S1 := ⟨_, rfl⟩
    obtain ⟨wb, hwb⟩ : ∃ wb, wa.alloc (.cells #[.int .i64 one, .int .i64 two] 3) = wb := ⟨_, rfl⟩
    have HL1 : Hid (∃ K, LS w K wb (.slice none 0 0) [] ∧ TB K wb 4 S1 (.cells #[.int .i64 one, .int .i64 two] 3)) := by
      have mb : Mv (fun _ => False) wa wb (ext w (fun _ => 0) (fun _ => 3)) (ext wa (ext w (fun _ => 0) (fun _ => 3)) (fun _ => 4)) := by rw [← hwb]; exact Mv.alloc _ _ _ _
      have hb := TB.new wa (ext w (fun _ => 0) (fun _ => 3)) (fun _ => 4) (.cells #[.int .i64 one, .int .i64 two] 3) (t := 4) rfl
      rw [hwb, hS1] at hb
      exact ⟨_, hL0.mv mb (fun _ e => e.elim), hb⟩
    have hbs := bls26
    clear hL0 hba
    go_wp2_with fail
    clear hwb hbs
    go_loopw [8, 10] (fun u8 u10 wr => ∃ (j : Nat) (K : Nat → Nat) (ys : List Nat), u10 = .int .i64 j ∧ j ≤ 2 ∧ Hid (LS w K wr u8 ys ∧ ys.length = j ∧ TB K wr 4 S1 (.cells #[.int .i64 one, .int .i64 two] 3))) (fun _ u10 _ => 2 - (intOf u10).toNat)
    case atStart =>
      obtain ⟨K, h1, h2⟩ := HL1.out
      exact ⟨0, K, [], rfl, Nat.zero_le _, h1, rfl, h2⟩
    case round =>
      obtain ⟨j, K1, ys, rfl, hj, HQ⟩ := hrel
      clear HL1
      obtain ⟨w1, hw1⟩ : ∃ yy, yy = wr := ⟨_, rfl⟩
      subst hw1
      by_cases hj2 : j < 2
      · have hj' : (j : Int) < 2 := by omega
        have hj0 : (0 : Int) ≤ (j : Int) := by omega
        have hcell : ∃ mo, I64 mo ∧ ∀ (K : Nat → Nat) (w' : World), TB K w' 4 S1 (.cells #[.int .i64 one, .int .i64 two] 3) → w'.cell? ⟨S1, j, none⟩ = some (.int .i64 mo) := by
          rcases (show j = 0 ∨ j = 1 by omega) with e | e
          · subst e; exact ⟨one, HI.out.1, fun K w' h => by unfold World.cell?; rw [h.at_]; rfl⟩
          · subst e; exact ⟨two, HI.out.2, fun K w' h => by unfold World.cell?; rw [h.at_]; rfl⟩
        obtain ⟨mo, hmo, hc⟩ := hcell
        have HC := hid hc
        have HJ := hid hj2
        obtain ⟨o8, c8, e8, _, _⟩ := HQ.out.1.l.form
        rw [HQ.out.2.1] at e8
        subst e8
        have c1 := hc K1 w1 HQ.out.2.2
        clear hc hj2 hj
        by_cases hg : 0 ≤ mo ∧ mo ≤ 1048576
        · obtain ⟨k, hk⟩ : ∃ k : Nat, mo = k := ⟨mo.toNat, by omega⟩
          have hk20 : k ≤ 1048576 := by omega
          have HC1 := hid (HQ.out.1.make hk hk20 HQ.out.2.2)
          have HK : Hid (mo = k ∧ k ≤ 1048576 ∧ ys.length = j) := ⟨hk, hk20, HQ.out.2.1⟩
          clear hk hk20 hg hmo HQ
          go_wp2_with fail
          refine HC1.out.mono ?_
          rintro _ w2 ⟨p, rfl, H2⟩
          obtain ⟨K2, m, r, L2, G2, T2⟩ := H2.out
          have c2 := HC.out K2 w2 G2
          have HC2 := hid (L2.doc HK.out.1 HK.out.2.1 G2 T2)
          clear HC1 H2 L2 G2 T2 c1
          go_wp2_with fail
          refine HC2.out.mono ?_
          rintro _ w3 ⟨x, rfl, H3⟩
          obtain ⟨K3, L3, G3, T3, D3⟩ := H3.out
          obtain ⟨S4, hS4⟩ : ∃ S4, w3.heap.size = S4 := ⟨_, rfl⟩
          obtain ⟨w4, hw4⟩ : ∃ w4, w3.alloc (.cells #[ptr p, ptr x, .slice none 0 0, .slice none 0 0] 39) = w4 := ⟨_, rfl⟩
          obtain ⟨K4, L4, G4, D4⟩ := L3.sideA G3 T3 D3 hS4 hw4
          have hb1 := fun w => bld39p w p x
          clear HC2 H3 L3 G3 T3 D3 c2
          obtain ⟨S5, hS5⟩ : ∃ S5, w4.heap.size = S5 := ⟨_, rfl⟩
          obtain ⟨w5, hw5⟩ : ∃ w5, w4.alloc (.cells #[ptr S4] 36) = w5 := ⟨_, rfl⟩
          obtain ⟨g6, c6, w6, K6, r6, L6, mv6⟩ := L4.push D4 (by rw [HK.out.2.2]; exact HJ.out) hS5 hw5
          have G6 := G4.mv mv6 (by omega)
          rw [HK.out.2.2] at r6 L6
          have HR6 := hid r6
          have HQ6 : Hid (LS w K6 w6 (.slice (some ⟨g6, 0, none⟩) (j + 1) c6) (ys ++ [S4]) ∧ (ys ++ [S4]).length = j + 1 ∧ TB K6 w6 4 S1 (.cells #[.int .i64 one, .int .i64 two] 3)) := ⟨L6, by rw [List.length_append, HK.out.2.2]; rfl, G6⟩
          have hb2 := fun w => bls25 w S4
          clear L4 G4 D4 r6 L6 mv6 G6
          go_wp2_with (at_builtin; refine Hid.out ?_)
          refine (show Hid _ from ?_)
          refine wpList_app rfl _ _ 25 rfl _ _ _ _ rfl rfl (HR6.out _) ?_
          clear hw4 hw5 hb1 hb2
          go_wp2_with fail
          go_roundw
          case rel => exact ⟨j + 1, K6, _, by first | rfl | (rw [wrapS (j := j) (by have := HJ.out; omega)]; rfl), HJ.out, HQ6.out⟩
          case measure => first | exact meas6 rfl HJ.out | exact meas6 (wrapS (j := j) (by have := HJ.out; omega)) HJ.out
        · have hbad : (decide (mo < 0) || decide (1048576 < mo)) = true := by
            rcases (show mo < 0 ∨ 1048576 < mo by omega) with e | e
            · simp [e]
            · simp [e]
          have HC1 := hid (newK_bad w1 mo hbad)
          have HC2 := hid (dnew_bad w1 mo hbad)
          have HK : Hid (ys.length = j) := HQ.out.2.1
          obtain ⟨S4, hS4⟩ : ∃ S4, w1.heap.size = S4 := ⟨_, rfl⟩
          obtain ⟨w4, hw4⟩ : ∃ w4, w1.alloc (.cells #[.pointer none, .pointer none, .slice none 0 0, .slice none 0 0] 39) = w4 := ⟨_, rfl⟩
          obtain ⟨K4, L4, G4, D4⟩ := HQ.out.1.sideN HQ.out.2.2 hS4 hw4
          have hb1 := bld39
          clear hbad hg hmo HQ
          go_wp2_with fail
          refine HC1.out.mono ?_
          rintro _ w2 ⟨rfl, hw2⟩
          rw [hw2]
          clear HC1 hw2
          go_wp2_with fail
          refine HC2.out.mono ?_
          rintro _ w3 ⟨rfl, hw3⟩
          rw [hw3]
          clear HC2 hw3 c1
          obtain ⟨S5, hS5⟩ : ∃ S5, w4.heap.size = S5 := ⟨_, rfl⟩
          obtain ⟨w5, hw5⟩ : ∃ w5, w4.alloc (.cells #[ptr S4] 36) = w5 := ⟨_, rfl⟩
          obtain ⟨g6, c6, w6, K6, r6, L6, mv6⟩ := L4.push D4 (by rw [HK.out]; exact HJ.out) hS5 hw5
          have G6 := G4.mv mv6 (by omega)
          rw [HK.out] at r6 L6
          have HR6 := hid r6
          have HQ6 : Hid (LS w K6 w6 (.slice (some ⟨g6, 0, none⟩) (j + 1) c6) (ys ++ [S4]) ∧ (ys ++ [S4]).length = j + 1 ∧ TB K6 w6 4 S1 (.cells #[.int .i64 one, .int .i64 two] 3)) := ⟨L6, by rw [List.length_append, HK.out]; rfl, G6⟩
          have hb2 := fun w => bls25 w S4
          clear L4 G4 D4 r6 L6 mv6 G6
          go_wp2_with (at_builtin; refine Hid.out ?_)
          refine (show Hid _ from ?_)
          refine wpList_app rfl _ _ 25 rfl _ _ _ _ rfl rfl (HR6.out _) ?_
          clear hw4 hw5 hb1 hb2
          go_wp2_with fail
          go_roundw
          case rel => exact ⟨j + 1, K6, _, by first | rfl | (rw [wrapS (j := j) (by have := HJ.out; omega)]; rfl), HJ.out, HQ6.out⟩
          case measure => first | exact meas6 rfl HJ.out | exact meas6 (wrapS (j := j) (by have := HJ.out; omega)) HJ.out
      · have hje : j = 2 := by omega
        have dj : decide ((j : Int) < 2) = false := by simp; omega
        obtain ⟨y0, y1, hys⟩ : ∃ y0 y1, ys = [y0, y1] := by
          have := HQ.out.2.1
          rw [hje] at this
          match ys, this with
          | [a, b], _ => exact ⟨a, b, rfl⟩
        subst hys
        obtain ⟨o8, c8, e8, _, hg8⟩ := HQ.out.1.l.form
        obtain ⟨g8, rfl⟩ := hg8 (by simp)
        have e8' : _ = Value.slice (some ⟨g8, 0, none⟩) 2 c8 := e8
        subst e8'
        obtain ⟨bb, hbb⟩ : ∃ bb, w1.heap.size = bb := ⟨_, rfl⟩
        obtain ⟨w2, hw2⟩ : ∃ w2, w1.alloc (.cells #[.slice none 0 0, .slice none 0 0, .slice none 0 0, .int .i64 0] 43) = w2 := ⟨_, rfl⟩
        obtain ⟨K2, L2, B2⟩ := HQ.out.1.book hbb hw2
        have H2 : Hid (LS w K2 w2 (.slice (some ⟨g8, 0, none⟩) 2 c8) [y0, y1] ∧ BKx K2 w2 w.heap.size bb 0 0) := ⟨L2, B2⟩
        have hb1 := bld43
        have hli : (len : Int) ≤ 2147483647 := by have := HLN.out.1; omega
        clear HQ e8 hg8 L2 B2 hj hj2 hje
        go_wp2_with fail
        clear hw2 hb1
        go_loopw [16] (fun u16 wr => ∃ (i : Nat) (K : Nat → Nat) (N n : Nat), u16 = .int .i64 i ∧ i ≤ len ∧ Hid ((LS w K wr (.slice (some ⟨g8, 0, none⟩) 2 c8) [y0, y1] ∧ BKx K wr w.heap.size bb N n) ∧ N + n ≤ 2 * i)) (fun u16 _ => len - (intOf u16).toNat)
        case atStart => exact ⟨0, K2, 0, 0, rfl, Nat.zero_le _, H2.out, by omega⟩
        case round =>
          obtain ⟨i, K3, N, n, rfl, hi, HS⟩ := hrel
          clear H2
          obtain ⟨w3, hw3⟩ : ∃ yy, yy = wr := ⟨_, rfl⟩
          subst hw3
          by_cases hil : i < len
          · have hi' : (i : Int) < (len : Int) := by omega
            have hi0 : (0 : Int) ≤ (i : Int) := by omega
            have e := HOA.out (Nat.lt_of_le_of_lt (Nat.zero_le _) hil)
            subst e
            have hops := HS.out.1.1.ops HO.out
            have c0 := hops.c0 i hil
            have c1 := hops.c1 i hil
            have c2 := hops.c2 i hil
            have c3 := hops.c3 i hil
            have c4 := hops.c4 i hil
            have c5 := hops.c5 i hil
            have c6 := hops.c6 i hil
            obtain ⟨o, ho⟩ : ∃ o, O i = o := ⟨_, rfl⟩
            have HOK : Hid ((I64 o.m ∧ I64 o.n) ∧ I64 o.v ∧ KOk o.k ∧ I64 o.on) := by
              rw [← ho]
              exact ⟨⟨hops.m i hil, hops.n i hil⟩, hops.v i hil, ⟨by have := HLN.out.2 i hil; unfold maxLen; omega, hops.kn i hil⟩, hops.on i hil⟩
            rw [ho] at c0 c1 c2 c3 c4 c5 c6
            have hpr := pick_range o.on 4 (by omega)
            obtain ⟨pk, hpk⟩ : ∃ pk, pickP o.on 4 = pk := ⟨_, rfl⟩
            rw [hpk] at hpr
            have HPK : Hid (∀ w : World, Calls Try.prog 10 #[.int .i64 o.on, .int .i64 4] w fun e w' => e = .returned (.int .i64 pk) ∧ w' = w) := fun w => by
              rw [← hpk]
              exact pick_any o.on 4 w HOK.out.2.2.2.1 HOK.out.2.2.2.2 (by omega) (by omega)
            obtain ⟨q, yq, hq, hq2, hyq⟩ : ∃ q yq, Int.tdiv pk 3 = ((q : Nat) : Int) ∧ q < 2 ∧ [y0, y1][q]? = some yq := by
              rcases (show pk = 0 ∨ pk = 1 ∨ pk = 2 ∨ pk = 3 by omega) with e | e | e | e <;> subst e
              · exact ⟨0, y0, rfl, by omega, rfl⟩
              · exact ⟨0, y0, rfl, by omega, rfl⟩
              · exact ⟨0, y0, rfl, by omega, rfl⟩
              · exact ⟨1, y1, rfl, by omega, rfl⟩
            have hqi : (q : Int) < 2 := by omega
            have hq0 : (0 : Int) ≤ (q : Int) := by omega
            have d1 := HS.out.1.1.cell rfl hyq
            have HLI := hid hil
            obtain ⟨D, hD⟩ : ∃ D, i % 4 = D := ⟨_, rfl⟩
            have hr4 : Int.tmod (i : Int) 4 = (D : Int) := by rw [← hD]; exact (Int.ofNat_tmod i 4)
            have hD4 : (D : Int) ≤ 3 := by omega
            have hD0 : (0 : Int) ≤ (D : Int) := by omega
            have hil2 := HLN.out.1
            clear hops hpk ho hil hi hD
            rcases HS.out.1.1.sd q yq hyq with hN | ⟨x, hA⟩
            · have z1 := hN.y1
              have HE : Hid ((LS w K3 w3 (.slice (some ⟨g8, 0, none⟩) 2 c8) [y0, y1] ∧ BKx K3 w3 w.heap.size bb N n) ∧ N + n ≤ 2 * (i + 1)) := ⟨HS.out.1, by have := HS.out.2; omega⟩
              clear HS hN hyq hq2
              go_wp2_with fail
              refine (HPK.out _).mono ?_
              rintro _ w4 ⟨rfl, hw4⟩
              rw [hw4]
              clear hw4
              go_wp2
              go_roundw
              case rel => exact ⟨i + 1, K3, N, n, by first | rfl | (rw [wrapS (j := i) (by omega)]; rfl), HLI.out, HE.out⟩
              case measure => first | exact meas6 rfl HLI.out | exact meas6 (wrapS (j := i) (by omega)) HLI.out
            · have z1 := hA.y1
              have HST := hid (HS.out.1.1.step HS.out.1.2 hyq hA HOK.out.1 HOK.out.2.1 HOK.out.2.2.1 (by have := HS.out.2; have := HLI.out; omega))
              have HNN := hid HS.out.2
              clear HS hA hyq hq2
              go_wp2_with fail
              refine (HPK.out _).mono ?_
              rintro _ w4 ⟨rfl, hw4⟩
              rw [hw4]
              clear hw4
              go_wp2_with fail
              refine HST.out.mono ?_
              rintro _ w5 ⟨rfl, H5⟩
              obtain ⟨K5, n5, hn5, L5, B5⟩ := H5.out
              clear HST c0 c1 c2 c3 c4 c5 c6 d1 z1
              cases h3 : ((D : Int) == 3)
              · have HE : Hid ((LS w K5 w5 (.slice (some ⟨g8, 0, none⟩) 2 c8) [y0, y1] ∧ BKx K5 w5 w.heap.size bb N n5) ∧ N + n5 ≤ 2 * (i + 1)) := ⟨⟨L5, B5⟩, by have := HNN.out; omega⟩
                clear H5 L5 B5
                go_wp2
                go_roundw
                case rel => exact ⟨i + 1, K5, N, n5, by first | rfl | (rw [wrapS (j := i) (by omega)]; rfl), HLI.out, HE.out⟩
                case measure => first | exact meas6 rfl HLI.out | exact meas6 (wrapS (j := i) (by omega)) HLI.out
              · have HSL := hid (L5.still B5 (by have := HNN.out; have := HLI.out; omega))
                have HN5 : Hid (N + n5 ≤ 2 * (i + 1)) := by have := HNN.out; show _ ≤ _; omega
                clear H5 L5 B5
                go_wp2_with fail
                refine HSL.out.mono ?_
                rintro _ w6 ⟨rfl, H6⟩
                obtain ⟨K6, L6, B6⟩ := H6.out
                have HE : Hid ((LS w K6 w6 (.slice (some ⟨g8, 0, none⟩) 2 c8) [y0, y1] ∧ BKx K6 w6 w.heap.size bb (N + n5) 0) ∧ N + n5 + 0 ≤ 2 * (i + 1)) := ⟨⟨L6, B6⟩, HN5.out⟩
                clear H6 L6 B6 HSL
                go_wp2
                go_roundw
                case rel => exact ⟨i + 1, K6, N + n5, 0, by first | rfl | (rw [wrapS (j := i) (by omega)]; rfl), HLI.out, HE.out⟩
                case measure => first | exact meas6 rfl HLI.out | exact meas6 (wrapS (j := i) (by omega)) HLI.out
          · obtain rfl : i = len := by omega
            have d0 := HS.out.1.1.cell (q := 0) rfl rfl
            have HA0 := hid (HS.out.1.1.alike HS.out.1.2 (q := 0) rfl)
            have HNN := hid HS.out.2
            clear HS hil hi
            go_wp2_with fail
            refine HA0.out.mono ?_
            rintro _ w4 ⟨rfl, H4⟩
            obtain ⟨K4, L4, B4⟩ := H4.out
            have d1 := L4.cell (q := 1) rfl rfl
            have HA1 := hid (L4.alike B4 (q := 1) rfl)
            clear HA0 H4 L4 B4 d0
            go_wp2_with fail
            refine HA1.out.mono ?_
            rintro _ w5 ⟨rfl, H5⟩
            obtain ⟨K5, L5, B5⟩ := H5.out
            have HSL := hid (L5.still B5 (by have := HNN.out; have := HLN.out.1; omega))
            clear HA1 H5 L5 B5 d1
            go_wp2_with fail
            refine HSL.out.mono ?_
            rintro _ w6 ⟨rfl, H6⟩
            obtain ⟨K6, L6, B6⟩ := H6.out
            have HE := hid L6.bs.be
            clear HSL H6 L6 B6
            go_wp2
            go_ret
            exact ⟨rfl, HE.out⟩
  · clear hs
    go_wp2
    go_ret
    exact ⟨rfl, Below.refl _ _⟩
end Go.Proofs.Ytkkamilmjaochaa
