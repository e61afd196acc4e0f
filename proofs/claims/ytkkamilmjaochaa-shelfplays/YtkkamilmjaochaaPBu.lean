/- ShelfPlays: prunes. -/
import Derived.Test.YtkkamilmjaochaaPBt
import Derived.Deep.RegionHeld3
namespace Go.Proofs.Ytkkamilmjaochaa
open Go.RowKit
set_option maxHeartbeats 4000000 in
set_option maxRecDepth 8000 in
theorem prunes_any {K : Nat → Nat} {w : World} {B β y p m r x most : Nat} {L : List Pr} {A W : List As} {va vw : Value} (h : SD K w B β y p m r x most L L A W va vw) (hB : B ≤ w.heap.size) (o : OpP) (ho : I64 o.m ∧ I64 o.n) (hV : VOk L) :
    Calls Try.prog 48 #[ptr y, opV o] w fun e w' => e = .returned (.bool true) ∧ ∃ K' A' W' va' vw', SD K' w' B β y p m r x most (pruL most o L) (pruL most o L) A' W' va' vw' ∧ Mv (TQ β) w w' K K' := by
  have HX : Hid (ND L ∧ L.length ≤ most ∧ most ≤ 1048576) := by
    obtain ⟨Lt, e1, ts⟩ := h.sh
    subst e1
    exact ⟨ts.sh.nd', by rw [prs_len]; exact ts.sh.len, ts.sh.m20⟩
  obtain ⟨S0, hS0⟩ : ∃ S0, w.heap.size = S0 := ⟨_, rfl⟩
  obtain ⟨w0, hw0⟩ : ∃ w0, w.alloc (.cells #[ptr y] 36) = w0 := ⟨_, rfl⟩
  obtain ⟨S1, hS1⟩ : ∃ S1, w0.heap.size = S1 := ⟨_, rfl⟩
  obtain ⟨w1, hw1⟩ : ∃ w1, w0.alloc (opB o) = w1 := ⟨_, rfl⟩
  obtain ⟨K1, hK1⟩ : ∃ K1, ext w0 (ext w K (fun _ => β + 14)) (fun _ => β + 15) = K1 := ⟨_, rfl⟩
  have m0 : Mv (fun _ => False) w w0 K (ext w K (fun _ => β + 14)) := by rw [← hw0]; exact Mv.alloc w K _ _
  have m1 : Mv (fun _ => False) w0 w1 (ext w K (fun _ => β + 14)) K1 := by rw [← hw1, ← hK1]; exact Mv.alloc w0 _ _ _
  have ba : TB K1 w1 (β + 14) S0 (.cells #[ptr y] 36) := by
    have := TB.new w K (fun _ => β + 14) (.cells #[ptr y] 36) (t := β + 14) rfl
    rw [hw0, hS0] at this
    exact this.mv m1 id
  have bb : TB K1 w1 (β + 15) S1 (opB o) := by
    have := TB.new w0 (ext w K (fun _ => β + 14)) (fun _ => β + 15) (opB o) (t := β + 15) rfl
    rw [hw1, hS1, hK1] at this
    exact this
  have h1 := (h.mv m0 id id id id id id).mv m1 id id id id id id
  obtain ⟨h2, m2⟩ := h1.nilA
  obtain ⟨w2, hw2⟩ : ∃ w2, w1.setCell ⟨y, 2, none⟩ (.slice none 0 0) = w2 := ⟨_, rfl⟩
  rw [hw2] at h2 m2
  obtain ⟨h3, m3⟩ := h2.nilW
  obtain ⟨w3, hw3⟩ : ∃ w3, w2.setCell ⟨y, 3, none⟩ (.slice none 0 0) = w3 := ⟨_, rfl⟩
  rw [hw3] at h3 m3
  have n14 : ¬ (fun t => t = β) (β + 14) := fun e => by simp only at e; omega
  have n15 : ¬ (fun t => t = β) (β + 15) := fun e => by simp only at e; omega
  have ba2 := ba.mv m2 n14
  have ba3 := ba2.mv m3 n14
  have bb3 := (bb.mv m2 n15).mv m3 n15
  have a1 : w1.cell? ⟨S0, 0, none⟩ = some (ptr y) := by unfold World.cell?; rw [ba.at_]; rfl
  have a2 : w2.cell? ⟨S0, 0, none⟩ = some (ptr y) := by unfold World.cell?; rw [ba2.at_]; rfl
  have a3 : w3.cell? ⟨S0, 0, none⟩ = some (ptr y) := by unfold World.cell?; rw [ba3.at_]; rfl
  have y2 := h1.y2
  have f2 := h1.fy 2
  have y3 := h2.y3
  have f3 := h2.fy 3
  have y0 := h3.y0
  have M3 : Hid (Mv (TQ β) w w3 K K1) := ((m0.trans m1).mono (fun _ h => h.elim)).trans ((m2.trans m3).mono (fun t h => by unfold TQ; omega))
  have hB3 : B ≤ w3.heap.size := Nat.le_trans hB (Hid.out M3).size
  have HP := hid (pruneK h3 hB3 o ho ba3 bb3 hV)
  have HO := hid (And.intro ho hV)
  have HBw := hid hB
  clear h hB ho hV m0 m1 ba bb h1 h2 h3 m2 m3 n14 n15 ba2 ba3 bb3 hB3 hK1
  generalize hTN : (takesN (stL most o.m L L L.length) (goneL o.n L) : Nat) = TN at *
  have HTN := hid hTN
  clear hTN
  go_enter Try.func48, Try.ntmps48
  go_wp2_with fail
  refine HP.out.mono ?_
  rintro _ w4 ⟨rfl, K4, va4, s4, ba4, bb4, m4⟩
  have M4 : Hid (Mv (TQ β) w w4 K K4) := M3.out.trans (m4.mono (fun t h => by unfold TP at h; unfold TQ; omega))
  obtain ⟨AA, hAA⟩ : ∃ AA, stA most o.m L L L.length = AA := ⟨_, rfl⟩
  rw [hAA] at s4
  have a4 : w4.cell? ⟨S0, 0, none⟩ = some (ptr y) := by unfold World.cell?; rw [ba4.at_]; rfl
  have y1 := s4.y1
  have HAL : Hid (Calls Try.prog 63 #[ptr x] w4 fun e w' => ∃ v', e = .returned v' ∧ w'.ownsRow w4.heap.size 159 3 v' L.length (L.flatMap prC) ∧ Below w4.heap.size w4 w') := by
    obtain ⟨vd, ds⟩ := s4.ds
    have hx := HX.out
    exact dall_any ds (by omega)
  have HS4 := hid (And.intro s4 (And.intro ba4 bb4))
  have HB4 : Hid (B ≤ w4.heap.size) := Nat.le_trans HBw.out M4.out.size
  clear s4 ba4 bb4 m4 M3 HP a1 a2 a3 y2 f2 y3 f3 y0
  go_wp2_with fail
  refine HAL.out.mono ?_
  rintro _ w5 ⟨vl, rfl, hown, hbe⟩
  have m5 := Mv.of_below hbe K4 (fun _ => β + 8)
  obtain ⟨K5, hK5⟩ : ∃ K5, ext w4 K4 (fun _ => β + 8) = K5 := ⟨_, rfl⟩
  rw [hK5] at m5
  have hrow : RW 159 3 prC K5 w5 w4.heap.size (β + 8) vl L := ⟨hown, fun g hg => by rw [← hK5]; exact ext_new (hown.lt g hg).1⟩
  obtain ⟨n, hn⟩ : ∃ n, L.length = n := ⟨_, rfl⟩
  obtain ⟨oal, capl, hvl, _, hgg⟩ := hrow.form
  rw [hn] at hvl hgg
  subst hvl
  have HGG := hid hgg
  clear hgg
  have HPL : Hid (PL K w K5 w5 B β y p m r x most (pruL most o L) L AA va4 S0 S1 o w4.heap.size (.slice oal n capl) 0 0 (.slice none 0 0)) :=
    ⟨⟨_, HS4.out.1.mv m5 id id id id id id⟩, HS4.out.2.1.mv m5 id, HS4.out.2.2.mv m5 id, hrow, RW.nil _ _ _ _ _ _ _, ⟨Nat.le_trans HB4.out m5.size, m5.size⟩, M4.out.trans (m5.mono (fun _ h => h.elim))⟩
  have HN : Hid (L.length = n ∧ n ≤ 1048576) := ⟨hn, by have hx := HX.out; omega⟩
  have HAA := hid hAA
  clear hown hbe m5 hK5 hrow HS4 HB4 M4 HAL a4 y1 hn hAA HBw
  generalize w4.heap.size = Bl at *
  go_wp2_with fail
  go_loopw [7, 8, 9] (fun u7 u8 _ wr => ∃ (j : Nat) (K' : Nat → Nat), u8 = .int .i64 j ∧ j ≤ n ∧ Hid (PL K w K' wr B β y p m r x most (pruL most o L) L AA va4 S0 S1 o Bl (.slice oal n capl) j j u7)) (fun _ u8 _ _ => n - (intOf u8).toNat)
  case atStart => exact ⟨0, K5, rfl, Nat.zero_le _, HPL.out⟩
  case round =>
    obtain ⟨j, K6, rfl, hj, HL⟩ := hrel
    clear HPL
    obtain ⟨wo, hwo⟩ : ∃ wo, wo = wr := ⟨_, rfl⟩
    subst hwo
    obtain ⟨o7, c7, e7, _, _⟩ := HL.out.g.form
    subst e7
    obtain ⟨n7, hn7⟩ : ∃ n7, (wasJ o L j).length = n7 := ⟨_, rfl⟩
    rw [hn7] at HL ⊢
    have a0 := HL.out.a0
    by_cases hjn : j < n
    · have hj' : (j : Int) < (n : Int) := by omega
      have hj0 : (0 : Int) ≤ (j : Int) := by omega
      have hwr : wrap64 ((j : Int) + 1) = (j : Int) + 1 := by have := HN.out; unfold wrap64; omega
      obtain ⟨z, hz⟩ : ∃ z, L[j]? = some z := ⟨_, List.getElem?_eq_getElem (by rw [HN.out.1]; exact hjn)⟩
      obtain ⟨gl, hgl⟩ := HGG.out (Nat.lt_of_le_of_lt (Nat.zero_le _) hjn)
      subst hgl
      have s0 : wo.cell? ⟨S0, 0, none⟩ = some (ptr y) ∧ wo.cell? ⟨S1, 0, none⟩ = some (.int .i64 o.kd) ∧ wo.cell? ⟨S1, 1, none⟩ = some (.int .i64 o.on) ∧ wo.cell? ⟨S1, 2, none⟩ = some (.string o.k.s) ∧ wo.cell? ⟨S1, 3, none⟩ = some (.int .i64 o.k.n) ∧ wo.cell? ⟨S1, 4, none⟩ = some (.int .i64 o.v) ∧ wo.cell? ⟨S1, 5, none⟩ = some (.int .i64 o.n) ∧ wo.cell? ⟨S1, 6, none⟩ = some (.int .i64 o.m) ∧ wo.cell? ⟨gl, j * 3, none⟩ = some (.string z.k.s) ∧ wo.cell? ⟨gl, j * 3 + 1, none⟩ = some (.int .i64 z.k.n) ∧ wo.cell? ⟨gl, j * 3 + 2, none⟩ = some (.int .i64 z.v) := HL.out.held HN.out.1 hz
      have s1 : ∀ i, (wo.drewN i).cell? ⟨S0, 0, none⟩ = some (ptr y) ∧ (wo.drewN i).cell? ⟨S1, 0, none⟩ = some (.int .i64 o.kd) ∧ (wo.drewN i).cell? ⟨S1, 1, none⟩ = some (.int .i64 o.on) ∧ (wo.drewN i).cell? ⟨S1, 2, none⟩ = some (.string o.k.s) ∧ (wo.drewN i).cell? ⟨S1, 3, none⟩ = some (.int .i64 o.k.n) ∧ (wo.drewN i).cell? ⟨S1, 4, none⟩ = some (.int .i64 o.v) ∧ (wo.drewN i).cell? ⟨S1, 5, none⟩ = some (.int .i64 o.n) ∧ (wo.drewN i).cell? ⟨S1, 6, none⟩ = some (.int .i64 o.m) ∧ (wo.drewN i).cell? ⟨gl, j * 3, none⟩ = some (.string z.k.s) ∧ (wo.drewN i).cell? ⟨gl, j * 3 + 1, none⟩ = some (.int .i64 z.k.n) ∧ (wo.drewN i).cell? ⟨gl, j * 3 + 2, none⟩ = some (.int .i64 z.v) := fun _ => s0
      have HWC : Hid (∀ i, Calls Try.prog 64 #[ptr y, opV o, keyV z.k, .int .i64 z.v] (wo.drewN i) fun e w' => e = .returned (.bool (ansJ o.n L j)) ∧ Hid (∃ K', PL K w K' w' B β y p m r x most (pruL most o L) L AA va4 S0 S1 o Bl (.slice (some ⟨gl, 0, none⟩) n capl) (j + 1) j (.slice o7 n7 c7))) := fun i =>
        (HL.out.to (w' := wo.drewN i) (K' := K6) (T := fun _ => False) ⟨rfl, rfl, rfl, Nat.le_refl _, fun _ _ => rfl, fun _ _ _ => rfl⟩ (fun _ => id)).ask HO.out.1 HO.out.2 HX.out.1 HX.out.2.1 HX.out.2.2 hz
      have HZ := hid hz
      obtain ⟨bw, hbw⟩ : ∃ bw, ansJ o.n L j = bw := ⟨_, rfl⟩
      rw [hbw] at HWC
      have HBW := hid hbw
      clear HL hz hbw hj
      go_wp2_with fail
      go_region_held3 (fun w' => w'.cell? ⟨S0, 0, none⟩ = some (ptr y) ∧ w'.cell? ⟨S1, 0, none⟩ = some (.int .i64 o.kd) ∧ w'.cell? ⟨S1, 1, none⟩ = some (.int .i64 o.on) ∧ w'.cell? ⟨S1, 2, none⟩ = some (.string o.k.s) ∧ w'.cell? ⟨S1, 3, none⟩ = some (.int .i64 o.k.n) ∧ w'.cell? ⟨S1, 4, none⟩ = some (.int .i64 o.v) ∧ w'.cell? ⟨S1, 5, none⟩ = some (.int .i64 o.n) ∧ w'.cell? ⟨S1, 6, none⟩ = some (.int .i64 o.m) ∧ w'.cell? ⟨gl, j * 3, none⟩ = some (.string z.k.s) ∧ w'.cell? ⟨gl, j * 3 + 1, none⟩ = some (.int .i64 z.k.n) ∧ w'.cell? ⟨gl, j * 3 + 2, none⟩ = some (.int .i64 z.v)) (first | with_reducible exact s0 | with_reducible exact s1 _ | with_reducible exact s7 | exact s0) (first
        | (go_at_call 64
           refine (HWC.out _).mono ?_
           rintro _ w6 ⟨rfl, H6⟩
           have s7 : w6.cell? ⟨S0, 0, none⟩ = some (ptr y) ∧ w6.cell? ⟨S1, 0, none⟩ = some (.int .i64 o.kd) ∧ w6.cell? ⟨S1, 1, none⟩ = some (.int .i64 o.on) ∧ w6.cell? ⟨S1, 2, none⟩ = some (.string o.k.s) ∧ w6.cell? ⟨S1, 3, none⟩ = some (.int .i64 o.k.n) ∧ w6.cell? ⟨S1, 4, none⟩ = some (.int .i64 o.v) ∧ w6.cell? ⟨S1, 5, none⟩ = some (.int .i64 o.n) ∧ w6.cell? ⟨S1, 6, none⟩ = some (.int .i64 o.m) ∧ w6.cell? ⟨gl, j * 3, none⟩ = some (.string z.k.s) ∧ w6.cell? ⟨gl, j * 3 + 1, none⟩ = some (.int .i64 z.k.n) ∧ w6.cell? ⟨gl, j * 3 + 2, none⟩ = some (.int .i64 z.v) := by
             obtain ⟨K7, P7⟩ := H6.out
             exact P7.held HN.out.1 HZ.out))
      obtain ⟨_, _, _, _, _, _, _, _, r0, r1, _⟩ := s7
      obtain ⟨K7, P7⟩ := H6.out
      clear H6 HWC s0 s1 a0
      cases bw
      · obtain ⟨w7, hw7⟩ : ∃ w7, w6.alloc (.cells #[.string z.k.s, .int .i64 z.k.n] 32) = w7 := ⟨_, rfl⟩
        obtain ⟨o8, c8, w8, K8, hap, P8⟩ := P7.gone HZ.out HBW.out (Nat.le_trans (Nat.le_of_lt hjn) HN.out.2) hw7
        have H8 := hid P8
        have hbs1 := fun w => bls109 w z.k.s z.k.n
        obtain ⟨N, hN⟩ : ∃ N, w6.heap.size = N := ⟨_, rfl⟩
        rw [hN] at hap
        have HAP := hid hap
        clear P7 P8 hap HZ HBW
        go_wp2_with (at_builtin; refine Hid.out ?_)
        refine (show Hid _ from ?_)
        refine wpList_app rfl _ _ 109 rfl _ _ _ _ rfl rfl (HAP.out _) ?_
        go_wp2
        go_roundw
        case rel => exact ⟨j + 1, K8, by rw [hwr]; rfl, hjn, H8.out⟩
        case measure => exact meas hwr hj'
      · have H8 := hid (P7.stays HZ.out HBW.out)
        clear P7 HZ HBW r0 r1
        go_wp2
        go_roundw
        case rel => exact ⟨j + 1, K7, by rw [hwr]; rfl, hjn, H8.out⟩
        case measure => exact meas hwr hj'
    · obtain rfl : j = n := by omega
      have hA5 : stA most o.m L L j = AA := by rw [← HAA.out, HN.out.1]
      have hlA : AA.length = j := by rw [← hA5]; exact stA_len j (by rw [HN.out.1]; exact Nat.le_refl _)
      have hjm : j ≤ 1048576 := HN.out.2
      obtain ⟨vw5, sd⟩ := HL.out.sd
      rw [hA5] at sd
      obtain ⟨o3, c3, e3, _, hg3⟩ := sd.ask.form
      obtain ⟨o4, c4, e4, _, hg4⟩ := sd.was.form
      rw [hlA] at e3 e4 hg3 hg4
      subst e3 e4
      have HG3 := hid hg3
      have HG4 := hid hg4
      clear hg3 hg4
      have y2 := sd.y2
      have y3 := sd.y3
      have y1 := sd.y1
      have HSD := hid (And.intro sd.ask sd.was)
      have HE : Hid (∀ q, Calls Try.prog 65 #[ptr x, .slice o7 n7 c7] (wo.drewN q) fun e w' => e = .returned (.int .i64 (TN : Nat)) ∧ Hid (∃ K' A' W' va' vw', SD K' w' B β y p m r x most (pruL most o L) (pruL most o L) A' W' va' vw' ∧ Mv (TQ β) w w' K K')) := fun q => by
        have md : Mv (fun _ => False) wo (wo.drewN q) K6 K6 := ⟨rfl, rfl, rfl, Nat.le_refl _, fun _ _ => rfl, fun _ _ _ => rfl⟩
        have P := HL.out.to md (fun _ => id)
        obtain ⟨vw, s⟩ := P.sd
        obtain ⟨vd, ds⟩ := s.ds
        have hx := HX.out
        have hl := stL_len (m := o.m) (l := L) hx.2.1 j
        have hw := wasJ_len o L j
        refine (dtakes_any ds P.hB.1 (by omega) (stL_nd hx.1 j) (t' := β + 9) (by omega) P.g (by omega)).mono ?_
        rintro _ w' ⟨rfl, K', v', hds, mv⟩
        have e : wasJ o L j = goneL o.n L := by unfold wasJ goneL; rw [HN.out.1]
        have e2 : pruL most o L = takesL (stL most o.m L L j) (wasJ o L j) := by unfold pruL; rw [HN.out.1, e]
        refine ⟨by rw [e, ← HTN.out, HN.out.1], K', _, _, _, vw, s.docs mv (fun t h => h) ⟨v', ?_⟩, P.mv.trans (mv.mono (fun t h => by unfold T2 at h; unfold TQ; omega))⟩
        rw [e2]
        exact hds
      have keq : ((j : Int) == (j : Int)) = true := by simp
      have kTN : ((TN : Int) == (TN : Int)) = true := by simp
      have HLA := hid hlA
      clear HL sd hA5 HO HX HTN hlA
      go_wp2_with fail
      go_quiet (fail)
      go_wp2_with fail
      go_loopw [10] (fun u10 wr2 => ∃ i q : Nat, u10 = .int .i64 i ∧ i ≤ j ∧ wo.drewN q = wr2) (fun u10 _ => j - (intOf u10).toNat)
      case atStart => exact ⟨0, _, rfl, Nat.zero_le _, rfl⟩
      case round =>
        obtain ⟨i, q, rfl, hi, hwq⟩ := hrel
        have a0' : wr.cell? ⟨S0, 0, none⟩ = some (ptr y) := by rw [← hwq]; exact a0
        have y1' : wr.cell? ⟨y, 1, none⟩ = some (ptr x) := by rw [← hwq]; exact y1
        have y2' : wr.cell? ⟨y, 2, none⟩ = some (.slice o3 j c3) := by rw [← hwq]; exact y2
        have y3' : wr.cell? ⟨y, 3, none⟩ = some (.slice o4 j c4) := by rw [← hwq]; exact y3
        have HWK : Hid (∀ m, wo.drewN (q + m) = wr.drewN m) := fun m => by rw [← hwq, World.drewN_drewN]
        clear a0 y1 y2 y3
        by_cases hij : i < j
        · have hi' : (i : Int) < (j : Int) := by omega
          have hi0 : (0 : Int) ≤ (i : Int) := by omega
          have hwr : wrap64 ((i : Int) + 1) = (i : Int) + 1 := by unfold wrap64; omega
          obtain ⟨u, hu⟩ : ∃ u, AA[i]? = some u := ⟨_, List.getElem?_eq_getElem (by rw [HLA.out]; exact hij)⟩
          obtain ⟨g3, hg3⟩ := HG3.out (Nat.lt_of_le_of_lt (Nat.zero_le _) hij)
          obtain ⟨g4, hg4⟩ := HG4.out (Nat.lt_of_le_of_lt (Nat.zero_le _) hij)
          subst hg3 hg4
          have kc : ∀ k, k < 5 → wr.cell? ⟨g3, i * 5 + k, none⟩ = (asC u)[k]? := fun k hk => by rw [← hwq]; exact HSD.out.1.cell asL HLA.out hu k hk
          have kd : ∀ k, k < 5 → wr.cell? ⟨g4, i * 5 + k, none⟩ = (asC u)[k]? := fun k hk => by rw [← hwq]; exact HSD.out.2.cell asL HLA.out hu k hk
          have r0 : wr.cell? ⟨g3, i * 5, none⟩ = some (.string u.k.s) := kc 0 (by omega)
          have r1 : wr.cell? ⟨g3, i * 5 + 1, none⟩ = some (.int .i64 u.k.n) := kc 1 (by omega)
          have r2 : wr.cell? ⟨g3, i * 5 + 2, none⟩ = some (.int .i64 u.v) := kc 2 (by omega)
          have r3 : wr.cell? ⟨g3, i * 5 + 3, none⟩ = some (.int .i64 u.len) := kc 3 (by omega)
          have r4 : wr.cell? ⟨g3, i * 5 + 4, none⟩ = some (.int .i64 u.there) := kc 4 (by omega)
          have d0 : wr.cell? ⟨g4, i * 5, none⟩ = some (.string u.k.s) := kd 0 (by omega)
          have d1 : wr.cell? ⟨g4, i * 5 + 1, none⟩ = some (.int .i64 u.k.n) := kd 1 (by omega)
          have d2 : wr.cell? ⟨g4, i * 5 + 2, none⟩ = some (.int .i64 u.v) := kd 2 (by omega)
          have d3 : wr.cell? ⟨g4, i * 5 + 3, none⟩ = some (.int .i64 u.len) := kd 3 (by omega)
          have d4 : wr.cell? ⟨g4, i * 5 + 4, none⟩ = some (.int .i64 u.there) := kd 4 (by omega)
          have hq := fun w => neq165 w u
          have hgd := fun w op x y xs ys => guard165n w op x y xs ys
          have HSP := hid (And.intro hij (And.intro hwr hi'))
          clear kc kd hu hwq y1'
          go_wp2_with fail
          go_quiet (fail)
          go_wp2
          go_roundw
          case rel => exact ⟨i + 1, _, by rw [HSP.out.2.1]; rfl, HSP.out.1, HWK.out _⟩
          case measure => exact meas HSP.out.2.1 HSP.out.2.2
        · obtain rfl : i = j := by omega
          have HE1 := hid (HE.out q)
          rw [hwq] at HE1
          clear HE HSD HLA hwq
          go_wp2_with fail
          refine HE1.out.mono ?_
          rintro _ w' ⟨rfl, HF⟩
          go_wp2
          go_ret
          exact ⟨rfl, HF.out⟩
end Go.Proofs.Ytkkamilmjaochaa
