/- Services: the document's Offer, walked. -/
import Derived.Test.YtcpjihaicmlmjaaPTc
namespace Go.Proofs.Ytcpjihaicmlmjaa
open Go.RowKit
theorem below_draws {B : Nat} {W w : World} (h : Below B W w) (n : Nat) : Below B W (w.drewN n) := ⟨h.os, h.tape, h.output, h.size, h.block⟩
theorem may_false (s : Sv) : mayP s false = false := by unfold mayP; simp
theorem offerE_form {L : List Sv} {s : Sv} {nn : Bool} (h : (rmayP s && nn) = false) : offerE L s nn = 180 := by
  unfold offerE
  rw [if_pos]
  cases nn
  · exact may_false s
  · rw [may_same]; simpa using h
theorem offerE_else {L : List Sv} {s : Sv} (h : rmayP s = true) : offerE L s true = if (L.find? (isIt s.prog s.vers)).isSome = true then 181 else if L.length = 16 ∨ 16 < L.length then 182 else 0 := by
  unfold offerE
  rw [if_neg (by rw [may_same, h]; simp)]
  congr 2
  simp only [eq_iff_iff]
  omega
set_option maxRecDepth 8000 in
set_option maxHeartbeats 40000000 in
theorem doffer_any {K : Nat → Nat} {w : World} {t u b : Nat} {vv : Value} {L : List Sv} (h : RR K w t u b vv L) (ht : ¬ t = 7) (hu : ¬ u = 7) (htu : ¬ u = t) (s : Sv) (nn : Bool) (hg : GsAt w w.heap.size s.oa s.procs) (hl : s.procs.length ≤ 17592186044416) :
    Calls Try.prog 16 #[ptr b, .agg (rvA s), .bool nn] w fun e w' => ∃ K' v' L', e = .returned (.int .i64 (offerE L s nn)) ∧ RR K' w' t u b v' L' ∧ Mv (fun x => x = t ∨ x = u) w w' K K' ∧ Took L L' s (offerE L s nn) := by
  obtain ⟨oa, cap, rfl⟩ := h.form
  obtain ⟨w0, hw0⟩ : ∃ w0, w.alloc (.cells (rvA s) 55) = w0 := ⟨_, rfl⟩
  obtain ⟨S0, hS0⟩ : ∃ S0, w.heap.size = S0 := ⟨_, rfl⟩
  have B0 : Below w.heap.size w w0 := by rw [← hw0]; exact (Below.refl _ _).alloc (Nat.le_refl _) _
  have k0 : w0.heap[S0]? = some (.cells (rvA s) 55) := by rw [← hw0, ← hS0]; exact (MapKept.heap_alloc w _).1
  have hlt0 : S0 < w0.heap.size := (Array.getElem?_eq_some_iff.1 k0).1
  have HC : Hid (∀ w', Below w0.heap.size w0 w' → w'.heap[S0]? = some (.cells (rvA s) 55)) := fun w' hb => (hb.block S0 hlt0).trans k0
  have c0 : w0.cell? ⟨S0, 0, none⟩ = some (.int .i64 s.prog) := by unfold World.cell?; rw [k0]; rfl
  have c1 : w0.cell? ⟨S0, 1, none⟩ = some (.int .i64 s.vers) := by unfold World.cell?; rw [k0]; rfl
  have c2 : w0.cell? ⟨S0, 2, none⟩ = some (.slice s.oa s.procs.length s.cap) := by unfold World.cell?; rw [k0]; rfl
  have HM := hid (may_any s w0 ((hg.below B0).mono B0.size) (Nat.le_trans hl (by omega)))
  have HB0 := hid B0
  have H0 := hid h
  have HG := hid hg
  have HL := hid hl
  have HTG := hid (And.intro ht (And.intro hu htu))
  obtain ⟨R, hR⟩ : ∃ R, offerE L s nn = R := ⟨_, rfl⟩
  have HRR := hid hR
  rw [hR]
  have HF : Hid (∀ w', Below w.heap.size w w' → ¬ R = 0 → ∃ K' v' L', RR K' w' t u b v' L' ∧ Mv (fun x => x = t ∨ x = u) w w' K K' ∧ Took L L' s R) := fun w' hb hr =>
    ⟨_, _, _, h.below hb (fun _ => 7), (Mv.of_below hb K (fun _ => 7)).mono (fun _ h => h.elim), .inl ⟨hr, rfl⟩⟩
  obtain ⟨q, hq⟩ : ∃ q, rmayP s = q := ⟨_, rfl⟩
  rw [hq] at HM
  have HQ := hid hq
  clear h hg hl B0 k0 hR hlt0 hq ht hu htu
  go_enter Try.func16, Try.ntmps16
  go_wp2_with fail
  refine HM.out.mono ?_
  rintro _ w1 ⟨rfl, hb1⟩
  have HB1 := hid hb1
  have HB01 := hid (HB0.out.trans (hb1.mono HB0.out.size))
  clear hb1 HM c0 c1 c2
  by_cases hqn : (q && nn) = false
  · have hR : 180 = R := by rw [← HRR.out]; exact (offerE_form (by rw [HQ.out]; exact hqn)).symm
    subst hR
    cases q
    · go_wp2
      go_ret
      obtain ⟨K', v', L', f1, f2, f3⟩ := HF.out w1 HB01.out (by omega)
      exact ⟨K', v', L', rfl, f1, f2, f3⟩
    · obtain rfl : nn = false := by simpa using hqn
      go_wp2
      go_ret
      obtain ⟨K', v', L', f1, f2, f3⟩ := HF.out w1 HB01.out (by omega)
      exact ⟨K', v', L', rfl, f1, f2, f3⟩
  · obtain ⟨rfl, rfl⟩ : q = true ∧ nn = true := by simpa using hqn
    have HR2 := hid ((offerE_else HQ.out).symm.trans HRR.out)
    clear hqn HRR
    obtain ⟨r, hr⟩ : ∃ r, L.find? (isIt s.prog s.vers) = r := ⟨_, rfl⟩
    have HRF : Hid ((L.drop 0).find? (isIt s.prog s.vers) = r) := by
      show _ = _
      rw [List.drop_zero]; exact hr
    rw [hr] at HR2
    obtain ⟨n, hn⟩ : ∃ n, L.length = n := ⟨_, rfl⟩
    have HN := hid hn
    rw [hn] at HR2
    have HMO := hid (hn ▸ H0.out.most)
    rw [hn] at H0
    clear hr hn
    go_wp2_with fail
    go_loopw [8] (fun ix wr => ∃ (j : Nat), ix = .int .i64 j ∧ j ≤ n ∧ Hid ((L.drop j).find? (isIt s.prog s.vers) = r) ∧ Hid (Below w1.heap.size w1 wr)) (fun ix _ => n - (intOf ix).toNat)
    case atStart => exact ⟨0, rfl, by omega, HRF, (Below.refl _ _ : Below w1.heap.size w1 w1)⟩
    case round =>
      obtain ⟨j, rfl, hj, HE, HBr⟩ := hrel
      have HBw := hid (HB01.out.trans (HBr.out.mono HB01.out.size))
      have HB0r := hid (HB1.out.trans (HBr.out.mono HB1.out.size))
      have cr := (H0.out.below HBw.out (fun _ => 9)).c0
      have k0 := HC.out _ HB0r.out
      have c0 : wr.cell? ⟨S0, 0, none⟩ = some (.int .i64 s.prog) := by unfold World.cell?; rw [k0]; rfl
      have c1 : wr.cell? ⟨S0, 1, none⟩ = some (.int .i64 s.vers) := by unfold World.cell?; rw [k0]; rfl
      clear k0
      by_cases hlt : j < n
      · obtain ⟨g, ho, hg, hc⟩ := H0.out.at_ (by have := HN.out; omega)
        obtain ⟨x, hs⟩ : ∃ x, L[j]? = some x := ⟨L[j]'(by have := HN.out; omega), List.getElem?_eq_getElem _⟩
        have d0 : wr.cell? ⟨g, j * 3, none⟩ = some (.int .i64 x.prog) := (cell_of_block (HBw.out.block g hg)).trans (hc j x hs 0 (by omega))
        have d1 : wr.cell? ⟨g, j * 3 + 1, none⟩ = some (.int .i64 x.vers) := (cell_of_block (HBw.out.block g hg)).trans (hc j x hs 1 (by omega))
        have HE2 := hid ((find_at (isIt s.prog s.vers) L j x hs).symm.trans HE.out)
        subst ho
        have j0 : (0 : Int) ≤ (j : Int) := by omega
        have j1 : (j : Int) < (n : Int) := by omega
        have hw := wrapJ hlt (Nat.le_trans HMO.out (by omega))
        clear hc hs
        cases hp : (x.prog == s.prog)
        · have hr : Hid ((L.drop (j + 1)).find? (isIt s.prog s.vers) = r) := by
            have := HE2.out
            rw [if_neg (by unfold isIt; rw [hp]; simp)] at this
            exact this
          go_wp2_with fail
          go_quiet (fail)
          go_wp2
          go_roundw
          case rel => exact ⟨j + 1, by go_num, hlt, hr, below_draws HBr.out _⟩
          case measure => exact meas (by go_num) j1
        · cases hv : (x.vers == s.vers)
          · have hr : Hid ((L.drop (j + 1)).find? (isIt s.prog s.vers) = r) := by
              have := HE2.out
              rw [if_neg (by unfold isIt; rw [hp, hv]; simp)] at this
              exact this
            go_wp2_with fail
            go_quiet (fail)
            go_wp2
            go_roundw
            case rel => exact ⟨j + 1, by go_num, hlt, hr, below_draws HBr.out _⟩
            case measure => exact meas (by go_num) j1
          · have hr : some x = r := by
              have := HE2.out
              rw [if_pos (by unfold isIt; rw [hp, hv]; rfl)] at this
              exact this
            subst hr
            have hR : 181 = R := HR2.out
            subst hR
            go_wp2_with fail
            go_quiet (fail)
            go_wp2
            go_ret
            obtain ⟨K', v', L', f1, f2, f3⟩ := HF.out _ (below_draws HBw.out _) (by omega)
            exact ⟨K', v', L', rfl, f1, f2, f3⟩
      · obtain rfl : j = n := by omega
        have hr : none = r := by
          rw [← HE.out, List.drop_eq_nil_of_le (by have := HN.out; omega)]; rfl
        subst hr
        have HR3 : Hid ((if j = 16 ∨ 16 < j then 182 else 0) = R) := HR2.out
        by_cases hfull : j = 16
        · rw [if_pos (.inl hfull)] at HR3
          have hR : 182 = R := HR3.out
          subst hR
          have hji : ((j : Int) == 16) = true := by rw [hfull]; rfl
          clear hfull HR3
          go_wp2
          go_ret
          obtain ⟨K', v', L', f1, f2, f3⟩ := HF.out _ HBw.out (by omega)
          exact ⟨K', v', L', rfl, f1, f2, f3⟩
        · rw [if_neg (by have := HMO.out; omega)] at HR3
          have hR : 0 = R := HR3.out
          subst hR
          have hji : ((j : Int) == 16) = false := by simp; omega
          have c2 : wr.cell? ⟨S0, 2, none⟩ = some (.slice s.oa s.procs.length s.cap) := by unfold World.cell?; rw [HC.out _ HB0r.out]; rfl
          obtain ⟨m, hm⟩ : ∃ m, s.procs.length = m := ⟨_, rfl⟩
          have HMM := hid hm
          -- the worlds of the region that draws
          have D0 : Below w.heap.size w wr.drew := ⟨HBw.out.os, HBw.out.tape, HBw.out.output, HBw.out.size, HBw.out.block⟩
          have k0' := HC.out _ HB0r.out
          have k0 : wr.drew.heap[S0]? = some (.cells (rvA s) 55) := k0'
          have e0 : wr.drew.cell? ⟨S0, 0, none⟩ = some (.int .i64 s.prog) := c0
          have e1 : wr.drew.cell? ⟨S0, 1, none⟩ = some (.int .i64 s.vers) := c1
          have e2 : wr.drew.cell? ⟨S0, 2, none⟩ = some (.slice s.oa m s.cap) := by rw [← hm]; exact c2
          have er : wr.drew.cell? ⟨b, 0, none⟩ = some (.slice oa j cap) := cr
          obtain ⟨ob, oc, w5, hr5, hg5, hb5⟩ := app_nil s.procs s.oa s.cap wr.drew ((HG.out.below D0).mono D0.size) HL.out
          have B5 : Below w.heap.size w w5 := D0.trans (hb5.mono D0.size)
          have hlS : S0 < wr.drew.heap.size := (Array.getElem?_eq_some_iff.1 k0).1
          have k5 : w5.heap[S0]? = some (.cells (rvA s) 55) := (hb5.block S0 hlS).trans k0
          have p0 : w5.cell? ⟨S0, 0, none⟩ = some (.int .i64 s.prog) := by unfold World.cell?; rw [k5]; rfl
          have p1 : w5.cell? ⟨S0, 1, none⟩ = some (.int .i64 s.vers) := by unfold World.cell?; rw [k5]; rfl
          have pr := (H0.out.below B5 (fun _ => 7)).c0
          obtain ⟨sx, hsx⟩ : ∃ sx : Sv, sx = ⟨s.prog, s.vers, s.procs, ob, oc⟩ := ⟨_, rfl⟩
          have hA : rvA sx = #[.int .i64 s.prog, .int .i64 s.vers, .slice ob m oc] := by rw [hsx, ← hm]
          obtain ⟨S6, hS6⟩ : ∃ S6, w5.heap.size = S6 := ⟨_, rfl⟩
          obtain ⟨w6, hw6⟩ : ∃ w6, w5.alloc (.cells #[.int .i64 s.prog, .int .i64 s.vers, .slice ob m oc] 55) = w6 := ⟨_, rfl⟩
          have b6 : Below w5.heap.size w5 w6 := by rw [← hw6]; exact (Below.refl _ _).alloc (Nat.le_refl _) _
          have B6 : Below w.heap.size w w6 := B5.trans (b6.mono B5.size)
          have k6 : w6.heap[S6]? = some (.cells (rvA sx) 55 (0, 0)) := by rw [hA, ← hw6, ← hS6]; exact (MapKept.heap_alloc w5 _).1
          have P6 := H0.out.below B6 (fun _ => 7)
          have pr6 := P6.c0
          have hgs : GsT (ext w K (fun _ => 7)) w6 7 sx.oa sx.procs := by
            rw [hsx]
            intro h0
            obtain ⟨q', off, a1, a2, a3, a4⟩ := hg5 h0
            exact ⟨q', off, a1, Nat.lt_of_lt_of_le a3 b6.size, ext_new (Nat.le_trans D0.size a2), fun i hi => (cell_of_block (b6.block q' a3)).trans (a4 i hi)⟩
          have hok : okS sx := by
            have := HQ.out
            unfold rmayP at this
            simp only [Bool.and_eq_true] at this
            rw [hsx]
            exact ⟨this.1, this.2.1, this.2.2, HL.out⟩
          obtain ⟨v7, w7, K7, hr7, ⟨oa7, c7, rfl⟩, q7, f7, P7, m7⟩ := P6.add HTG.out.1 HTG.out.2.1 HTG.out.2.2 k6 hgs hok (by rw [HN.out]; have := HMO.out; omega)
          rw [HN.out] at hr7 P7 m7
          obtain ⟨w8, hw8⟩ : ∃ w8, w7.setCell ⟨b, 0, none⟩ (.slice oa7 (j + 1) c7) = w8 := ⟨_, rfl⟩
          rw [hw8] at P7 m7
          have HFIN : Hid (RR K7 w8 t u b (.slice oa7 (j + 1) c7) (L ++ [sx]) ∧ Mv (fun x => x = t ∨ x = u) w w8 K K7 ∧ Took L (L ++ [sx]) s 0) :=
            ⟨P7, ((Mv.of_below B6 K (fun _ => 7)).mono (fun _ h => h.elim)).trans m7, .inr ⟨rfl, ob, oc, by rw [hsx]⟩⟩
          rw [hm] at hr5
          have HR5 := hid hr5
          have HR7 := hid hr7
          have hb28 := bls28
          have hb55 := bld55
          clear hg5 hb5 k5 B5 hlS k0 k0' D0 b6 B6 k6 P6 hgs hok hr7 hr5 P7 m7 hsx hA c2 c0 c1 hm
          go_wp2_with fail
          clear HC HB0 HG HL HF HQ HR2 HRF HN HMO HB1 HB01 HE HBr HBw HB0r HTG HR3 H0 HMM cr hw0 hS0 hj hlt hfull
          go_region_law (first
            | (refine step_app rfl (.tmp 66) (.tmp 68) 32 rfl (.slice none 0 0) (.slice s.oa m s.cap) _ _ (by go_simp) (by go_simp) (HR5.out _) ?_)
            | (refine step_app rfl (.tmp 61) (.tmp 71) 28 rfl (.slice oa j cap) (.slice (some ⟨S6, 0, none⟩) 1 1) _ _ (by go_simp) (by go_simp) (HR7.out _) ?_))
          all_goals (
            go_wp2
            go_ret
            exact ⟨_, _, _, rfl, HFIN.out⟩)
end Go.Proofs.Ytcpjihaicmlmjaa
